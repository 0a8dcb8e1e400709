/-
  package step: the machine's state in memory, and how one step turns it.
-/
import Derived.Test.YtechpdfcgimkkaaDoorMDC
import Derived.Test.YtechpdfcgimkkaaDoorMCC
namespace Go.Proofs.YtechpdfcgimkkaaDoor
open Go.RowKit Go.Joins Isa
/-- A machine's state. -/
structure Mc where
  rs : List Vl
  mem : List Vl
  ins : List Int
  told : List Int
  pc : Int
def Mc.cells (rs : List Vl) (vM vT vI vO : Value) (pc : Int) : Array Value := (flat Vl.cells rs ++ [vM, vT, vI, vO, .int .i64 pc]).toArray
/-- One block has turned, the other old ones stand. -/
structure Chg (w w' : World) (g : Nat) (cs : Array Value) (T : TypeId) : Prop where
  os : w'.os = w.os
  tape : w'.tape = w.tape
  output : w'.output = w.output
  size : w.heap.size ≤ w'.heap.size
  lt : g < w.heap.size
  new : w'.heap[g]? = some (.cells cs T)
  rest : ∀ k, k < w.heap.size → k ≠ g → w'.heap[k]? = w.heap[k]?
theorem Chg.refl {w : World} {g : Nat} {cs : Array Value} {T : TypeId} (h : w.heap[g]? = some (.cells cs T)) : Chg w w g cs T := ⟨rfl, rfl, rfl, Nat.le_refl _, (Array.getElem?_eq_some_iff.1 h).1, h, fun _ _ _ => rfl⟩
theorem Chg.up {w w1 w' : World} {g : Nat} {cs : Array Value} {T : TypeId} (h : Chg w w1 g cs T) (hb : Below w1.heap.size w1 w') : Chg w w' g cs T :=
  ⟨hb.os.trans h.os, hb.tape.trans h.tape, hb.output.trans h.output, Nat.le_trans h.size hb.size, h.lt, (hb.block g (Nat.lt_of_lt_of_le h.lt h.size)).trans h.new, fun k hk hg => (hb.block k (Nat.lt_of_lt_of_le hk h.size)).trans (h.rest k hk hg)⟩
theorem Chg.alloc {w w1 : World} {g : Nat} {cs : Array Value} {T : TypeId} (h : Chg w w1 g cs T) (o : Obj) : Chg w (w1.alloc o) g cs T := h.up ((Below.refl _ _).alloc (Nat.le_refl _) _)
theorem Chg.drew {w w1 : World} {g : Nat} {cs : Array Value} {T : TypeId} (h : Chg w w1 g cs T) : Chg w w1.drew g cs T := h.up ((Below.refl _ _).drew)
theorem Chg.drewN {w w1 : World} {g : Nat} {cs : Array Value} {T : TypeId} (h : Chg w w1 g cs T) (n : Nat) : Chg w (w1.drewN n) g cs T := h.up (below_drewN (Below.refl _ _) n)
theorem Chg.set {w w1 : World} {g : Nat} {cs : Array Value} {T : TypeId} (h : Chg w w1 g cs T) (o : Nat) (v : Value) : Chg w (w1.setCell ⟨g, o, none⟩ v) g (cs.setIfInBounds o v) T := by
  have hb : Below g w1 (w1.setCell ⟨g, o, none⟩ v) := (Below.refl _ _).setCell (p := ⟨g, o, none⟩) (Nat.le_refl _) v
  refine ⟨hb.os.trans h.os, hb.tape.trans h.tape, hb.output.trans h.output, Nat.le_trans h.size hb.size, h.lt, heap_setCell_same _ _ _ _ _ _ h.new, fun k hk hg => ?_⟩
  rw [heap_setCell_other _ _ _ _ hg]
  exact h.rest k hk hg
theorem Chg.below {w w' : World} {g : Nat} {cs : Array Value} {T : TypeId} (h : Chg w w' g cs T) {B : Nat} (hB : B ≤ g) : Below B w w' := ⟨h.os, h.tape, h.output, h.size, fun k hk => h.rest k (Nat.lt_of_lt_of_le hk (Nat.le_trans hB (Nat.le_of_lt h.lt))) (by omega)⟩
theorem flat_set2 (v : Vl) : ∀ (rs : List Vl) (D : Nat), D < rs.length → ((flat Vl.cells rs).set (D * 2) (.int .i64 v.n)).set (D * 2 + 1) (.bool v.c) = flat Vl.cells (rs.set D v)
  | x :: rs, 0, _ => rfl
  | x :: rs, D + 1, h => by
    have ih := flat_set2 v rs D (by simpa using h)
    show (([Value.int .i64 x.n, Value.bool x.c] ++ flat Vl.cells rs).set ((D + 1) * 2) _).set ((D + 1) * 2 + 1) _ = [Value.int .i64 x.n, Value.bool x.c] ++ flat Vl.cells (rs.set D v)
    rw [← ih, show (D + 1) * 2 = D * 2 + 1 + 1 by omega]
    rfl
theorem cells_reg (rs : List Vl) (vM vT vI vO : Value) (pc : Int) (hl : rs.length = 8) (D : Nat) (hD : D < 8) (v : Vl) : ((Mc.cells rs vM vT vI vO pc).setIfInBounds (D * 2) (.int .i64 v.n)).setIfInBounds (D * 2 + 1) (.bool v.c) = Mc.cells (rs.set D v) vM vT vI vO pc := by
  have hf := flat_len vlcell_len rs
  unfold Mc.cells
  rw [List.setIfInBounds_toArray, List.setIfInBounds_toArray, List.set_append_left _ _ (by omega), List.set_append_left _ _ (by rw [List.length_set]; omega), flat_set2 v rs D (by omega)]
theorem cells_pc (rs : List Vl) (vM vT vI vO : Value) (pc pc' : Int) (hl : rs.length = 8) : (Mc.cells rs vM vT vI vO pc).setIfInBounds 20 (.int .i64 pc') = Mc.cells rs vM vT vI vO pc' := by
  have hf := flat_len vlcell_len rs
  rw [hl] at hf
  unfold Mc.cells
  rw [List.setIfInBounds_toArray, List.set_append_right _ _ (by omega), hf]
  rfl
theorem cells_told (rs : List Vl) (vM vT vI vO vO' : Value) (pc : Int) (hl : rs.length = 8) : (Mc.cells rs vM vT vI vO pc).setIfInBounds 19 vO' = Mc.cells rs vM vT vI vO' pc := by
  have hf := flat_len vlcell_len rs
  rw [hl] at hf
  unfold Mc.cells
  rw [List.setIfInBounds_toArray, List.set_append_right _ _ (by omega), hf]
  rfl
theorem cells_ins (rs : List Vl) (vM vT vI vO vI' : Value) (pc : Int) (hl : rs.length = 8) : (Mc.cells rs vM vT vI vO pc).setIfInBounds 18 vI' = Mc.cells rs vM vT vI' vO pc := by
  have hf := flat_len vlcell_len rs
  rw [hl] at hf
  unfold Mc.cells
  rw [List.setIfInBounds_toArray, List.set_append_right _ _ (by omega), hf]
  rfl
/-- The machine's state in memory. w0: the world at the run's start, all of whose blocks lie ahead of B. -/
structure MSt (w0 w : World) (B gm gd : Nat) (vT vI vO : Value) (s : Mc) : Prop where
  mach : MachAt w gm s.rs (.slice (some ⟨gd, 0, none⟩) s.mem.length s.mem.length) vT vI vO s.pc
  mem : w.heap[gd]? = some (.cells (flat Vl.cells s.mem).toArray 101)
  told : w.ownsRow B 3 1 vO s.told.length (flat icell s.told)
  ins : ListAt w0 icell 1 vI s.ins
  ge : B ≤ gm
  geD : B ≤ gd
  hB : w0.heap.size ≤ B
  base : Below B w0 w
theorem MSt.box {w0 w : World} {B gm gd : Nat} {vT vI vO : Value} {s : Mc} (h : MSt w0 w B gm gd vT vI vO s) : w.heap[gm]? = some (.cells (Mc.cells s.rs (.slice (some ⟨gd, 0, none⟩) s.mem.length s.mem.length) vT vI vO s.pc) 105) := h.mach.box
theorem MSt.apart {w0 w : World} {B gm gd : Nat} {vT vI vO : Value} {s : Mc} (h : MSt w0 w B gm gd vT vI vO s) : gd ≠ gm := by
  rintro rfl
  have h1 := h.mem
  rw [h.box] at h1
  simp at h1
theorem MSt.up {w0 w w' : World} {B gm gd : Nat} {vT vI vO : Value} {s : Mc} (h : MSt w0 w B gm gd vT vI vO s) (hb : Below w.heap.size w w') : MSt w0 w' B gm gd vT vI vO s :=
  ⟨h.mach.up hb, (hb.block gd (Array.getElem?_eq_some_iff.1 h.mem).1).trans h.mem, row_up h.told hb, h.ins, h.ge, h.geD, h.hB, h.base.trans (hb.mono (by have := h.mach.lt; have := h.ge; omega))⟩
/-- The machine's own box turned. -/
theorem MSt.turn {w0 w w' : World} {B gm gd : Nat} {vT vI vO vI' : Value} {s : Mc} {cs : Array Value} {rs' : List Vl} {ins' : List Int} {pc' : Int} (h : MSt w0 w B gm gd vT vI vO s) (C : Chg w w' gm cs 105)
    (hcs : cs = Mc.cells rs' (.slice (some ⟨gd, 0, none⟩) s.mem.length s.mem.length) vT vI' vO pc') (hl : rs'.length = 8) (hI : ListAt w0 icell 1 vI' ins') : MSt w0 w' B gm gd vT vI' vO ⟨rs', s.mem, ins', s.told, pc'⟩ := by
  have hne : gd ≠ gm := by
    rintro rfl
    have h1 := h.mem
    rw [h.box] at h1
    simp at h1
  refine ⟨⟨hl, by rw [C.new, hcs]; rfl⟩, (C.rest gd (Array.getElem?_eq_some_iff.1 h.mem).1 hne).trans h.mem, row_same h.told fun k hk => ?_, hI, h.ge, h.geD, h.hB, h.base.trans (C.below h.ge)⟩
  obtain ⟨_, cur, hg⟩ := row_block h.told hk
  exact C.rest k (Array.getElem?_eq_some_iff.1 hg).1 (by rintro rfl; rw [h.box] at hg; simp at hg)
/-- A register, and where it is. -/
theorem MSt.reg {w0 w w' : World} {B gm gd : Nat} {vT vI vO : Value} {s : Mc} (h : MSt w0 w B gm gd vT vI vO s) (D : Nat) (hD : D < 8) (v : Vl) (pc' : Int)
    (C : Chg w w' gm ((((Mc.cells s.rs (.slice (some ⟨gd, 0, none⟩) s.mem.length s.mem.length) vT vI vO s.pc).setIfInBounds (D * 2) (.int .i64 v.n)).setIfInBounds (D * 2 + 1) (.bool v.c)).setIfInBounds 20 (.int .i64 pc')) 105) :
    MSt w0 w' B gm gd vT vI vO ⟨s.rs.set D v, s.mem, s.ins, s.told, pc'⟩ :=
  h.turn C (by rw [cells_reg _ _ _ _ _ _ h.mach.len D hD, cells_pc _ _ _ _ _ _ _ (by rw [List.length_set]; exact h.mach.len)]) (by rw [List.length_set]; exact h.mach.len) h.ins
theorem MSt.at' {w0 w w' : World} {B gm gd : Nat} {vT vI vO : Value} {s : Mc} (h : MSt w0 w B gm gd vT vI vO s) (pc' : Int)
    (C : Chg w w' gm ((Mc.cells s.rs (.slice (some ⟨gd, 0, none⟩) s.mem.length s.mem.length) vT vI vO s.pc).setIfInBounds 20 (.int .i64 pc')) 105) :
    MSt w0 w' B gm gd vT vI vO ⟨s.rs, s.mem, s.ins, s.told, pc'⟩ := h.turn C (cells_pc _ _ _ _ _ _ _ h.mach.len) h.mach.len h.ins
theorem mem_cells {w : World} {gd : Nat} {mem : List Vl} {T : TypeId} (h : w.heap[gd]? = some (.cells (flat Vl.cells mem).toArray T)) {M : Nat} {x : Vl} (hx : mem[M]? = some x) : w.cell? ⟨gd, M * 2, none⟩ = some (.int .i64 x.n) ∧ w.cell? ⟨gd, M * 2 + 1, none⟩ = some (.bool x.c) ∧ (∀ o, w.frozen? ⟨gd, o, none⟩ = false) ∧ gd < w.heap.size ∧ True := by
  refine ⟨?_, ?_, fun o => by simp [World.frozen?, h], (Array.getElem?_eq_some_iff.1 h).1, trivial⟩
  · simp only [World.cell?, h]
    rw [List.getElem?_toArray, show M * 2 = M * 2 + 0 by omega, flat_at vlcell_len mem M x hx 0 (by decide)]; rfl
  · simp only [World.cell?, h]
    rw [List.getElem?_toArray, flat_at vlcell_len mem M x hx 1 (by decide)]; rfl
/-- A word of memory. -/
theorem MSt.memset {w0 w w' : World} {B gm gd : Nat} {vT vI vO : Value} {s : Mc} (h : MSt w0 w B gm gd vT vI vO s) (M : Nat) (hM : M < s.mem.length) (v : Vl)
    (C : Chg w w' gd (((flat Vl.cells s.mem).toArray.setIfInBounds (M * 2) (.int .i64 v.n)).setIfInBounds (M * 2 + 1) (.bool v.c)) 101) : MSt w0 w' B gm gd vT vI vO ⟨s.rs, s.mem.set M v, s.ins, s.told, s.pc⟩ := by
  have hne : gm ≠ gd := by
    rintro rfl
    have h1 := h.mem
    rw [h.box] at h1
    simp at h1
  have hcs : ((flat Vl.cells s.mem).toArray.setIfInBounds (M * 2) (.int .i64 v.n)).setIfInBounds (M * 2 + 1) (.bool v.c) = (flat Vl.cells (s.mem.set M v)).toArray := by
    rw [List.setIfInBounds_toArray, List.setIfInBounds_toArray, flat_set2 v s.mem M hM]
  refine ⟨⟨h.mach.len, ?_⟩, by rw [C.new, hcs], row_same h.told fun k hk => ?_, h.ins, h.ge, h.geD, h.hB, h.base.trans (C.below h.geD)⟩
  · rw [C.rest gm h.mach.lt hne, h.mach.box]; simp only [List.length_set]
  · obtain ⟨_, cur, hg⟩ := row_block h.told hk
    exact C.rest k (Array.getElem?_eq_some_iff.1 hg).1 (by rintro rfl; rw [h.mem] at hg; simp at hg)
end Go.Proofs.YtechpdfcgimkkaaDoor
/-
  package step: one step, plain.
-/
namespace Go.Proofs.YtechpdfcgimkkaaDoor
open Go.RowKit Go.Joins Isa
def RegsOk (rs : List Vl) : Prop := ∀ v ∈ rs, -1099511627776 ≤ v.n ∧ v.n ≤ 1099511627776
def BdOk (d a b n pc sz : Int) : Prop := 0 ≤ d ∧ d < 8 ∧ 0 ≤ a ∧ a < 8 ∧ 0 ≤ b ∧ b < 8 ∧ -32768 ≤ n ∧ n ≤ 32767 ∧ 0 ≤ pc ∧ pc ≤ 140737488355328 ∧ 0 ≤ sz ∧ sz ≤ 10
/-- One step: P3.3. -/
def doS (tabs : List (List Int)) (s : Mc) (k d a b n sz : Int) : Mc :=
  let va := (s.rs.getD a.toNat ⟨0, false⟩).n
  let vb := (s.rs.getD b.toNat ⟨0, false⟩).n
  if k = 5 then ⟨s.rs.set d.toNat ⟨n, false⟩, s.mem, s.ins, s.told, s.pc + sz⟩
  else if k = 6 then ⟨s.rs.set d.toNat ⟨foldN (va + n), false⟩, s.mem, s.ins, s.told, s.pc + sz⟩
  else if opB k then ⟨s.rs.set d.toNat ⟨operN k va vb, false⟩, s.mem, s.ins, s.told, s.pc + sz⟩
  else if k = 14 then ⟨s.rs.set d.toNat (s.mem.getD (va + n).toNat ⟨0, false⟩), s.mem, s.ins, s.told, s.pc + sz⟩
  else if k = 15 then ⟨s.rs, s.mem.set (va + n).toNat (s.rs.getD b.toNat ⟨0, false⟩), s.ins, s.told, s.pc + sz⟩
  else if k = 16 then ⟨s.rs.set d.toNat ⟨s.ins.headD 0, false⟩, s.mem, s.ins.tail, s.told, s.pc + sz⟩
  else if k = 17 then ⟨s.rs, s.mem, s.ins, s.told ++ [va], s.pc + sz⟩
  else if brB k && !takenB k va vb then ⟨s.rs, s.mem, s.ins, s.told, s.pc + sz⟩
  else if brB k || k == 22 then ⟨s.rs, s.mem, s.ins, s.told, s.pc + n⟩
  else if k = 23 then ⟨s.rs.set 7 ⟨s.pc + sz, true⟩, s.mem, s.ins, s.told, s.pc + n⟩
  else if k = 3 then ⟨s.rs, s.mem, s.ins, s.told, (s.rs.getD 7 ⟨0, false⟩).n⟩
  else if k = 24 then ⟨s.rs, s.mem, s.ins, s.told, (tabs.getD n.toNat []).getD va.toNat 0⟩
  else ⟨s.rs, s.mem, s.ins, s.told, s.pc + sz⟩
set_option maxHeartbeats 400000 in
theorem number_x (n : Int) (w : World) : Calls Tryd.prog 92 #[.int .i64 n] w fun e w' => e = .returned (.agg #[.int .i64 n, .bool false]) ∧ w' = w.alloc (.cells #[.int .i64 n, .bool false] 101) := by
  go_enter Tryd.func92, Tryd.ntmps92
  go_wp2
  go_returns
  exact ⟨rfl, rfl⟩
set_option maxHeartbeats 400000 in
theorem address_x (n : Int) (w : World) : Calls Tryd.prog 105 #[.int .i64 n] w fun e w' => e = .returned (.agg #[.int .i64 n, .bool true]) ∧ w' = w.alloc (.cells #[.int .i64 n, .bool true] 101) := by
  go_enter Tryd.func105, Tryd.ntmps105
  go_wp2
  go_returns
  exact ⟨rfl, rfl⟩
set_option maxHeartbeats 400000 in
theorem next_none (gm : Nat) (vI : Value) (w : World) (h : w.cell? ⟨gm, 18, none⟩ = some vI) (hv : ∃ a c, vI = .slice a 0 c) : Calls Tryd.prog 102 #[.pointer (some ⟨gm, 0, none⟩)] w fun e w' => e = .returned (.int .i64 0) ∧ w' = w := by
  obtain ⟨a, c, rfl⟩ := hv
  go_enter Tryd.func102, Tryd.ntmps102
  go_wp2
  go_ret
  exact ⟨rfl, rfl⟩
set_option maxHeartbeats 400000 in
theorem next_some (gm bb oo len cap : Nat) (x : Int) (w : World) (h : w.cell? ⟨gm, 18, none⟩ = some (.slice (some ⟨bb, oo, none⟩) (len + 1) cap)) (hx : w.cell? ⟨bb, oo, none⟩ = some (.int .i64 x)) (hf : ∀ o, w.frozen? ⟨gm, o, none⟩ = false) (_hc : len + 1 ≤ cap) (_hg : gm < w.heap.size) : Calls Tryd.prog 102 #[.pointer (some ⟨gm, 0, none⟩)] w fun e w' => e = .returned (.int .i64 x) ∧ w' = w.setCell ⟨gm, 18, none⟩ (.slice (if cap = 1 then some ⟨bb, oo, none⟩ else some ⟨bb, oo + 1, none⟩) len (cap - 1)) := by
  have h0 : (((len + 1 : Nat) : Int) == 0) = false := by simp; omega
  have h1 : ((len : Int) + 1 == 0) = false := by simp; omega
  have h2 : (1 : Int) ≤ ((len + 1 : Nat) : Int) := by omega
  have hf' := hf 18
  clear hf
  go_enter Tryd.func102, Tryd.ntmps102
  go_wp2
  all_goals
    go_ret
    exact ⟨rfl, rfl⟩
theorem ins_tail {w0 : World} {vI : Value} {x : Int} {xs : List Int} {bb oo cap : Nat} (h : ListAt w0 icell 1 vI (x :: xs)) (hv : vI = .slice (some ⟨bb, oo, none⟩) (xs.length + 1) cap) : ListAt w0 icell 1 (.slice (if cap = 1 then some ⟨bb, oo, none⟩ else some ⟨bb, oo + 1, none⟩) xs.length (cap - 1)) xs := by
  subst hv
  rcases h with ⟨_, _, _, h0⟩ | ⟨b2, o2, c2, hv, h1, h2, h3, h4⟩
  · cases h0
  · cases hv
    cases xs with
    | nil => exact Or.inl ⟨_, _, rfl, rfl⟩
    | cons y ys =>
      simp only [List.length_cons] at *
      rw [if_neg (by omega)]
      refine Or.inr ⟨bb, oo + 1, cap - 1, rfl, by simp only [List.length_cons]; omega, by omega, h3, fun j z hz o u hu => ?_⟩
      have := h4 (j + 1) z (by simpa using hz) o u hu
      rw [Nat.mul_one] at *
      rw [show oo + 1 + j + o = oo + (j + 1) + o by omega]
      exact this
end Go.Proofs.YtechpdfcgimkkaaDoor
/-
  package step: one number more is told.
-/
namespace Go.Proofs.YtechpdfcgimkkaaDoor
open Go.RowKit Go.Joins Isa
theorem flat_snocI (xs : List Int) (x : Int) : flat icell (xs ++ [x]) = flat icell xs ++ icell x := by unfold flat; rw [List.flatMap_append]; simp
theorem MSt.tell {w0 w wx W : World} {B gm gd : Nat} {vT vI vO vO' : Value} {s : Mc} {x pc' : Int} (h : MSt w0 w B gm gd vT vI vO s) (hb : Below w.heap.size w wx) (ho : W.ownsRow B 3 1 vO' (s.told.length + 1) (flat icell s.told ++ icell x)) (gr : wx.grownBy W vO.ownBlock) :
    W.heap[gm]? = some (.cells (Mc.cells s.rs (.slice (some ⟨gd, 0, none⟩) s.mem.length s.mem.length) vT vI vO s.pc) 105) ∧
    MSt w0 ((W.setCell ⟨gm, 19, none⟩ vO').setCell ⟨gm, 20, none⟩ (.int .i64 pc')) B gm gd vT vI vO' ⟨s.rs, s.mem, s.ins, s.told ++ [x], pc'⟩ := by
  have u := h.up hb
  have hBw : B ≤ wx.heap.size := by have := u.mach.lt; have := u.ge; omega
  have oth : ∀ (k : Nat) (cs : Array Value) (T : TypeId), wx.heap[k]? = some (.cells cs T) → T ≠ 3 → W.heap[k]? = some (.cells cs T) := fun k cs T hk hT => (gr.block k (Array.getElem?_eq_some_iff.1 hk).1 (row_ne u.told hk hT)).trans hk
  have hbox := oth gm _ _ u.box (by decide)
  have hmem := oth gd _ _ u.mem (by decide)
  have C := ((Chg.refl hbox).set 19 vO').set 20 (.int .i64 pc')
  rw [cells_told _ _ _ _ _ _ _ h.mach.len, cells_pc _ _ _ _ _ _ _ h.mach.len] at C
  have bW : Below B wx W := ⟨gr.os, gr.tape, gr.output, gr.size, fun k hk => gr.block k (by omega) (by intro he; have := (row_block u.told he.symm).1; omega)⟩
  refine ⟨hbox, ⟨h.mach.len, C.new⟩, (C.rest gd (Array.getElem?_eq_some_iff.1 hmem).1 h.apart).trans hmem, ?_, h.ins, h.ge, h.geD, h.hB, (u.base.trans bW).trans (C.below h.ge)⟩
  show World.ownsRow _ B _ 1 vO' (s.told ++ [x]).length (flat icell (s.told ++ [x]))
  rw [flat_snocI, List.length_append]
  refine row_same ho fun k hk => ?_
  obtain ⟨_, cur, hg⟩ := row_block ho hk
  exact C.rest k (Array.getElem?_eq_some_iff.1 hg).1 (by rintro rfl; rw [hbox] at hg; simp at hg)
/-- A register, by the next input. -/
theorem MSt.regIn {w0 w w' : World} {B gm gd : Nat} {vT vI vO vI' : Value} {s : Mc} {ins' : List Int} (h : MSt w0 w B gm gd vT vI vO s) (D : Nat) (hD : D < 8) (v : Vl) (pc' : Int) (hI : ListAt w0 icell 1 vI' ins')
    (C : Chg w w' gm (((((Mc.cells s.rs (.slice (some ⟨gd, 0, none⟩) s.mem.length s.mem.length) vT vI vO s.pc).setIfInBounds 18 vI').setIfInBounds (D * 2) (.int .i64 v.n)).setIfInBounds (D * 2 + 1) (.bool v.c)).setIfInBounds 20 (.int .i64 pc')) 105) :
    MSt w0 w' B gm gd vT vI' vO ⟨s.rs.set D v, s.mem, ins', s.told, pc'⟩ :=
  h.turn C (by rw [cells_ins _ _ _ _ _ _ _ h.mach.len, cells_reg _ _ _ _ _ _ h.mach.len D hD, cells_pc _ _ _ _ _ _ _ (by rw [List.length_set]; exact h.mach.len)]) (by rw [List.length_set]; exact h.mach.len) hI
end Go.Proofs.YtechpdfcgimkkaaDoor
