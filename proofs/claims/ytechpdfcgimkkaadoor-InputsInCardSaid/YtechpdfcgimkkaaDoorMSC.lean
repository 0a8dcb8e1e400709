/-
  A run over instructions that stand one behind the other, an instruction at a time.
-/
import Derived.Test.YtechpdfcgimkkaaDoorMRC
import Derived.Test.YtechpdfcgimkkaaDoorMOC
import Derived.Test.YtechpdfcgimkkaaDoorMCC
import Derived.Deep.RegionHeld3
import Derived.Test.YtechpdfcgimkkaaDoorWalkRunC
import Derived.BigQuiet
import Derived.Deep.QuietTactic
import Derived.Test.YtechpdfcgimkkaaDoorMDC
import Derived.Test.YtechpdfcgimkkaaDoorMAC
namespace Go.Proofs.YtechpdfcgimkkaaDoor
open Go.RowKit Go.Joins Isa
/-- Where the j'th instruction stands. -/
def offI (is : List Ins) (j : Nat) : Int := ((is.take j).map fun i => siz i.k i.l).sum
theorem encAll_siz (is : List Ins) (h : ∀ i ∈ is, i.chk = 0) : ((encAll is).length : Int) = (is.map fun i => siz i.k i.l).sum := by
  induction is with
  | nil => rfl
  | cons i is ih =>
    have e : encAll (i :: is) = encI i ++ encAll is := rfl
    obtain ⟨h1, h2, _⟩ := chk_zero (h i (List.mem_cons_self ..))
    have hl := encL_len (d := i.d) (a := i.a) (b := i.b) (n := i.n) (l := i.l) h1 h2
    have := ih fun j hj => h j (List.mem_cons_of_mem _ hj)
    rw [e, List.length_append, List.map_cons, List.sum_cons, ← this]
    unfold encI
    omega
theorem run_at {is : List Ins} (h : ∀ i ∈ is, i.chk = 0) {j : Nat} {i : Ins} (hi : is[j]? = some i) {tabs : List (List Int)} {n : Nat} {st : Int} {s : Mc} (hp : s.pc = offI is j) :
    runN (encAll is) tabs (n + 1) st s = if endN s.rs s.mem.length tabs i.k i.a i.b i.n ≠ 0 then (s, endN s.rs s.mem.length tabs i.k i.a i.b i.n, st) else runN (encAll is) tabs n (st + 1) (doS tabs s i.k i.d i.a i.b i.n (siz i.k i.l)) := by
  obtain ⟨h1, _, _, _⟩ := dec_at is h j i hi
  have hq : s.pc = ((encAll (is.take j)).length : Nat) := by
    rw [hp]; exact (encAll_siz _ fun i hi => h i (List.mem_of_mem_take hi)).symm
  rw [runN, hq, h1]
  simp
theorem run_step {is : List Ins} (h : ∀ i ∈ is, i.chk = 0) {j : Nat} {i : Ins} (hi : is[j]? = some i) {tabs : List (List Int)} {n : Nat} {st : Int} {s s' : Mc} {r : Mc × Int × Int} (hp : s.pc = offI is j) (he : endN s.rs s.mem.length tabs i.k i.a i.b i.n = 0)
    (hd : doS tabs s i.k i.d i.a i.b i.n (siz i.k i.l) = s') (hr : runN (encAll is) tabs n (st + 1) s' = r) : runN (encAll is) tabs (n + 1) st s = r := by
  rw [run_at h hi hp, if_neg (by rw [he]; simp), hd, hr]
theorem run_stop {is : List Ins} (h : ∀ i ∈ is, i.chk = 0) {j : Nat} {i : Ins} (hi : is[j]? = some i) {tabs : List (List Int)} {n : Nat} {st e : Int} {s : Mc} (hp : s.pc = offI is j) (he : endN s.rs s.mem.length tabs i.k i.a i.b i.n = e) (hne : e ≠ 0) :
    runN (encAll is) tabs (n + 1) st s = (s, e, st) := by
  rw [run_at h hi hp, he, if_pos hne]
def haltI : Ins := ⟨1, 0, 0, 0, 0, false⟩
def fFn (n : Nat) : Fn := ⟨⟨#[102]⟩, 0, n⟩
/-- boltholekeep's alone. -/
def aloneI (l : List Ins) : Img := ⟨encAll (l ++ [haltI]), [fFn (encAll (l ++ [haltI])).length], [], [5, -3, 0, 7, 1, 2], [], 0⟩
end Go.Proofs.YtechpdfcgimkkaaDoor
/-
  Instructions in memory, rows that are appended to: what boltholekeep's alone needs.
-/
namespace Go.Proofs.YtechpdfcgimkkaaDoor
open Go.RowKit Go.Joins Isa
def iCells (i : Ins) : List Value := [.int .i64 i.k, .int .i64 i.d, .int .i64 i.a, .int .i64 i.b, .int .i64 i.n, .bool i.l]
theorem icells_len (i : Ins) : (iCells i).length = 6 := rfl
theorem icells_one (i : Ins) : ∀ u ∈ iCells i, u.oneCell' = true := by
  intro u hu
  simp [iCells] at hu
  rcases hu with rfl | rfl | rfl | rfl | rfl | rfl <;> rfl
theorem inIns : (Tryd.prog.info? 61).map (fun i => (i.zero, i.size, i.bytes)) = some (some (.agg #[.int .i64 0, .int .i64 0, .int .i64 0, .int .i64 0, .int .i64 0, .bool false]), 6, 48) := by kernel_rfl
theorem row_some {w : World} {B sz n : Nat} {E : TypeId} {v : Value} {xs : List Value} (h : w.ownsRow B E sz v n xs) (hn : n ≠ 0) : ∃ g cap, v = .slice (some ⟨g, 0, none⟩) n cap := by
  obtain ⟨g, cap, cur, hv, _⟩ := h.2.resolve_left (fun q => hn q.2)
  exact ⟨g, cap, hv⟩
theorem row_form' {w : World} {B sz n : Nat} {E : TypeId} {v : Value} {xs : List Value} (h : w.ownsRow B E sz v n xs) : ∃ a cap, v = .slice a n cap := by
  rcases h.2 with ⟨hv, hn⟩ | ⟨g, cap, cur, hv, _⟩
  · exact ⟨none, 0, by rw [hv, hn]⟩
  · exact ⟨_, cap, hv⟩
theorem row_cells {w : World} {B sz n g cap : Nat} {E : TypeId} {xs : List Value} (h : w.ownsRow B E sz (.slice (some ⟨g, 0, none⟩) n cap) n xs) (j : Nat) (u : Value) (hj : xs[j]? = some u) : w.cell? ⟨g, j, none⟩ = some u := by
  rcases h.2 with ⟨hv, _⟩ | ⟨g', cap', cur, hv, _, hg, _, _, _, ht⟩
  · cases hv
  · cases hv
    simp only [World.cell?, hg]
    rw [← ht] at hj
    have hlt : j < (cur.toList.take (n * sz)).length := (List.getElem?_eq_some_iff.1 hj).1
    rw [List.getElem?_take_of_lt (by simp at hlt; omega)] at hj
    simpa using hj
/-- A whole slice more. -/
theorem row_apps (E S : TypeId) (sz bytes : Nat) (z : Value) (hU : Tryd.prog.underlying S = some (.slice E)) (hi : (Tryd.prog.info? E).map (fun i => (i.zero, i.size, i.bytes)) = some (some z, sz, bytes)) (hzs : z.cells.size = sz) (hsz : 0 < sz)
    {w : World} {B n : Nat} {v : Value} {xs : List Value} (h : w.ownsRow B E sz v n xs) (hB : B ≤ w.heap.size) (g off m cap : Nat) (news : List Value) (hl : news.length = m * sz) (hc : ∀ j u, news[j]? = some u → w.cell? ⟨g, off + j, none⟩ = some u) (h1 : ∀ u ∈ news, u.oneCell' = true) (hb : (n + m) * bytes ≤ 140737488355328) (h63 : n + m ≤ maxLen) :
    ∃ v' W, (Builtin.append_ #[S, S] S #[v, .slice (some ⟨g, off, none⟩) m cap]).run Tryd.prog w = .ok v' W ∧ W.ownsRow B E sz v' (n + m) (xs ++ news) ∧ w.grownBy W v.ownBlock := by
  obtain ⟨i, hi, hz0, hz1, hz2⟩ := info_of hi
  obtain ⟨v', W, hr, ho, gr, _, _⟩ := run_append_own_at (P := Tryd.prog) w B S S E i z sz bytes hU hi hz0 hz1 hz2 hzs hsz v n xs h ⟨g, off, none⟩ m cap news hl (fun j u hj => by rw [Addr.add_lit]; exact hc j u hj) h1 h63 hb hB
  exact ⟨v', W, hr, ho, gr⟩
theorem below_grown {w W : World} {B C sz n : Nat} {E : TypeId} {v : Value} {xs : List Value} (h : w.ownsRow B E sz v n xs) (gr : w.grownBy W v.ownBlock) (hC : C ≤ B) (hw : C ≤ w.heap.size) : Below C w W :=
  ⟨gr.os, gr.tape, gr.output, gr.size, fun k hk => gr.block k (by omega) (by intro he; have := (row_block h he.symm).1; omega)⟩
set_option maxRecDepth 100000 in
set_option maxHeartbeats 1000000 in
theorem clone_any (l : List Ins) (g off cap : Nat) (w : World) (hc : ∀ j u, (flat iCells l)[j]? = some u → w.cell? ⟨g, off + j, none⟩ = some u) (hl : l.length ≤ 1000) (hg : g < w.heap.size) :
    Calls Tryd.prog 69 #[.slice (some ⟨g, off, none⟩) l.length cap] w fun e w' => ∃ v', e = .returned v' ∧ w'.ownsRow w.heap.size 61 6 v' l.length (flat iCells l) ∧ Below w.heap.size w w' := by
  have h0 : (w.alloc (.cells #[] 61)).ownsRow w.heap.size 61 6 (.slice (some ⟨w.heap.size, 0, none⟩) 0 0) 0 [] := ⟨rfl, Or.inr ⟨w.heap.size, 0, #[], rfl, Nat.le_refl _, alloc_at _ _ _ rfl, Nat.le_refl _, by decide, rfl, rfl⟩⟩
  obtain ⟨v', W, hr, ho, gr⟩ := row_apps 61 72 6 48 _ Tryd.underlying72 inIns rfl (by decide) h0 (by simp) g off l.length cap (flat iCells l) (flat_len icells_len l) (fun j u hj => (World.cell?_alloc_past _ _ _ hg).trans (hc j u hj)) (flat_one icells_one l) (by omega) (by unfold maxLen; omega)
  rw [Nat.zero_add, List.nil_append] at ho
  have HR : Hid _ := hr
  have HO : Hid _ := ho
  have HB : Hid (Below w.heap.size w W) := ((Below.refl _ _).alloc (Nat.le_refl _) _).trans (below_grown h0 gr (Nat.le_refl _) (by simp))
  obtain ⟨a', l', c', rfl⟩ := row_form ho
  have qT : ∀ (w : World) (a : Option Addr) (n c n' c' : Nat), (binOp .eql 72 (.slice a n c) (.slice none n' c')).run Tryd.prog w = .ok (.bool a.isNone) w := fun w a n c n' c' => Lib.run_eql_slice_nil w 72 61 a n c n' c' Tryd.underlying72
  clear hr ho gr h0 hc
  go_enter Tryd.func69, Tryd.ntmps69
  go_wp2_with (first | (at_builtin; refine wpList_append_two _ rfl (.tmp 5) (.tmp 6) 72 72 rfl _ _ rfl rfl HR.out ?_))
  go_ret
  exact ⟨_, rfl, HO.out, HB.out⟩
end Go.Proofs.YtechpdfcgimkkaaDoor
/-
  boltholekeep.alone: a program of instructions, with a Halt behind them.
-/
namespace Go.Proofs.YtechpdfcgimkkaaDoor
open Go.RowKit Go.Joins Isa
theorem alU8 : (Tryd.prog.info? 5).map (fun i => (i.zero, i.size, i.bytes)) = some (some (.int .u8 0), 1, 1) := by kernel_rfl
/-- A list of instructions that a caller lays. -/
def InsAt (w : World) (v : Value) (l : List Ins) : Prop :=
  (v = .slice none 0 0 ∧ l = []) ∨ ∃ g off cap, v = .slice (some ⟨g, off, none⟩) l.length cap ∧ g < w.heap.size ∧ ∀ j u, (flat iCells l)[j]? = some u → w.cell? ⟨g, off + j, none⟩ = some u
theorem InsAt.up {w w' : World} {v : Value} {l : List Ins} (h : InsAt w v l) (hb : Below w.heap.size w w') : InsAt w' v l := by
  rcases h with h | ⟨g, off, cap, h1, h2, h3⟩
  · exact Or.inl h
  · exact Or.inr ⟨g, off, cap, h1, Nat.lt_of_lt_of_le h2 hb.size, fun j u hj => (hb.cell (p := ⟨g, _, none⟩) h2).trans (h3 j u hj)⟩
set_option maxHeartbeats 1000000 in
theorem clone_all (l : List Ins) (v : Value) (w : World) (h : InsAt w v l) (hl : l.length ≤ 1000) :
    Calls Tryd.prog 69 #[v] w fun e w' => ∃ v', e = .returned v' ∧ w'.ownsRow w.heap.size 61 6 v' l.length (flat iCells l) ∧ Below w.heap.size w w' := by
  rcases h with ⟨rfl, rfl⟩ | ⟨g, off, cap, rfl, h2, h3⟩
  · have qT : ∀ (w : World) (a : Option Addr) (n c n' c' : Nat), (binOp .eql 72 (.slice a n c) (.slice none n' c')).run Tryd.prog w = .ok (.bool a.isNone) w := fun w a n c n' c' => Lib.run_eql_slice_nil w 72 61 a n c n' c' Tryd.underlying72
    go_enter Tryd.func69, Tryd.ntmps69
    go_wp2
    go_ret
    exact ⟨_, rfl, World.ownsRow_nil _ _ _ _, Below.refl _ _⟩
  · exact clone_any l g off cap w h3 hl h2
/-- append(slices.Clone(l), Halt). -/
theorem halt_app {w w3 : World} {v' : Value} {l : List Ins} (own : w3.ownsRow w.heap.size 61 6 v' l.length (flat iCells l)) (hb : Below w.heap.size w w3) (hl : l.length ≤ 1000) :
    ∃ g cap W, (Builtin.append_ #[72, 72] 72 #[v', .slice (some ⟨w3.heap.size, 0, none⟩) 1 1]).run Tryd.prog (w3.alloc (.cells #[.int .i64 1, .int .i64 0, .int .i64 0, .int .i64 0, .int .i64 0, .bool false] 61)) = .ok (.slice (some ⟨g, 0, none⟩) (l.length + 1) cap) W ∧
      W.ownsRow w.heap.size 61 6 (.slice (some ⟨g, 0, none⟩) (l.length + 1) cap) (l.length + 1) (flat iCells (l ++ [haltI])) ∧ Below w.heap.size w W := by
  obtain ⟨v4, W, hr, ho, gr, hb2⟩ := row_app 61 72 6 48 _ Tryd.underlying72 inIns rfl (by decide) own hb.size (iCells haltI) rfl (icells_one _) (by omega) (by unfold maxLen; omega) (Or.inl rfl)
  rw [← flat_snoc] at ho
  obtain ⟨g, cap, rfl⟩ := row_some ho (by omega)
  refine ⟨g, cap, W, hr, ho, (hb.trans (hb2.mono hb.size)).trans ?_⟩
  exact ⟨gr.os, gr.tape, gr.output, gr.size, fun k hk => gr.block k (by have := hb2.size; have := hb.size; omega) (by intro he; have := (row_block own he.symm).1; omega)⟩
/-- Where alone's loop stands after m rounds. -/
structure Al (B gb : Nat) (W0 wr : World) (js : List Ins) (v4 vD vT : Value) (m : Nat) : Prop where
  bel : Below B W0 wr
  hB : B ≤ gb
  box : wr.heap[gb]? = some (.cells #[vT, .slice none 0 0, .slice none 0 0, vD, .slice none 0 0, .int .i64 0] 29)
  oT : wr.ownsRow B 5 1 vT (encAll (js.take m)).length ((encAll (js.take m)).map (Value.int .u8))
  oI : wr.ownsRow B 61 6 v4 js.length (flat iCells js)
theorem Al.lt {B gb : Nat} {W0 wr : World} {js : List Ins} {v4 vD vT : Value} {m : Nat} (h : Al B gb W0 wr js v4 vD vT m) : gb < wr.heap.size := (Array.getElem?_eq_some_iff.1 h.box).1
theorem Al.up {B gb : Nat} {W0 wr w' : World} {js : List Ins} {v4 vD vT : Value} {m : Nat} (h : Al B gb W0 wr js v4 vD vT m) (hb : Below wr.heap.size wr w') : Al B gb W0 w' js v4 vD vT m :=
  ⟨h.bel.trans (hb.mono (by have := h.lt; have := h.hB; omega)), h.hB, (hb.block gb h.lt).trans h.box, row_up h.oT hb, row_up h.oI hb⟩
theorem Al.cells {B gb : Nat} {W0 w : World} {js : List Ins} {v4 vD vT : Value} {m : Nat} (h : Al B gb W0 w js v4 vD vT m) :
    w.cell? ⟨gb, 0, none⟩ = some vT ∧ w.cell? ⟨gb, 1, none⟩ = some (.slice none 0 0) ∧ w.cell? ⟨gb, 2, none⟩ = some (.slice none 0 0) ∧ w.cell? ⟨gb, 3, none⟩ = some vD ∧ w.cell? ⟨gb, 4, none⟩ = some (.slice none 0 0) ∧ w.cell? ⟨gb, 5, none⟩ = some (.int .i64 0) ∧ w.frozen? ⟨gb, 0, none⟩ = false ∧ w.frozen? ⟨gb, 1, none⟩ = false := by
  refine ⟨?_, ?_, ?_, ?_, ?_, ?_, ?_, ?_⟩ <;> simp [World.cell?, World.frozen?, h.box]
/-- One instruction's bytes more. -/
theorem Al.add {B gb : Nat} {W0 w2 : World} {js : List Ins} {v4 vD vT : Value} {m : Nat} {i : Ins} (h : Al B gb W0 w2 js v4 vD vT m) (hi : js[m]? = some i) (hj : js.length ≤ 1001) (ho : ∀ i ∈ js, i.chk = 0)
    {g cap C : Nat} (hn : w2.ownsRow C 5 1 (.slice (some ⟨g, 0, none⟩) (encI i).length cap) (encI i).length ((encI i).map (Value.int .u8))) :
    ∃ v' W, (Builtin.append_ #[23, 23] 23 #[vT, .slice (some ⟨g, 0, none⟩) (encI i).length cap]).run Tryd.prog w2 = .ok v' W ∧ W.cell? ⟨gb, 0, none⟩ = some vT ∧ W.frozen? ⟨gb, 0, none⟩ = false ∧ gb < W.heap.size ∧ (∃ a l c, v' = .slice a l c) ∧ Al B gb W0 (W.setCell ⟨gb, 0, none⟩ v') js v4 vD v' (m + 1) := by
  have hBw : B ≤ w2.heap.size := by have := h.lt; have := h.hB; omega
  have hl := encAll_len (js.take m) fun i hi => ho i (List.mem_of_mem_take hi)
  have htl : (js.take m).length ≤ 1001 := by rw [List.length_take]; omega
  have h1 := encAll_len [i] fun x hx => by have e : x = i := (by simpa using hx); rw [e]; exact ho i (List.mem_of_getElem? hi)
  rw [show encAll [i] = encI i by simp [encAll]] at h1
  simp only [List.length_singleton] at h1
  have hcells := hn.cells (g := g) rfl
  obtain ⟨v', W, hr, hoT, gr⟩ := row_apps 5 23 1 1 (.int .u8 0) Tryd.underlying23 alU8 rfl (by decide) h.oT hBw g 0 (encI i).length cap ((encI i).map (Value.int .u8)) (by simp) (fun j u hj => by have := hcells j u hj; rwa [Addr.add_lit] at this) (one_bytes _) (by omega) (by unfold maxLen; omega)
  have e2 : js.take (m + 1) = js.take m ++ [i] := by rw [List.take_add_one, hi]; rfl
  have e3 : encAll (js.take (m + 1)) = encAll (js.take m) ++ encI i := by rw [e2, encAll_append]; simp [encAll]
  have hbox : W.heap[gb]? = some (.cells #[vT, .slice none 0 0, .slice none 0 0, vD, .slice none 0 0, .int .i64 0] 29) := (gr.block gb h.lt (row_ne h.oT h.box (by decide))).trans h.box
  have hset := setCell_eq_setRow W gb 0 _ _ _ v' hbox
  have gb' : gb < W.heap.size := (Array.getElem?_eq_some_iff.1 hbox).1
  refine ⟨v', W, hr, by simp [World.cell?, hbox], by simp [World.frozen?, hbox], gb', row_form hoT, ?_, h.hB, ?_, ?_, ?_⟩
  · refine (h.bel.trans ?_).setCell (p := ⟨gb, 0, none⟩) h.hB v'
    exact ⟨gr.os, gr.tape, gr.output, gr.size, fun k hk => gr.block k (by omega) (by intro he; have := (row_block h.oT he.symm).1; omega)⟩
  · rw [hset]; exact setRow_heap W gb _ _ _ _ hbox
  · rw [e3, List.length_append, List.map_append]
    exact row_set hoT hbox (by decide)
  · exact row_set (row_by h.oI h.oT gr (by decide)) hbox (by decide)
theorem flat_u (xs : List Int) : flat ucell xs = xs.map (Value.int .u8) := by
  induction xs with
  | nil => rfl
  | cons x xs ih => rw [List.map_cons, ← ih]; rfl
set_option maxRecDepth 100000 in
set_option maxHeartbeats 4000000 in
theorem alone_any (l : List Ins) (v : Value) (w : World) (ht : Tabs w) (h : InsAt w v l) (hl : l.length ≤ 1000) (hok : ∀ i ∈ l, i.chk = 0) :
    Calls Tryd.prog 37 #[v] w fun e w' => ∃ vT vF vD, e = .returned (.tuple #[.agg #[vT, vF, .slice none 0 0, vD, .slice none 0 0, .int .i64 0], .bool true]) ∧ ImgAt w' vT vF (.slice none 0 0) vD (.slice none 0 0) (aloneI l) ∧ Below w.heap.size w w' := by
  obtain ⟨w2, hw2⟩ : ∃ w2, ((w.alloc (.cells #[.slice none 0 0, .slice none 0 0, .slice none 0 0, .slice none 0 0, .slice none 0 0, .int .i64 0] 29)).alloc (.cells #[.int .i64 5, .int .i64 (-3), .int .i64 0, .int .i64 7, .int .i64 1, .int .i64 2] 3)).alloc (.cells #[.slice none 0 0, .slice none 0 0, .slice none 0 0, .slice (some ⟨w.heap.size + 1, 0, none⟩) 6 6, .slice none 0 0, .int .i64 0] 29) = w2 := ⟨_, rfl⟩
  have HW2 : Hid _ := hw2
  have B2 : Hid (Below w.heap.size w w2) := by rw [← hw2]; exact (((Below.refl _ _).alloc (Nat.le_refl _) _).alloc (by simp) _).alloc (by simp; omega) _
  have CL := clone_all l v w2 (h.up B2.out) hl
  have HCL : Hid _ := CL
  have HJ : Hid (∀ i ∈ l ++ [haltI], i.chk = 0) := by
    intro i hi
    rcases List.mem_append.1 hi with q | q
    · exact hok i q
    · have : i = haltI := by simpa using q
      subst this; decide
  clear CL h hok hw2
  go_enter Tryd.func37, Tryd.ntmps37
  go_upto_region 2 with fail
  rw [HW2.out]
  have z2 : w.heap.size + 1 + 1 < w2.heap.size := by rw [← HW2.out]; simp
  have G2 : Hid (w2.heap[w.heap.size + 1 + 1]? = some (.cells #[.slice none 0 0, .slice none 0 0, .slice none 0 0, .slice (some ⟨w.heap.size + 1, 0, none⟩) 6 6, .slice none 0 0, .int .i64 0] 29)) := by
    show _ = _
    rw [← HW2.out]; exact alloc_at _ _ _ (by simp)
  have G0 : Hid (w2.heap[w.heap.size]? = some (.cells #[.slice none 0 0, .slice none 0 0, .slice none 0 0, .slice none 0 0, .slice none 0 0, .int .i64 0] 29)) := by
    show _ = _
    rw [← HW2.out]
    exact (((((Below.refl (w.heap.size + 1) (w.alloc (.cells #[.slice none 0 0, .slice none 0 0, .slice none 0 0, .slice none 0 0, .slice none 0 0, .int .i64 0] 29))).alloc (by simp) _).alloc (by simp) _).block w.heap.size (by omega))).trans (alloc_at _ _ _ rfl)
  have G1 : Hid (ListAt w2 icell 1 (.slice (some ⟨w.heap.size + 1, 0, none⟩) 6 6) [5, -3, 0, 7, 1, 2]) := by
    show ListAt _ _ _ _ _
    rw [← HW2.out]
    refine Or.inr ⟨_, 0, 6, rfl, by decide, by unfold maxLen; omega, by simp, fun j x hj o u hu => ?_⟩
    have hh : (((w.alloc (.cells #[.slice none 0 0, .slice none 0 0, .slice none 0 0, .slice none 0 0, .slice none 0 0, .int .i64 0] 29)).alloc (.cells #[.int .i64 5, .int .i64 (-3), .int .i64 0, .int .i64 7, .int .i64 1, .int .i64 2] 3)).alloc (.cells #[.slice none 0 0, .slice none 0 0, .slice none 0 0, .slice (some ⟨w.heap.size + 1, 0, none⟩) 6 6, .slice none 0 0, .int .i64 0] 29)).heap[w.heap.size + 1]? = some (.cells #[.int .i64 5, .int .i64 (-3), .int .i64 0, .int .i64 7, .int .i64 1, .int .i64 2] 3) :=
      ((Below.refl (w.heap.size + 2) (((w.alloc (.cells #[.slice none 0 0, .slice none 0 0, .slice none 0 0, .slice none 0 0, .slice none 0 0, .int .i64 0] 29)).alloc (.cells #[.int .i64 5, .int .i64 (-3), .int .i64 0, .int .i64 7, .int .i64 1, .int .i64 2] 3)))).alloc (by simp) _).block (w.heap.size + 1) (by omega) |>.trans (alloc_at _ _ _ (by simp))
    have ho : o = 0 := by
      rcases o with _ | o
      · rfl
      · simp [icell] at hu
    subst ho
    obtain rfl : u = .int .i64 x := by simpa [icell] using hu.symm
    simp only [World.cell?, hh]
    rcases j with _ | _ | _ | _ | _ | _ | j <;> simp at hj <;> (try subst hj) <;> rfl
  clear HW2
  have zw : w.heap.size ≤ w2.heap.size := by omega
  go_wp2_with fail
  refine Calls.mono HCL.out ?_
  rintro e w3 ⟨v', rfl, own, hb3⟩
  obtain ⟨g4, cap4, w4, hr4, ho4, hb4⟩ := halt_app own hb3 hl
  have HR4 : Hid _ := hr4
  have HO4 : Hid _ := row_low ho4 (show w.heap.size + 1 + 1 ≤ w2.heap.size by omega)
  have HB4 : Hid _ := hb4
  obtain ⟨a', l', c', rfl⟩ := row_form own
  clear hr4 ho4 hb4 own hb3
  go_wp2_with (first | (at_builtin; refine wpList_append_two _ rfl (.tmp 12) (.tmp 14) 72 72 rfl _ _ rfl rfl HR4.out ?_))
  have hg2 : w4.heap[w.heap.size + 1 + 1]? = some (.cells #[.slice none 0 0, .slice none 0 0, .slice none 0 0, .slice (some ⟨w.heap.size + 1, 0, none⟩) 6 6, .slice none 0 0, .int .i64 0] 29) := (HB4.out.block _ z2).trans G2.out
  have hjl : (l ++ [haltI]).length = l.length + 1 := by simp
  have A0 : Hid (Al (w.heap.size + 1 + 1) (w.heap.size + 1 + 1) w2 w4 (l ++ [haltI]) (.slice (some ⟨g4, 0, none⟩) (l.length + 1) cap4) (.slice (some ⟨w.heap.size + 1, 0, none⟩) 6 6) (.slice none 0 0) 0) :=
    ⟨HB4.out.mono (by omega), by omega, hg2, World.ownsRow_nil _ _ _ _, by rw [hjl]; exact HO4.out⟩
  have HJL : Hid _ := hjl
  have hAI : Hid (aloneI l = ⟨encAll (l ++ [haltI]), [fFn (encAll (l ++ [haltI])).length], [], [5, -3, 0, 7, 1, 2], [], 0⟩) := rfl
  generalize l ++ [haltI] = js at *
  clear hg2 hjl HO4 HR4 HCL
  go_loopw [17] (fun c wr => ∃ (m : Nat) (vT : Value), m ≤ l.length + 1 ∧ c = .int .i64 (m : Int) ∧ Hid (∃ a n k, vT = .slice a n k) ∧ Hid (Al (w.heap.size + 1 + 1) (w.heap.size + 1 + 1) w2 wr js (.slice (some ⟨g4, 0, none⟩) (l.length + 1) cap4) (.slice (some ⟨w.heap.size + 1, 0, none⟩) 6 6) vT m)) (fun c _ => (l.length + 1 - intOf c).toNat)
  case atStart => exact ⟨0, _, by omega, rfl, ⟨_, _, _, rfl⟩, A0⟩
  case round =>
    obtain ⟨m, vT, hm1, rfl, hvT, hAl⟩ := hrel
    obtain ⟨aT, nT, kT, hvT'⟩ := hvT.out
    by_cases hm : m < l.length + 1
    · obtain ⟨i, hi⟩ : ∃ i, js[m]? = some i := ⟨_, List.getElem?_eq_getElem (by have := HJL.out; omega)⟩
      have hic : i.chk = 0 := HJ.out i (List.mem_of_getElem? hi)
      have hrow := hAl.out.oI
      rw [HJL.out] at hrow
      have hg4 : g4 < wr.heap.size := by
        obtain ⟨_, cur, hh⟩ := row_block hrow (k := g4) rfl
        exact (Array.getElem?_eq_some_iff.1 hh).1
      have e : ∀ o u, o < 6 → (iCells i)[o]? = some u → wr.cell? ⟨g4, m * 6 + o, none⟩ = some u := fun o u ho hu => row_cells hrow _ _ ((flat_at icells_len js m i hi o ho).trans hu)
      obtain ⟨ik, id, ia, ib, inn, il⟩ := i
      have e0 := e 0 _ (by decide) rfl
      have e1 := e 1 _ (by decide) rfl
      have e2 := e 2 _ (by decide) rfl
      have e3 := e 3 _ (by decide) rfl
      have e4 := e 4 _ (by decide) rfl
      have e5 := e 5 _ (by decide) rfl
      simp only [Nat.add_zero] at e0
      have hcap : l.length + 1 ≤ cap4 := by
        rcases hrow.2 with ⟨hv, _⟩ | ⟨_, _, _, hv, _, _, hcap, _⟩
        · cases hv
        · cases hv; exact hcap
      have hmm : (m : Int) < (l.length : Int) + 1 := by omega
      have hmn : (m : Int) < ((l.length + 1 : Nat) : Int) := by omega
      have HI : Hid _ := hi
      have HIC : Hid (Isa.chk ik id ia ib inn il = 0) := hic
      have HTB : Hid (Tabs (wr.alloc (.cells #[.int .i64 ik, .int .i64 id, .int .i64 ia, .int .i64 ib, .int .i64 inn, .bool il] 61))) := (ht.below ht.sz (B2.out.trans (hAl.out.bel.mono (by omega)))).below (by have := ht.sz; have := B2.out.size; have := hAl.out.bel.size; omega) ((Below.refl _ _).alloc (Nat.le_refl _) _)
      clear hrow e hi hic
      go_wp2_with fail
      refine Calls.mono (encode_any ik id ia ib inn il _ HTB.out) ?_
      rintro e w5 (⟨hc, _⟩ | ⟨hc, g5, cap5, rfl, own5, hb5⟩)
      · exact absurd HIC.out hc
      have hb5' : Below wr.heap.size wr w5 := ((Below.refl _ _).alloc (Nat.le_refl _) _).trans (hb5.mono (by simp))
      have A5 := hAl.out.up hb5'
      obtain ⟨v6, w6, hr6, c6, f6, z6, hv6, A6⟩ := A5.add (i := ⟨ik, id, ia, ib, inn, il⟩) HI.out (by rw [HJL.out]; omega) HJ.out own5
      obtain ⟨t0, t1, t2, t3, t4, t5, t6, t7⟩ := A5.cells
      have z5 := A5.lt
      obtain ⟨a6, l6, k6, rfl⟩ := hv6
      rw [hvT'] at hr6 t0 c6
      have HR6 : Hid _ := hr6
      have HA6 : Hid _ := A6
      clear hr6 A6 A5 hb5 hb5' own5 hc e0 e1 e2 e3 e4 e5 HTB
      go_wp2_with (first | (at_builtin; refine wpList_append_two _ rfl (.tmp 30) (.tmp 31) 23 23 rfl _ _ rfl rfl HR6.out ?_))
      go_roundw
      case rel => exact ⟨m + 1, _, by omega, by go_num, ⟨_, _, _, rfl⟩, HA6.out⟩
      case measure => simp [intOf]; omega
    · have hmj : m = l.length + 1 := by omega
      subst hmj
      have hA := hAl.out
      rw [hvT'] at hA
      obtain ⟨t0, t1, t2, t3, t4, t5, t6, t7⟩ := hA.cells
      have z5 := hA.lt
      have HA : Hid _ := hA
      clear hA hm hm1
      go_upto_region 11 with fail
      obtain ⟨W, hW⟩ : ∃ W, ((wr.setCell ⟨w.heap.size + 1 + 1, 1, none⟩ (.slice (some ⟨wr.heap.size, 0, none⟩) 1 1)).alloc (.cells #[.string ⟨#[102]⟩, .int .i64 0, .int .i64 nT] 47)) = W := ⟨_, rfl⟩
      rw [hW]
      have hbx : wr.heap[w.heap.size + 1 + 1]? = some (.cells #[.slice aT nT kT, .slice none 0 0, .slice none 0 0, .slice (some ⟨w.heap.size + 1, 0, none⟩) 6 6, .slice none 0 0, .int .i64 0] 29) := HA.out.box
      have hBW : Below (w.heap.size + 1 + 1) w2 W := by rw [← hW]; exact (HA.out.bel.setCell (p := ⟨w.heap.size + 1 + 1, 1, none⟩) (Nat.le_refl _) _).alloc (Nat.le_trans (Nat.le_trans (by omega : w.heap.size + 1 + 1 ≤ w2.heap.size) HA.out.bel.size) ((Below.refl 0 wr).setCell (p := ⟨w.heap.size + 1 + 1, 1, none⟩) (Nat.zero_le _) _).size) _
      have hres : W.heap[w.heap.size]? = some (.cells #[.slice none 0 0, .slice none 0 0, .slice none 0 0, .slice none 0 0, .slice none 0 0, .int .i64 0] 29) := (hBW.block _ (by omega)).trans G0.out
      have hbw : W.heap[w.heap.size + 1 + 1]? = some (.cells #[.slice aT nT kT, .slice (some ⟨wr.heap.size, 0, none⟩) 1 1, .slice none 0 0, .slice (some ⟨w.heap.size + 1, 0, none⟩) 6 6, .slice none 0 0, .int .i64 0] 29) := by
        rw [← hW]
        have hx := heap_setCell_same wr _ 1 _ _ (.slice (some ⟨wr.heap.size, 0, none⟩) 1 1) hbx
        exact (((Below.refl _ _).alloc (Nat.le_refl _) _).block _ (Array.getElem?_eq_some_iff.1 hx).1).trans hx
      have hfn : W.heap[wr.heap.size]? = some (.cells #[.string ⟨#[102]⟩, .int .i64 0, .int .i64 nT] 47) := by rw [← hW]; exact alloc_at _ _ _ (by simp)
      have q0 : W.cell? ⟨w.heap.size + 1 + 1, 0, none⟩ = some (.slice aT nT kT) := by simp [World.cell?, hbw]
      have q1 : W.cell? ⟨w.heap.size + 1 + 1, 1, none⟩ = some (.slice (some ⟨wr.heap.size, 0, none⟩) 1 1) := by simp [World.cell?, hbw]
      have q2 : W.cell? ⟨w.heap.size + 1 + 1, 2, none⟩ = some (.slice none 0 0) := by simp [World.cell?, hbw]
      have q3 : W.cell? ⟨w.heap.size + 1 + 1, 3, none⟩ = some (.slice (some ⟨w.heap.size + 1, 0, none⟩) 6 6) := by simp [World.cell?, hbw]
      have q4 : W.cell? ⟨w.heap.size + 1 + 1, 4, none⟩ = some (.slice none 0 0) := by simp [World.cell?, hbw]
      have q5 : W.cell? ⟨w.heap.size + 1 + 1, 5, none⟩ = some (.int .i64 0) := by simp [World.cell?, hbw]
      obtain ⟨Z, hZ⟩ : ∃ Z, ((((((W.setCell ⟨w.heap.size, 0, none⟩ (.slice aT nT kT)).setCell ⟨w.heap.size, 1, none⟩ (.slice (some ⟨wr.heap.size, 0, none⟩) 1 1)).setCell ⟨w.heap.size, 2, none⟩ (.slice none 0 0)).setCell ⟨w.heap.size, 3, none⟩ (.slice (some ⟨w.heap.size + 1, 0, none⟩) 6 6)).setCell ⟨w.heap.size, 4, none⟩ (.slice none 0 0)).setCell ⟨w.heap.size, 5, none⟩ (.int .i64 0)) = Z := ⟨_, rfl⟩
      have HZ : Hid _ := hZ
      have HRS : Hid _ := hres
      have HBW : Hid _ := hBW
      have HWW : Hid _ := hW
      have HFN : Hid _ := hfn
      have HWO : Hid (∀ k, k < wr.heap.size → k ≠ w.heap.size + 1 + 1 → W.heap[k]? = wr.heap[k]?) := fun k hk hne => by
        rw [← hW]
        refine (((Below.refl _ _).alloc (Nat.le_refl _) _).block _ (Nat.lt_of_lt_of_le hk ((Below.refl 0 wr).setCell (p := ⟨w.heap.size + 1 + 1, 1, none⟩) (Nat.zero_le _) (.slice (some ⟨wr.heap.size, 0, none⟩) 1 1)).size)).trans ?_
        exact heap_setCell_other _ _ _ _ hne
      have hz6 : Z.heap[w.heap.size]? = some (.cells #[.slice aT nT kT, .slice (some ⟨wr.heap.size, 0, none⟩) 1 1, .slice none 0 0, .slice (some ⟨w.heap.size + 1, 0, none⟩) 6 6, .slice none 0 0, .int .i64 0] 29) := by rw [← hZ]; exact chain6 hres _ _ _ _ _ _
      have HZO : Hid (∀ k, k ≠ w.heap.size → Z.heap[k]? = W.heap[k]?) := fun k hk => by rw [← hZ]; exact chain6_other _ _ _ hk _ _ _ _ _ _
      have s0 : Z.cell? ⟨w.heap.size, 0, none⟩ = some (.slice aT nT kT) := by simp [World.cell?, hz6]
      have s1 : Z.cell? ⟨w.heap.size, 1, none⟩ = some (.slice (some ⟨wr.heap.size, 0, none⟩) 1 1) := by simp [World.cell?, hz6]
      have s2 : Z.cell? ⟨w.heap.size, 2, none⟩ = some (.slice none 0 0) := by simp [World.cell?, hz6]
      have s3 : Z.cell? ⟨w.heap.size, 3, none⟩ = some (.slice (some ⟨w.heap.size + 1, 0, none⟩) 6 6) := by simp [World.cell?, hz6]
      have s4 : Z.cell? ⟨w.heap.size, 4, none⟩ = some (.slice none 0 0) := by simp [World.cell?, hz6]
      have s5 : Z.cell? ⟨w.heap.size, 5, none⟩ = some (.int .i64 0) := by simp [World.cell?, hz6]
      have hbz : Below w.heap.size W Z := by rw [← hZ]; exact chain6_below (Below.refl _ _) (Nat.le_refl _) _ _ _ _ _ _
      have HBZ : Hid _ := hbz
      clear hbx hBW hres hbw hfn hW hZ hz6 hbz t0 t1 t2 t3 t4 t5 t6 t7
      go_wp2_with (first | (with_reducible refine @id (wpList _ _ _ (Oper.mk _ (Op.store _ _ _) _ _ _ _ :: _) _ _) ?_; refine wpList_store6 rfl (.tmp 2) (.tmp 41) rfl w.heap.size rfl rfl HRS.out rfl rfl rfl rfl rfl rfl HZ.out ?_))
      refine bodyPost_ret (v := .tuple #[.agg #[.slice aT nT kT, .slice (some ⟨wr.heap.size, 0, none⟩) 1 1, .slice none 0 0, .slice (some ⟨w.heap.size + 1, 0, none⟩) 6 6, .slice none 0 0, .int .i64 0], .bool true]) (by simp [results, Tryd.results37, go_sem, s0, s1, s2, s3, s4, s5]) rfl ?_
      have ha := HA.out
      have hoT := ha.oT
      rw [List.take_of_length_le (by rw [HJL.out]; exact Nat.le_refl _), ← flat_u] at hoT
      have hn : nT = (encAll js).length := by
        rcases hoT.2 with ⟨hv, h0⟩ | ⟨_, _, _, hv, _⟩
        · cases hv; exact h0.symm
        · cases hv; rfl
      have hoZ : Z.ownsRow (w.heap.size + 1 + 1) 5 1 (.slice aT nT kT) (encAll js).length (flat ucell (encAll js)) := row_same hoT fun k hk => by
        obtain ⟨hge, cur, hh⟩ := row_block hoT hk
        have hkl := (Array.getElem?_eq_some_iff.1 hh).1
        have hne : k ≠ w.heap.size + 1 + 1 := by
          rintro rfl
          exact row_ne hoT ha.box (by decide) hk.symm
        rw [HZO.out k (by omega), HWO.out k hkl hne]
      have hzs := HBZ.out.size
      have hws := HBW.out.size
      have hzw : wr.heap.size < W.heap.size := (Array.getElem?_eq_some_iff.1 HFN.out).1
      refine ⟨_, _, _, rfl, ?_, (B2.out.trans (HBW.out.mono (by omega))).trans HBZ.out⟩
      rw [hAI.out]
      refine ⟨row_list (fun _ => rfl) hoZ, ?_, ⟨[], Or.inl ⟨_, _, rfl, rfl⟩, rfl, fun j u t hu ht => (by simp at hu)⟩, ?_, Or.inl ⟨_, _, rfl, rfl⟩⟩
      · refine Or.inr ⟨_, 0, 1, rfl, Nat.le_refl _, by unfold maxLen; omega, by omega, fun j x hj o u hu => ?_⟩
        rcases j with _ | j
        · obtain rfl : fFn (encAll js).length = x := by simpa using hj
          have hf : Z.heap[wr.heap.size]? = some (.cells #[.string ⟨#[102]⟩, .int .i64 0, .int .i64 nT] 47) := (HZO.out _ (by have := ha.bel.size; omega)).trans HFN.out
          simp only [World.cell?, hf]
          rw [← hn] at hu
          rcases o with _ | _ | _ | o <;> simp [Fn.cells, fFn] at hu <;> subst hu <;> rfl
        · simp at hj
      · rcases G1.out with ⟨_, _, _, h⟩ | ⟨bb, oo, cap, hv, d1, d2, d3, d4⟩
        · cases h
        · cases hv
          refine Or.inr ⟨_, 0, 6, rfl, d1, d2, by omega, fun j x hj o u hu => ?_⟩
          have hb : Z.heap[w.heap.size + 1]? = w2.heap[w.heap.size + 1]? := (HZO.out _ (by omega)).trans (HBW.out.block _ (by omega))
          have := d4 j x hj o u hu
          simp only [World.cell?, hb] at this ⊢
          exact this
end Go.Proofs.YtechpdfcgimkkaaDoor
/-
  boltholekeep.told: what a program of instructions tells.
-/
namespace Go.Proofs.YtechpdfcgimkkaaDoor
open Go.RowKit Go.Joins Isa
theorem alone_ok (l : List Ins) (hok : ∀ i ∈ l, i.chk = 0) (hl : l.length ≤ 1000) : (aloneI l).ok := by
  have hj : ∀ i ∈ l ++ [haltI], i.chk = 0 := by
    intro i hi
    rcases List.mem_append.1 hi with q | q
    · exact hok i q
    · have : i = haltI := by simpa using q
      subst this; decide
  have hle := encAll_len _ hj
  rw [List.length_append, List.length_singleton] at hle
  refine ⟨encAll_bytes _ hj, ?_, (by intro t ht; cases ht), ?_, (by intro t ht; cases ht), ⟨(by decide : (-9223372036854775808 : Int) ≤ 0), (by decide : (0 : Int) ≤ 9223372036854775807)⟩⟩
  · intro f hf
    have : f = fFn (encAll (l ++ [haltI])).length := by simpa [aloneI] using hf
    subst this
    refine ⟨by show (1 : Nat) ≤ maxLen; unfold maxLen; omega, ⟨(by decide : (-9223372036854775808 : Int) ≤ 0), (by decide : (0 : Int) ≤ 9223372036854775807)⟩, ?_⟩
    constructor
    · show (-9223372036854775808 : Int) ≤ ((encAll (l ++ [haltI])).length : Int); omega
    · show ((encAll (l ++ [haltI])).length : Int) ≤ 9223372036854775807; omega
  · intro x hx
    have hx' : x ∈ ([5, -3, 0, 7, 1, 2] : List Int) := hx
    simp at hx'
    rcases hx' with rfl | rfl | rfl | rfl | rfl | rfl <;> exact ⟨by decide, by decide⟩
set_option maxRecDepth 100000 in
set_option maxHeartbeats 2000000 in
theorem told_any (l : List Ins) (ins : List Int) (v : Value) (aI : Option Addr) (cI : Nat) (w : World) (ht : Tabs w) (h : InsAt w v l) (hin : ListAt w icell 1 (.slice aI ins.length cI) ins) (hl : l.length ≤ 1000) (hok : ∀ i ∈ l, i.chk = 0) (hc : runChk (aloneI l) ins 100 = 0) :
    Calls Tryd.prog 31 #[.slice aI ins.length cI, v] w fun e w' => ∃ a n c, e = .returned (.tuple #[.slice a n c, .int .i64 (runOut (aloneI l) ins 100).en, .bool true]) ∧ ListAt w' icell 1 (.slice a n c) (runOut (aloneI l) ins 100).told ∧ Below w.heap.size w w' := by
  have AL : Hid _ := alone_any l v w ht h hl hok
  have HOK : Hid _ := alone_ok l hok hl
  have HIN : Hid (ListAt w icell 1 (.slice aI ins.length cI) ins) := hin
  have HC : Hid _ := hc
  have HT : Hid _ := ht
  clear h hok hin hc ht
  go_enter Tryd.func31, Tryd.ntmps31
  go_wp2_with fail
  refine Calls.mono AL.out ?_
  rintro e w1 ⟨vT, vF, vD, rfl, hI, hb1⟩
  have B1 : Hid _ := hb1
  have HI : Hid _ := hI
  obtain ⟨aT, cT, rfl, _⟩ := hI.text.form
  obtain ⟨aF, cF, rfl, _⟩ := hI.funcs.form
  obtain ⟨aD, cD, rfl, _⟩ := hI.data.form
  clear hb1 hI AL
  go_wp2_with fail
  have RU := fun W (hb : Below w1.heap.size w1 W) => run_any _ _ _ _ _ _ (aloneI l) ins 100 W (HI.out.stays (Nat.le_refl _) hb) HOK.out (HT.out.below HT.out.sz (B1.out.trans (hb.mono B1.out.size))) (HIN.out.stays (Nat.le_refl _) (B1.out.trans (hb.mono B1.out.size)))
  refine Calls.mono (RU _ ((Below.refl _ _).alloc (Nat.le_refl _) _)) ?_
  rintro e w2 ⟨vO, rfl, hO, hb2⟩
  obtain ⟨aO, cO, rfl, _⟩ := hO.form
  have B2 : Hid (Below w.heap.size w w2) := B1.out.trans (((Below.refl _ _).alloc (Nat.le_refl _) _).trans (hb2.mono (by simp)) |>.mono B1.out.size)
  have HO : Hid (ListAt w2 icell 1 (.slice aO (runOut (aloneI l) ins 100).told.length cO) (runOut (aloneI l) ins 100).told) := hO
  rw [HC.out]
  have z2 : w.heap.size ≤ w2.heap.size := B2.out.size
  clear RU hO hb2
  go_wp2_with fail
  go_quiet (fail)
  go_wp2_with fail
  go_ret3
  refine ⟨_, _, _, rfl, ListAt.stays HO.out (Nat.le_refl _) ?_, B2.out.trans (Below.mono ?_ z2)⟩
  all_goals exact below_drewN ((Below.refl _ _).alloc (Nat.le_refl _) _) _
end Go.Proofs.YtechpdfcgimkkaaDoor
/-
  What the programs of boltholekeep's Sums, Bits, Memory, Branches, Calls and Loops tell.
-/
namespace Go.Proofs.YtechpdfcgimkkaaDoor
open Go.RowKit Go.Joins Isa
theorem halt_chk {l : List Ins} (hok : ∀ i ∈ l, i.chk = 0) : ∀ i ∈ l ++ [haltI], i.chk = 0 := by
  intro i hi
  rcases List.mem_append.1 hi with q | q
  · exact hok i q
  · have : i = haltI := by simpa using q
    subst this; decide
theorem alone_chk {l : List Ins} (hok : ∀ i ∈ l, i.chk = 0) (hl : l.length ≤ 1000) : imgChk (aloneI l) = 0 := by
  have h1 := encAll_len _ (halt_chk hok)
  rw [List.length_append, List.length_singleton] at h1
  have h2 : 1 ≤ (encAll (l ++ [haltI])).length := by
    rw [encAll_append, List.length_append]
    have : (encAll [haltI]).length = 1 := by decide
    omega
  have hf : fchk (aloneI l).text.length [] (aloneI l).funcs 0 = 0 := by
    show fchk ((encAll (l ++ [haltI])).length : Int) [] [fFn (encAll (l ++ [haltI])).length] 0 = 0
    generalize (encAll (l ++ [haltI])).length = n at *
    unfold fchk fFn
    have hn : nameMay ⟨#[102]⟩ = true := by decide
    rw [if_neg (by show ¬ nameMay ⟨#[102]⟩ = false; rw [hn]; simp), if_neg (by simp), if_neg (by simp; omega)]
    unfold fchk
    simp
  have hd : ¬ ∃ x ∈ (aloneI l).data, x < -1099511627776 ∨ 1099511627776 < x := by
    show ¬ ∃ x ∈ ([5, -3, 0, 7, 1, 2] : List Int), x < -1099511627776 ∨ 1099511627776 < x
    decide
  unfold imgChk
  rw [if_neg (by show ¬ (8000 < (encAll (l ++ [haltI])).length ∨ 40 < 1); omega), if_neg (by rw [hf]; simp), if_neg (by show ¬ ((0 : Int) < 0 ∨ ((1 : Nat) : Int) ≤ 0); omega), if_neg (by show ¬ (20 < 0 ∨ 64 < 6); omega)]
  rw [if_neg (by show ¬ tchk _ [] ≠ 0; simp [tchk]), if_neg hd, if_neg (by show ¬ 4000 < 0; omega)]
  rfl
theorem told_chk {l : List Ins} (hok : ∀ i ∈ l, i.chk = 0) (hl : l.length ≤ 1000) {ins : List Int} (h1 : ins.length ≤ 100) (h2 : ∀ x ∈ ins, -1099511627776 ≤ x ∧ x ≤ 1099511627776) {fuel : Int} (f0 : 0 ≤ fuel) (f1 : fuel ≤ 100000) : runChk (aloneI l) ins fuel = 0 := by
  unfold runChk
  rw [if_neg (by rw [alone_chk hok hl]; simp), if_neg (by omega), if_neg (by omega), if_neg ?_]
  simp only [Bool.not_eq_true, List.any_eq_false]
  intro x hx
  have := h2 x hx
  simp [farB]; omega
def mem0 : List Vl := [⟨5, false⟩, ⟨-3, false⟩, ⟨0, false⟩, ⟨7, false⟩, ⟨1, false⟩, ⟨2, false⟩]
def regs0 : List Vl := [⟨0, false⟩, ⟨0, false⟩, ⟨0, false⟩, ⟨0, false⟩, ⟨0, false⟩, ⟨0, false⟩, ⟨0, false⟩, ⟨0, false⟩]
theorem told_out {l : List Ins} {ins : List Int} {fuel : Nat} (h : runChk (aloneI l) ins fuel = 0) {s : Mc} {e st : Int} (hr : runN (encAll (l ++ [haltI])) [] fuel 0 ⟨regs0, mem0, ins, [], 0⟩ = (s, e, st)) : runOut (aloneI l) ins fuel = ⟨s.told, e, st, s.pc⟩ := by
  unfold runOut
  rw [if_pos h, Int.toNat_natCast]
  show runOf (runN (encAll (l ++ [haltI])) [] fuel 0 ⟨regs0, mem0, ins, [], 0⟩) = _
  rw [hr]; rfl
def bitsL : List Ins := [⟨16, 1, 0, 0, 0, false⟩, ⟨16, 2, 0, 0, 0, false⟩, ⟨10, 3, 1, 2, 0, false⟩, ⟨11, 4, 1, 2, 0, false⟩, ⟨12, 5, 1, 2, 0, false⟩, ⟨17, 0, 3, 0, 0, false⟩, ⟨17, 0, 4, 0, 0, false⟩, ⟨17, 0, 5, 0, 0, false⟩, ⟨13, 6, 1, 2, 0, false⟩, ⟨17, 0, 6, 0, 0, false⟩]
theorem bits_ok : ∀ i ∈ bitsL, i.chk = 0 := by decide
theorem bits_run (x : Int) (y : Int) : ∃ s : Mc, runN (encAll (bitsL ++ [haltI])) [] 100 0 ⟨regs0, mem0, [x, y], [], 0⟩ = (s, 1, 10) ∧ s.told = [operN 10 x y, operN 11 x y, operN 12 x y, operN 13 x y] := by
  have hc := halt_chk (bits_ok)
  refine ⟨?s, ?h1, ?h2⟩
  case h1 =>
    refine run_step hc (j := 0) (s' := ⟨[⟨0, false⟩, ⟨x, false⟩, ⟨0, false⟩, ⟨0, false⟩, ⟨0, false⟩, ⟨0, false⟩, ⟨0, false⟩, ⟨0, false⟩], [⟨5, false⟩, ⟨-3, false⟩, ⟨0, false⟩, ⟨7, false⟩, ⟨1, false⟩, ⟨2, false⟩], [y], [], 2⟩) rfl rfl rfl rfl ?_
    refine run_step hc (j := 1) (s' := ⟨[⟨0, false⟩, ⟨x, false⟩, ⟨y, false⟩, ⟨0, false⟩, ⟨0, false⟩, ⟨0, false⟩, ⟨0, false⟩, ⟨0, false⟩], [⟨5, false⟩, ⟨-3, false⟩, ⟨0, false⟩, ⟨7, false⟩, ⟨1, false⟩, ⟨2, false⟩], [], [], 4⟩) rfl rfl rfl rfl ?_
    refine run_step hc (j := 2) (s' := ⟨[⟨0, false⟩, ⟨x, false⟩, ⟨y, false⟩, ⟨operN 10 x y, false⟩, ⟨0, false⟩, ⟨0, false⟩, ⟨0, false⟩, ⟨0, false⟩], [⟨5, false⟩, ⟨-3, false⟩, ⟨0, false⟩, ⟨7, false⟩, ⟨1, false⟩, ⟨2, false⟩], [], [], 7⟩) rfl rfl rfl rfl ?_
    refine run_step hc (j := 3) (s' := ⟨[⟨0, false⟩, ⟨x, false⟩, ⟨y, false⟩, ⟨operN 10 x y, false⟩, ⟨operN 11 x y, false⟩, ⟨0, false⟩, ⟨0, false⟩, ⟨0, false⟩], [⟨5, false⟩, ⟨-3, false⟩, ⟨0, false⟩, ⟨7, false⟩, ⟨1, false⟩, ⟨2, false⟩], [], [], 10⟩) rfl rfl rfl rfl ?_
    refine run_step hc (j := 4) (s' := ⟨[⟨0, false⟩, ⟨x, false⟩, ⟨y, false⟩, ⟨operN 10 x y, false⟩, ⟨operN 11 x y, false⟩, ⟨operN 12 x y, false⟩, ⟨0, false⟩, ⟨0, false⟩], [⟨5, false⟩, ⟨-3, false⟩, ⟨0, false⟩, ⟨7, false⟩, ⟨1, false⟩, ⟨2, false⟩], [], [], 13⟩) rfl rfl rfl rfl ?_
    refine run_step hc (j := 5) (s' := ⟨[⟨0, false⟩, ⟨x, false⟩, ⟨y, false⟩, ⟨operN 10 x y, false⟩, ⟨operN 11 x y, false⟩, ⟨operN 12 x y, false⟩, ⟨0, false⟩, ⟨0, false⟩], [⟨5, false⟩, ⟨-3, false⟩, ⟨0, false⟩, ⟨7, false⟩, ⟨1, false⟩, ⟨2, false⟩], [], [operN 10 x y], 15⟩) rfl rfl rfl rfl ?_
    refine run_step hc (j := 6) (s' := ⟨[⟨0, false⟩, ⟨x, false⟩, ⟨y, false⟩, ⟨operN 10 x y, false⟩, ⟨operN 11 x y, false⟩, ⟨operN 12 x y, false⟩, ⟨0, false⟩, ⟨0, false⟩], [⟨5, false⟩, ⟨-3, false⟩, ⟨0, false⟩, ⟨7, false⟩, ⟨1, false⟩, ⟨2, false⟩], [], [operN 10 x y, operN 11 x y], 17⟩) rfl rfl rfl rfl ?_
    refine run_step hc (j := 7) (s' := ⟨[⟨0, false⟩, ⟨x, false⟩, ⟨y, false⟩, ⟨operN 10 x y, false⟩, ⟨operN 11 x y, false⟩, ⟨operN 12 x y, false⟩, ⟨0, false⟩, ⟨0, false⟩], [⟨5, false⟩, ⟨-3, false⟩, ⟨0, false⟩, ⟨7, false⟩, ⟨1, false⟩, ⟨2, false⟩], [], [operN 10 x y, operN 11 x y, operN 12 x y], 19⟩) rfl rfl rfl rfl ?_
    refine run_step hc (j := 8) (s' := ⟨[⟨0, false⟩, ⟨x, false⟩, ⟨y, false⟩, ⟨operN 10 x y, false⟩, ⟨operN 11 x y, false⟩, ⟨operN 12 x y, false⟩, ⟨operN 13 x y, false⟩, ⟨0, false⟩], [⟨5, false⟩, ⟨-3, false⟩, ⟨0, false⟩, ⟨7, false⟩, ⟨1, false⟩, ⟨2, false⟩], [], [operN 10 x y, operN 11 x y, operN 12 x y], 22⟩) rfl rfl rfl rfl ?_
    refine run_step hc (j := 9) (s' := ⟨[⟨0, false⟩, ⟨x, false⟩, ⟨y, false⟩, ⟨operN 10 x y, false⟩, ⟨operN 11 x y, false⟩, ⟨operN 12 x y, false⟩, ⟨operN 13 x y, false⟩, ⟨0, false⟩], [⟨5, false⟩, ⟨-3, false⟩, ⟨0, false⟩, ⟨7, false⟩, ⟨1, false⟩, ⟨2, false⟩], [], [operN 10 x y, operN 11 x y, operN 12 x y, operN 13 x y], 24⟩) rfl rfl rfl rfl ?_
    refine run_stop hc (j := 10) rfl ?_ ?_ ?_
    · rfl
    · rfl
    · decide
  case h2 => rfl
def sumsAL : List Ins := [⟨16, 1, 0, 0, 0, false⟩, ⟨16, 2, 0, 0, 0, false⟩, ⟨7, 3, 1, 2, 0, false⟩, ⟨8, 4, 3, 2, 0, false⟩, ⟨17, 0, 4, 0, 0, false⟩, ⟨9, 5, 1, 2, 0, false⟩, ⟨9, 6, 2, 1, 0, false⟩, ⟨17, 0, 5, 0, 0, false⟩, ⟨17, 0, 6, 0, 0, false⟩, ⟨17, 0, 3, 0, 0, false⟩]
theorem sumsA_ok : ∀ i ∈ sumsAL, i.chk = 0 := by decide
theorem sumsA_run (x : Int) (y : Int) : ∃ s : Mc, runN (encAll (sumsAL ++ [haltI])) [] 100 0 ⟨regs0, mem0, [x, y], [], 0⟩ = (s, 1, 10) ∧ s.told = [operN 8 (operN 7 x y) y, operN 9 x y, operN 9 y x, operN 7 x y] := by
  have hc := halt_chk (sumsA_ok)
  refine ⟨?s, ?h1, ?h2⟩
  case h1 =>
    refine run_step hc (j := 0) (s' := ⟨[⟨0, false⟩, ⟨x, false⟩, ⟨0, false⟩, ⟨0, false⟩, ⟨0, false⟩, ⟨0, false⟩, ⟨0, false⟩, ⟨0, false⟩], [⟨5, false⟩, ⟨-3, false⟩, ⟨0, false⟩, ⟨7, false⟩, ⟨1, false⟩, ⟨2, false⟩], [y], [], 2⟩) rfl rfl rfl rfl ?_
    refine run_step hc (j := 1) (s' := ⟨[⟨0, false⟩, ⟨x, false⟩, ⟨y, false⟩, ⟨0, false⟩, ⟨0, false⟩, ⟨0, false⟩, ⟨0, false⟩, ⟨0, false⟩], [⟨5, false⟩, ⟨-3, false⟩, ⟨0, false⟩, ⟨7, false⟩, ⟨1, false⟩, ⟨2, false⟩], [], [], 4⟩) rfl rfl rfl rfl ?_
    refine run_step hc (j := 2) (s' := ⟨[⟨0, false⟩, ⟨x, false⟩, ⟨y, false⟩, ⟨operN 7 x y, false⟩, ⟨0, false⟩, ⟨0, false⟩, ⟨0, false⟩, ⟨0, false⟩], [⟨5, false⟩, ⟨-3, false⟩, ⟨0, false⟩, ⟨7, false⟩, ⟨1, false⟩, ⟨2, false⟩], [], [], 7⟩) rfl rfl rfl rfl ?_
    refine run_step hc (j := 3) (s' := ⟨[⟨0, false⟩, ⟨x, false⟩, ⟨y, false⟩, ⟨operN 7 x y, false⟩, ⟨operN 8 (operN 7 x y) y, false⟩, ⟨0, false⟩, ⟨0, false⟩, ⟨0, false⟩], [⟨5, false⟩, ⟨-3, false⟩, ⟨0, false⟩, ⟨7, false⟩, ⟨1, false⟩, ⟨2, false⟩], [], [], 10⟩) rfl rfl rfl rfl ?_
    refine run_step hc (j := 4) (s' := ⟨[⟨0, false⟩, ⟨x, false⟩, ⟨y, false⟩, ⟨operN 7 x y, false⟩, ⟨operN 8 (operN 7 x y) y, false⟩, ⟨0, false⟩, ⟨0, false⟩, ⟨0, false⟩], [⟨5, false⟩, ⟨-3, false⟩, ⟨0, false⟩, ⟨7, false⟩, ⟨1, false⟩, ⟨2, false⟩], [], [operN 8 (operN 7 x y) y], 12⟩) rfl rfl rfl rfl ?_
    refine run_step hc (j := 5) (s' := ⟨[⟨0, false⟩, ⟨x, false⟩, ⟨y, false⟩, ⟨operN 7 x y, false⟩, ⟨operN 8 (operN 7 x y) y, false⟩, ⟨operN 9 x y, false⟩, ⟨0, false⟩, ⟨0, false⟩], [⟨5, false⟩, ⟨-3, false⟩, ⟨0, false⟩, ⟨7, false⟩, ⟨1, false⟩, ⟨2, false⟩], [], [operN 8 (operN 7 x y) y], 15⟩) rfl rfl rfl rfl ?_
    refine run_step hc (j := 6) (s' := ⟨[⟨0, false⟩, ⟨x, false⟩, ⟨y, false⟩, ⟨operN 7 x y, false⟩, ⟨operN 8 (operN 7 x y) y, false⟩, ⟨operN 9 x y, false⟩, ⟨operN 9 y x, false⟩, ⟨0, false⟩], [⟨5, false⟩, ⟨-3, false⟩, ⟨0, false⟩, ⟨7, false⟩, ⟨1, false⟩, ⟨2, false⟩], [], [operN 8 (operN 7 x y) y], 18⟩) rfl rfl rfl rfl ?_
    refine run_step hc (j := 7) (s' := ⟨[⟨0, false⟩, ⟨x, false⟩, ⟨y, false⟩, ⟨operN 7 x y, false⟩, ⟨operN 8 (operN 7 x y) y, false⟩, ⟨operN 9 x y, false⟩, ⟨operN 9 y x, false⟩, ⟨0, false⟩], [⟨5, false⟩, ⟨-3, false⟩, ⟨0, false⟩, ⟨7, false⟩, ⟨1, false⟩, ⟨2, false⟩], [], [operN 8 (operN 7 x y) y, operN 9 x y], 20⟩) rfl rfl rfl rfl ?_
    refine run_step hc (j := 8) (s' := ⟨[⟨0, false⟩, ⟨x, false⟩, ⟨y, false⟩, ⟨operN 7 x y, false⟩, ⟨operN 8 (operN 7 x y) y, false⟩, ⟨operN 9 x y, false⟩, ⟨operN 9 y x, false⟩, ⟨0, false⟩], [⟨5, false⟩, ⟨-3, false⟩, ⟨0, false⟩, ⟨7, false⟩, ⟨1, false⟩, ⟨2, false⟩], [], [operN 8 (operN 7 x y) y, operN 9 x y, operN 9 y x], 22⟩) rfl rfl rfl rfl ?_
    refine run_step hc (j := 9) (s' := ⟨[⟨0, false⟩, ⟨x, false⟩, ⟨y, false⟩, ⟨operN 7 x y, false⟩, ⟨operN 8 (operN 7 x y) y, false⟩, ⟨operN 9 x y, false⟩, ⟨operN 9 y x, false⟩, ⟨0, false⟩], [⟨5, false⟩, ⟨-3, false⟩, ⟨0, false⟩, ⟨7, false⟩, ⟨1, false⟩, ⟨2, false⟩], [], [operN 8 (operN 7 x y) y, operN 9 x y, operN 9 y x, operN 7 x y], 24⟩) rfl rfl rfl rfl ?_
    refine run_stop hc (j := 10) rfl ?_ ?_ ?_
    · rfl
    · rfl
    · decide
  case h2 => rfl
def sumsBL : List Ins := [⟨16, 1, 0, 0, 0, false⟩, ⟨16, 2, 0, 0, 0, false⟩, ⟨9, 3, 1, 2, 0, false⟩, ⟨17, 0, 3, 0, 0, false⟩, ⟨16, 3, 0, 0, 0, false⟩, ⟨17, 0, 3, 0, 0, false⟩]
theorem sumsB_ok : ∀ i ∈ sumsBL, i.chk = 0 := by decide
theorem sumsB_run (p : Int) (q : Int) : ∃ s : Mc, runN (encAll (sumsBL ++ [haltI])) [] 100 0 ⟨regs0, mem0, [p, q], [], 0⟩ = (s, 1, 6) ∧ s.told = [operN 9 p q, 0] := by
  have hc := halt_chk (sumsB_ok)
  refine ⟨?s, ?h1, ?h2⟩
  case h1 =>
    refine run_step hc (j := 0) (s' := ⟨[⟨0, false⟩, ⟨p, false⟩, ⟨0, false⟩, ⟨0, false⟩, ⟨0, false⟩, ⟨0, false⟩, ⟨0, false⟩, ⟨0, false⟩], [⟨5, false⟩, ⟨-3, false⟩, ⟨0, false⟩, ⟨7, false⟩, ⟨1, false⟩, ⟨2, false⟩], [q], [], 2⟩) rfl rfl rfl rfl ?_
    refine run_step hc (j := 1) (s' := ⟨[⟨0, false⟩, ⟨p, false⟩, ⟨q, false⟩, ⟨0, false⟩, ⟨0, false⟩, ⟨0, false⟩, ⟨0, false⟩, ⟨0, false⟩], [⟨5, false⟩, ⟨-3, false⟩, ⟨0, false⟩, ⟨7, false⟩, ⟨1, false⟩, ⟨2, false⟩], [], [], 4⟩) rfl rfl rfl rfl ?_
    refine run_step hc (j := 2) (s' := ⟨[⟨0, false⟩, ⟨p, false⟩, ⟨q, false⟩, ⟨operN 9 p q, false⟩, ⟨0, false⟩, ⟨0, false⟩, ⟨0, false⟩, ⟨0, false⟩], [⟨5, false⟩, ⟨-3, false⟩, ⟨0, false⟩, ⟨7, false⟩, ⟨1, false⟩, ⟨2, false⟩], [], [], 7⟩) rfl rfl rfl rfl ?_
    refine run_step hc (j := 3) (s' := ⟨[⟨0, false⟩, ⟨p, false⟩, ⟨q, false⟩, ⟨operN 9 p q, false⟩, ⟨0, false⟩, ⟨0, false⟩, ⟨0, false⟩, ⟨0, false⟩], [⟨5, false⟩, ⟨-3, false⟩, ⟨0, false⟩, ⟨7, false⟩, ⟨1, false⟩, ⟨2, false⟩], [], [operN 9 p q], 9⟩) rfl rfl rfl rfl ?_
    refine run_step hc (j := 4) (s' := ⟨[⟨0, false⟩, ⟨p, false⟩, ⟨q, false⟩, ⟨0, false⟩, ⟨0, false⟩, ⟨0, false⟩, ⟨0, false⟩, ⟨0, false⟩], [⟨5, false⟩, ⟨-3, false⟩, ⟨0, false⟩, ⟨7, false⟩, ⟨1, false⟩, ⟨2, false⟩], [], [operN 9 p q], 11⟩) rfl rfl rfl rfl ?_
    refine run_step hc (j := 5) (s' := ⟨[⟨0, false⟩, ⟨p, false⟩, ⟨q, false⟩, ⟨0, false⟩, ⟨0, false⟩, ⟨0, false⟩, ⟨0, false⟩, ⟨0, false⟩], [⟨5, false⟩, ⟨-3, false⟩, ⟨0, false⟩, ⟨7, false⟩, ⟨1, false⟩, ⟨2, false⟩], [], [operN 9 p q, 0], 13⟩) rfl rfl rfl rfl ?_
    refine run_stop hc (j := 6) rfl ?_ ?_ ?_
    · rfl
    · rfl
    · decide
  case h2 => rfl
def callsAL (v : Int) : List Ins := [⟨23, 0, 0, 0, 6, false⟩, ⟨17, 0, 1, 0, 0, false⟩, ⟨1, 0, 0, 0, 0, false⟩, ⟨5, 1, 0, 0, v, false⟩, ⟨3, 0, 0, 0, 0, false⟩]
theorem callsA_ok {v : Int} (h0 : 0 ≤ v) (h1 : v ≤ 32767) : ∀ i ∈ (callsAL v), i.chk = 0 := by
  intro i hi
  simp [callsAL] at hi
  rcases hi with rfl | rfl | rfl | rfl | rfl
  all_goals first | decide | exact (ok5 (d := 1) (n := v) (by decide) (by decide) (by omega) (by omega) : Isa.chk 5 1 0 0 v false = 0)
theorem callsA_run (v : Int) (h0 : 0 ≤ v) (h1 : v ≤ 32767) : ∃ s : Mc, runN (encAll ((callsAL v) ++ [haltI])) [] 100 0 ⟨regs0, mem0, [], [], 0⟩ = (s, 1, 4) ∧ s.told = [v] := by
  have hc := halt_chk (callsA_ok (v := v) h0 h1)
  refine ⟨?s, ?h1, ?h2⟩
  case h1 =>
    refine run_step hc (j := 0) (s' := ⟨[⟨0, false⟩, ⟨0, false⟩, ⟨0, false⟩, ⟨0, false⟩, ⟨0, false⟩, ⟨0, false⟩, ⟨0, false⟩, ⟨3, true⟩], [⟨5, false⟩, ⟨-3, false⟩, ⟨0, false⟩, ⟨7, false⟩, ⟨1, false⟩, ⟨2, false⟩], [], [], 6⟩) rfl rfl rfl rfl ?_
    refine run_step hc (j := 3) (s' := ⟨[⟨0, false⟩, ⟨v, false⟩, ⟨0, false⟩, ⟨0, false⟩, ⟨0, false⟩, ⟨0, false⟩, ⟨0, false⟩, ⟨3, true⟩], [⟨5, false⟩, ⟨-3, false⟩, ⟨0, false⟩, ⟨7, false⟩, ⟨1, false⟩, ⟨2, false⟩], [], [], 10⟩) rfl rfl rfl rfl ?_
    refine run_step hc (j := 4) (s' := ⟨[⟨0, false⟩, ⟨v, false⟩, ⟨0, false⟩, ⟨0, false⟩, ⟨0, false⟩, ⟨0, false⟩, ⟨0, false⟩, ⟨3, true⟩], [⟨5, false⟩, ⟨-3, false⟩, ⟨0, false⟩, ⟨7, false⟩, ⟨1, false⟩, ⟨2, false⟩], [], [], 3⟩) rfl rfl rfl rfl ?_
    refine run_step hc (j := 1) (s' := ⟨[⟨0, false⟩, ⟨v, false⟩, ⟨0, false⟩, ⟨0, false⟩, ⟨0, false⟩, ⟨0, false⟩, ⟨0, false⟩, ⟨3, true⟩], [⟨5, false⟩, ⟨-3, false⟩, ⟨0, false⟩, ⟨7, false⟩, ⟨1, false⟩, ⟨2, false⟩], [], [v], 5⟩) rfl rfl rfl rfl ?_
    refine run_stop hc (j := 2) rfl ?_ ?_ ?_
    · rfl
    · rfl
    · decide
  case h2 => rfl
def callsBL : List Ins := [⟨23, 0, 0, 0, 3, false⟩, ⟨17, 0, 7, 0, 0, false⟩]
theorem callsB_ok : ∀ i ∈ callsBL, i.chk = 0 := by decide
theorem callsB_run : ∃ s : Mc, runN (encAll (callsBL ++ [haltI])) [] 100 0 ⟨regs0, mem0, [], [], 0⟩ = (s, 4, 1) ∧ s.told = [] := by
  have hc := halt_chk (callsB_ok)
  refine ⟨?s, ?h1, ?h2⟩
  case h1 =>
    refine run_step hc (j := 0) (s' := ⟨[⟨0, false⟩, ⟨0, false⟩, ⟨0, false⟩, ⟨0, false⟩, ⟨0, false⟩, ⟨0, false⟩, ⟨0, false⟩, ⟨3, true⟩], [⟨5, false⟩, ⟨-3, false⟩, ⟨0, false⟩, ⟨7, false⟩, ⟨1, false⟩, ⟨2, false⟩], [], [], 3⟩) rfl rfl rfl rfl ?_
    refine run_stop hc (j := 1) rfl ?_ ?_ ?_
    · rfl
    · rfl
    · decide
  case h2 => rfl
def callsCL (v : Int) : List Ins := [⟨5, 7, 0, 0, v, false⟩, ⟨3, 0, 0, 0, 0, false⟩]
theorem callsC_ok {v : Int} (h0 : 0 ≤ v) (h1 : v ≤ 32767) : ∀ i ∈ (callsCL v), i.chk = 0 := by
  intro i hi
  simp [callsCL] at hi
  rcases hi with rfl | rfl
  all_goals first | decide | exact (ok5 (d := 7) (n := v) (by decide) (by decide) (by omega) (by omega) : Isa.chk 5 7 0 0 v false = 0)
theorem callsC_run (v : Int) (h0 : 0 ≤ v) (h1 : v ≤ 32767) : ∃ s : Mc, runN (encAll ((callsCL v) ++ [haltI])) [] 100 0 ⟨regs0, mem0, [], [], 0⟩ = (s, 4, 1) ∧ s.told = [] := by
  have hc := halt_chk (callsC_ok (v := v) h0 h1)
  refine ⟨?s, ?h1, ?h2⟩
  case h1 =>
    refine run_step hc (j := 0) (s' := ⟨[⟨0, false⟩, ⟨0, false⟩, ⟨0, false⟩, ⟨0, false⟩, ⟨0, false⟩, ⟨0, false⟩, ⟨0, false⟩, ⟨v, false⟩], [⟨5, false⟩, ⟨-3, false⟩, ⟨0, false⟩, ⟨7, false⟩, ⟨1, false⟩, ⟨2, false⟩], [], [], 4⟩) rfl rfl rfl rfl ?_
    refine run_stop hc (j := 1) rfl ?_ ?_ ?_
    · rfl
    · rfl
    · decide
  case h2 => rfl
def callsDL : List Ins := [⟨23, 0, 0, 0, 3, false⟩, ⟨15, 0, 0, 7, 2, false⟩, ⟨14, 1, 0, 0, 2, false⟩, ⟨6, 1, 1, 0, 0, false⟩]
theorem callsD_ok : ∀ i ∈ callsDL, i.chk = 0 := by decide
theorem callsD_run : ∃ s : Mc, runN (encAll (callsDL ++ [haltI])) [] 100 0 ⟨regs0, mem0, [], [], 0⟩ = (s, 4, 3) ∧ s.told = [] := by
  have hc := halt_chk (callsD_ok)
  refine ⟨?s, ?h1, ?h2⟩
  case h1 =>
    refine run_step hc (j := 0) (s' := ⟨[⟨0, false⟩, ⟨0, false⟩, ⟨0, false⟩, ⟨0, false⟩, ⟨0, false⟩, ⟨0, false⟩, ⟨0, false⟩, ⟨3, true⟩], [⟨5, false⟩, ⟨-3, false⟩, ⟨0, false⟩, ⟨7, false⟩, ⟨1, false⟩, ⟨2, false⟩], [], [], 3⟩) rfl rfl rfl rfl ?_
    refine run_step hc (j := 1) (s' := ⟨[⟨0, false⟩, ⟨0, false⟩, ⟨0, false⟩, ⟨0, false⟩, ⟨0, false⟩, ⟨0, false⟩, ⟨0, false⟩, ⟨3, true⟩], [⟨5, false⟩, ⟨-3, false⟩, ⟨3, true⟩, ⟨7, false⟩, ⟨1, false⟩, ⟨2, false⟩], [], [], 6⟩) rfl rfl rfl rfl ?_
    refine run_step hc (j := 2) (s' := ⟨[⟨0, false⟩, ⟨3, true⟩, ⟨0, false⟩, ⟨0, false⟩, ⟨0, false⟩, ⟨0, false⟩, ⟨0, false⟩, ⟨3, true⟩], [⟨5, false⟩, ⟨-3, false⟩, ⟨3, true⟩, ⟨7, false⟩, ⟨1, false⟩, ⟨2, false⟩], [], [], 9⟩) rfl rfl rfl rfl ?_
    refine run_stop hc (j := 3) rfl ?_ ?_ ?_
    · rfl
    · rfl
    · decide
  case h2 => rfl
end Go.Proofs.YtechpdfcgimkkaaDoor
/-
  What boltholekeep's laws on single programs call: out, li, told at a list that is laid where it is called.
-/
namespace Go.Proofs.YtechpdfcgimkkaaDoor
open Go.RowKit Go.Joins Isa
theorem out_any (a : Int) (w : World) : Calls Tryd.prog 32 #[.int .i64 a] w fun e w' => e = .returned (.agg #[.int .i64 17, .int .i64 0, .int .i64 a, .int .i64 0, .int .i64 0, .bool false]) ∧ w' = w.alloc (.cells #[.int .i64 17, .int .i64 0, .int .i64 a, .int .i64 0, .int .i64 0, .bool false] 61) := by
  go_enter Tryd.func32, Tryd.ntmps32
  go_wp2
  go_returns
  exact ⟨rfl, rfl⟩
theorem li_any (d n : Int) (w : World) : Calls Tryd.prog 33 #[.int .i64 d, .int .i64 n] w fun e w' => e = .returned (.agg #[.int .i64 5, .int .i64 d, .int .i64 0, .int .i64 0, .int .i64 n, .bool false]) ∧ w' = w.alloc (.cells #[.int .i64 5, .int .i64 d, .int .i64 0, .int .i64 0, .int .i64 n, .bool false] 61) := by
  go_enter Tryd.func33, Tryd.ntmps33
  go_wp2
  go_returns
  exact ⟨rfl, rfl⟩
theorem ins_new (w : World) (l : List Ins) (cs : Array Value) (T : TypeId) (h : cs = (flat iCells l).toArray) (n m cap : Nat) (hn : n = w.heap.size) (hm : m = l.length) : InsAt (w.alloc (.cells cs T)) (.slice (some ⟨n, 0, none⟩) m cap) l := by
  subst h hn hm
  refine Or.inr ⟨w.heap.size, 0, cap, rfl, by simp, fun j u hj => ?_⟩
  rw [World.cell?_alloc_new]
  simpa using hj
theorem ints_new (w : World) (xs : List Int) (cs : Array Value) (T : TypeId) (h : cs = (flat icell xs).toArray) (n m cap : Nat) (hn : n = w.heap.size) (hm : m = xs.length) (hc : m ≤ cap) (hc2 : cap ≤ maxLen) : ListAt (w.alloc (.cells cs T)) icell 1 (.slice (some ⟨n, 0, none⟩) m cap) xs := by
  subst h hn hm
  refine Or.inr ⟨w.heap.size, 0, cap, rfl, hc, hc2, by simp, fun j x hj o u hu => ?_⟩
  have ho : o = 0 := by
    rcases o with _ | o
    · rfl
    · simp [icell] at hu
  subst ho
  rw [World.cell?_alloc_new, List.getElem?_toArray, Nat.zero_add, flat_at (sz := 1) (fun _ => rfl) xs j x hj 0 (by decide)]
  exact hu
theorem oper7 (a b : Int) : operN 7 a b = foldN (a + b) := by unfold operN; rw [if_pos rfl]
theorem oper8 (a b : Int) : operN 8 a b = foldN (a - b) := by unfold operN; rw [if_neg (by decide), if_pos rfl]
theorem oper9 (a b : Int) : operN 9 a b = foldN (a * b) := by unfold operN; rw [if_neg (by decide), if_neg (by decide), if_pos rfl]
theorem oper10 (a b : Int) : operN 10 a b = foldN (bits .and .i64 a b) := by unfold operN; rw [if_neg (by decide), if_neg (by decide), if_neg (by decide), if_pos rfl]
theorem oper11 (a b : Int) : operN 11 a b = foldN (bits .or .i64 a b) := by unfold operN; rw [if_neg (by decide), if_neg (by decide), if_neg (by decide), if_neg (by decide), if_pos rfl]
theorem oper12 (a b : Int) : operN 12 a b = foldN (bits .xor .i64 a b) := by unfold operN; rw [if_neg (by decide), if_neg (by decide), if_neg (by decide), if_neg (by decide), if_neg (by decide), if_pos rfl]
theorem oper13 (a b : Int) : operN 13 a b = if a < b then 1 else 0 := by unfold operN; rw [if_neg (by decide), if_neg (by decide), if_neg (by decide), if_neg (by decide), if_neg (by decide), if_neg (by decide)]
theorem bits_nums (x y : Int) (x0 : 0 ≤ x) (x1 : x < 1073741824) (y0 : 0 ≤ y) (y1 : y < 1073741824) : operN 10 x y + operN 11 x y = x + y ∧ operN 11 x y - operN 10 x y = operN 12 x y ∧ 0 ≤ operN 10 x y ∧ operN 10 x y ≤ 4294967296 ∧ 0 ≤ operN 11 x y ∧ operN 11 x y ≤ 4294967296 := by
  obtain ⟨X, rfl⟩ := Int.eq_ofNat_of_zero_le x0
  obtain ⟨Y, rfl⟩ := Int.eq_ofNat_of_zero_le y0
  obtain ⟨h1, h2⟩ := and_add_or 30 X Y (by omega) (by omega)
  have b1 : X &&& Y < 2 ^ 30 := Nat.and_lt_two_pow _ (by omega)
  have b2 : X ||| Y < 2 ^ 30 := Nat.or_lt_two_pow (by omega) (by omega)
  have b3 : X ^^^ Y < 2 ^ 30 := Nat.xor_lt_two_pow (by omega) (by omega)
  have e1 : operN 10 (X : Int) (Y : Int) = ((X &&& Y : Nat) : Int) := by
    rw [oper10, bits_and_i64_nat X Y (by omega) (by omega)]
    exact foldN_one ⟨0, by omega⟩ (by omega) (by omega)
  have e2 : operN 11 (X : Int) (Y : Int) = ((X ||| Y : Nat) : Int) := by
    rw [oper11, bits_or_i64_nat X Y (by omega) (by omega)]
    exact foldN_one ⟨0, by omega⟩ (by omega) (by omega)
  have e3 : operN 12 (X : Int) (Y : Int) = ((X ^^^ Y : Nat) : Int) := by
    rw [oper12, bits_xor_i64_nat X Y (by omega) (by omega)]
    exact foldN_one ⟨0, by omega⟩ (by omega) (by omega)
  rw [e1, e2, e3]
  generalize X &&& Y = a at *
  generalize X ||| Y = o at *
  generalize X ^^^ Y = e at *
  omega
/-- told at a list that the statement itself lays. -/
theorem told_call (l : List Ins) (ins told : List Int) (en st pc : Int) (cs : Array Value) (aI : Option Addr) (k cI n m cap : Nat) (w W : World) (hr : runOut (aloneI l) ins 100 = ⟨told, en, st, pc⟩) (hc : runChk (aloneI l) ins 100 = 0) (hok : ∀ i ∈ l, i.chk = 0) (hl : l.length ≤ 1000) (hcs : cs = (flat iCells l).toArray) (hk : k = ins.length) (hn : n = W.heap.size) (hm : m = l.length)
    (ht : Tabs w) (hb : Below w.heap.size w W) (hin : ListAt W icell 1 (.slice aI k cI) ins) :
    Calls Tryd.prog 31 #[.slice aI k cI, .slice (some ⟨n, 0, none⟩) m cap] (W.alloc (.cells cs 61)) fun e w' => ∃ a N c, e = .returned (.tuple #[.slice a N c, .int .i64 en, .bool true]) ∧ ListAt w' icell 1 (.slice a N c) told ∧ Below w.heap.size w w' := by
  subst hk
  have hb2 : Below w.heap.size w (W.alloc (.cells cs 61)) := hb.alloc hb.size _
  have := told_any l ins (.slice (some ⟨n, 0, none⟩) m cap) aI cI (W.alloc (.cells cs 61)) (ht.below ht.sz hb2) (ins_new W l cs _ hcs n m cap hn hm) (hin.stays (Nat.le_refl _) ((Below.refl _ _).alloc (Nat.le_refl _) _)) hl hok hc
  rw [hr] at this
  refine this.mono ?_
  rintro e w' ⟨a, N, c, rfl, h1, h2⟩
  exact ⟨a, N, c, rfl, h1, hb2.trans (h2.mono hb2.size)⟩
theorem list_cells {w : World} {a : Option Addr} {n c : Nat} {xs : List Int} (h : ListAt w icell 1 (.slice a n c) xs) (hx : xs ≠ []) : ∃ bb oo, a = some ⟨bb, oo, none⟩ ∧ n = xs.length ∧ n ≤ c ∧ bb < w.heap.size ∧ ∀ j x, xs[j]? = some x → w.cell? ⟨bb, oo + j, none⟩ = some (.int .i64 x) := by
  rcases h with ⟨_, _, _, h⟩ | ⟨bb, oo, cap, hv, h1, h2, h3, h4⟩
  · exact absurd h hx
  · cases hv
    refine ⟨bb, oo, rfl, rfl, h1, h3, fun j x hj => ?_⟩
    have := h4 j x hj 0 _ rfl
    rwa [Nat.mul_one, Nat.add_zero] at this
end Go.Proofs.YtechpdfcgimkkaaDoor
