/-
  package step: (*machine).do at any instruction that may be and that the run does not end ahead of.
-/
import Derived.Test.YtechpdfcgimkkaaDoorMFC
import Derived.Test.YtechpdfcgimkkaaDoorMGC
import Derived.Test.YtechpdfcgimkkaaDoorMHC
import Derived.Test.YtechpdfcgimkkaaDoorMAC
import Derived.Deep.RegionWith
namespace Go.Proofs.YtechpdfcgimkkaaDoor
open Go.RowKit Go.Joins Isa
/-- What stays true of a machine. -/
structure McOk (s : Mc) : Prop where
  regs : RegsOk s.rs
  mem : RegsOk s.mem
  ins : ∀ x ∈ s.ins, (-1099511627776 : Int) ≤ x ∧ x ≤ 1099511627776
theorem iteP {α : Type} {c : Prop} [Decidable c] {x y : α} (P : α → Prop) (h1 : P x) (h2 : P y) : P (if c then x else y) := by split <;> assumption
theorem regs_set {rs : List Vl} (h : RegsOk rs) (D : Nat) (v : Vl) (h0 : -1099511627776 ≤ v.n) (h1 : v.n ≤ 1099511627776) : RegsOk (rs.set D v) := by
  intro x hx
  rcases List.mem_or_eq_of_mem_set hx with hx | rfl
  · exact h x hx
  · exact ⟨h0, h1⟩
theorem regs_get {rs : List Vl} (h : RegsOk rs) (D : Nat) : -1099511627776 ≤ (rs.getD D ⟨0, false⟩).n ∧ (rs.getD D ⟨0, false⟩).n ≤ 1099511627776 := by
  rw [List.getD_eq_getElem?_getD]
  cases hx : rs[D]? with
  | none => simp
  | some x => simpa using h x (List.mem_of_getElem? hx)
theorem oper_bd (k a b : Int) : -1099511627776 ≤ operN k a b ∧ operN k a b ≤ 1099511627776 := by
  unfold operN
  repeat' split
  all_goals first | exact foldN_bd _ | omega
theorem chk_bd {k d a b n : Int} {l : Bool} (h : chk k d a b n l = 0) : 1 ≤ k ∧ k ≤ 24 ∧ (0 ≤ d ∧ d < 8) ∧ (0 ≤ a ∧ a < 8) ∧ (0 ≤ b ∧ b < 8) ∧ -32768 ≤ n ∧ n ≤ 32767 := by
  unfold chk at h
  split at h
  · omega
  · split at h
    · omega
    · split at h
      · omega
      · split at h
        · omega
        · rename_i h1 h2 h3 h4
          simp [regB] at h3
          have b1 : -32768 ≤ lo k l := by unfold lo; repeat' split <;> omega
          have b2 : hi k l ≤ 32767 := by unfold hi; repeat' split <;> omega
          omega
theorem mcok_step {s : Mc} {tabs : List (List Int)} {k d a b n sz : Int} {l : Bool} (h : McOk s) (hc : chk k d a b n l = 0) (p0 : 0 ≤ s.pc) (p1 : s.pc ≤ 1073741824) (s0 : 0 ≤ sz) (s1 : sz ≤ 10) : McOk (doS tabs s k d a b n sz) := by
  obtain ⟨k1, k2, -, -, -, n0, n1⟩ := chk_bd hc
  obtain ⟨hr, hm, hi⟩ := h
  have f1 := fun D v h0 h1 => regs_set hr D v h0 h1
  have ht : ∀ x ∈ s.ins.tail, (-1099511627776 : Int) ≤ x ∧ x ≤ 1099511627776 := fun x hx => hi x (List.mem_of_mem_tail hx)
  have hh : (-1099511627776 : Int) ≤ s.ins.headD 0 ∧ s.ins.headD 0 ≤ 1099511627776 := by
    cases hs : s.ins with
    | nil => simp
    | cons x xs => exact hi x (by rw [hs]; exact List.mem_cons_self)
  unfold doS
  refine iteP McOk ⟨f1 _ _ (by show _ ≤ n; omega) (by show n ≤ _; omega), hm, hi⟩ ?_
  refine iteP McOk ⟨f1 _ _ (foldN_bd _).1 (foldN_bd _).2, hm, hi⟩ ?_
  refine iteP McOk ⟨f1 _ _ (oper_bd _ _ _).1 (oper_bd _ _ _).2, hm, hi⟩ ?_
  refine iteP McOk ⟨f1 _ _ (regs_get hm _).1 (regs_get hm _).2, hm, hi⟩ ?_
  refine iteP McOk ⟨hr, regs_set hm _ _ (regs_get hr _).1 (regs_get hr _).2, hi⟩ ?_
  refine iteP McOk ⟨f1 _ _ hh.1 hh.2, hm, ht⟩ ?_
  refine iteP McOk ⟨hr, hm, hi⟩ ?_
  refine iteP McOk ⟨hr, hm, hi⟩ ?_
  refine iteP McOk ⟨hr, hm, hi⟩ ?_
  refine iteP McOk ⟨f1 _ _ (by show _ ≤ s.pc + sz; omega) (by show s.pc + sz ≤ _; omega), hm, hi⟩ ?_
  refine iteP McOk ⟨hr, hm, hi⟩ ?_
  exact iteP McOk ⟨hr, hm, hi⟩ ⟨hr, hm, hi⟩
theorem told_step {s : Mc} {tabs : List (List Int)} {k d a b n sz : Int} : (doS tabs s k d a b n sz).told.length ≤ s.told.length + 1 := by
  unfold doS
  repeat (first | refine iteP (fun x : Mc => x.told.length ≤ s.told.length + 1) (by simp) ?_)
  simp
set_option maxHeartbeats 1000000 in
theorem do_any (w0 w : World) (B gm gd : Nat) (vT vI vO : Value) (s : Mc) (tabs : List (List Int)) (us : List Value) (k d a b n sz : Int) (l : Bool) (h : MSt w0 w B gm gd vT vI vO s) (ok : McOk s) (hc : chk k d a b n l = 0) (p0 : 0 ≤ s.pc) (p1 : s.pc ≤ 1073741824) (s0 : 0 ≤ sz) (s1 : sz ≤ 10)
    (he : endN s.rs s.mem.length tabs k a b n = 0) (ht : s.told.length ≤ 200000)
    (hT : ListAt w0 vcell 1 vT us) (hU : us.length = tabs.length) (hE : ∀ (j : Nat) (u : Value) (t : List Int), us[j]? = some u → tabs[j]? = some t → ListAt w0 icell 1 u t) :
    Calls Tryd.prog 61 #[.pointer (some ⟨gm, 0, none⟩), .agg #[.int .i64 k, .int .i64 d, .int .i64 a, .int .i64 b, .int .i64 n, .bool l], .int .i64 sz] w fun e w' => e = .returned (.tuple #[]) ∧ ∃ vI' vO', MSt w0 w' B gm gd vT vI' vO' (doS tabs s k d a b n sz) := by
  obtain ⟨k1, k2, ⟨d0, d1⟩, ⟨a0, a1⟩, ⟨b0, b1⟩, n0, n1⟩ := chk_bd hc
  have hbd : BdOk d a b n s.pc sz := ⟨d0, d1, a0, a1, b0, b1, n0, n1, p0, by omega, s0, s1⟩
  have hr := ok.regs
  have hne : k ≠ 2 ∧ k ≠ 1 ∧ thereB s.rs s.mem.length tabs k a n = true := by
    unfold endN at he
    split at he
    · omega
    · split at he
      · omega
      · split at he
        · omega
        · split at he
          · exact ⟨by assumption, by assumption, by assumption⟩
          · omega
  obtain ⟨ne2, ne1, hth⟩ := hne
  by_cases hop : 7 ≤ k ∧ k ≤ 13
  · exact do_op w0 w B gm gd vT vI vO s tabs k d a b n sz l h hr hbd hop.1 hop.2
  · by_cases hbr : 18 ≤ k ∧ k ≤ 21
    · cases hk : takenB k (s.rs.getD a.toNat ⟨0, false⟩).n (s.rs.getD b.toNat ⟨0, false⟩).n
      · exact do_brno w0 w B gm gd vT vI vO s tabs k d a b n sz l h hr hbd hbr.1 hbr.2 hk
      · exact do_bryes w0 w B gm gd vT vI vO s tabs k d a b n sz l h hr hbd hbr.1 hbr.2 hk
    · have hk : k = 3 ∨ k = 4 ∨ k = 5 ∨ k = 6 ∨ k = 14 ∨ k = 15 ∨ k = 16 ∨ k = 17 ∨ k = 22 ∨ k = 23 ∨ k = 24 := by omega
      rcases hk with rfl | rfl | rfl | rfl | rfl | rfl | rfl | rfl | rfl | rfl | rfl
      · exact do_ret w0 w B gm gd vT vI vO s tabs d a b n sz l h hr hbd
      · exact do_nop w0 w B gm gd vT vI vO s tabs d a b n sz l h hr hbd
      · exact do_li w0 w B gm gd vT vI vO s tabs d a b n sz l h hr hbd
      · exact do_addi w0 w B gm gd vT vI vO s tabs d a b n sz l h hr hbd
      · simp [thereB, placeB] at hth
        exact do_load w0 w B gm gd vT vI vO s tabs d a b n sz l h hr hbd hth.1 hth.2
      · simp [thereB, placeB] at hth
        exact do_store w0 w B gm gd vT vI vO s tabs d a b n sz l h hr hbd hth.1 hth.2
      · cases hi : s.ins with
        | nil => exact do_in0 w0 w B gm gd vT vI vO s tabs d a b n sz l h hr hbd hi
        | cons x xs => exact do_in1 w0 w B gm gd vT vI vO s tabs d a b n sz l h hr hbd x xs hi
      · exact do_out w0 w B gm gd vT vI vO s tabs d a b n sz l h hr hbd ht
      · exact do_jump w0 w B gm gd vT vI vO s tabs d a b n sz l h hr hbd
      · exact do_call w0 w B gm gd vT vI vO s tabs d a b n sz l h hr hbd
      · simp [thereB, placeB] at hth
        exact do_table w0 w B gm gd vT vI vO s tabs d a b n sz l h hr hbd us hT hU hE hth.1.1 hth.1.2 hth.2.1 hth.2.2
end Go.Proofs.YtechpdfcgimkkaaDoor
/-
  package step: start: the machine ahead of its first step.
-/
namespace Go.Proofs.YtechpdfcgimkkaaDoor
open Go.RowKit Go.Joins Isa
theorem inVl : (Tryd.prog.info? 101).map (fun i => (i.zero, i.size, i.bytes)) = some (some (.agg #[.int .i64 0, .bool false]), 2, 16) := by kernel_rfl
theorem made_flat2 (z : List Value) (n : Nat) (hz : 0 < z.length) : madeCells z.toArray (n * z.length) = ((List.replicate n z).flatten).toArray := by
  apply Array.ext
  · simp [madeCells]
  · intro i h1 h2
    have hi : i < n * z.length := by simpa [madeCells] using h1
    have key : ∀ (n i : Nat), i < n * z.length → (List.replicate n z).flatten[i]? = z[i % z.length]? := by
      intro n
      induction n with
      | zero => intro i hi; simp at hi
      | succ n ih =>
        intro i hi
        rw [List.replicate_succ, List.flatten_cons]
        rcases Nat.lt_or_ge i z.length with q | q
        · rw [List.getElem?_append_left q, Nat.mod_eq_of_lt q]
        · rw [List.getElem?_append_right q, ih _ (by rw [Nat.succ_mul] at hi; omega), Nat.mod_eq_sub_mod q]
    have hk := key n i hi
    have hm : i % z.length < z.length := Nat.mod_lt _ hz
    rw [List.getElem?_eq_getElem (by simpa using h2), List.getElem?_eq_getElem hm] at hk
    simp [madeCells, hm]
    exact (Option.some.inj hk).symm
theorem alloc_at (w : World) (o : Obj) (n : Nat) (h : n = w.heap.size) : (w.alloc o).heap[n]? = some o := by
  subst h; show (w.heap.push o)[w.heap.size]? = _; simp
def vl0 (n : Int) : Vl := ⟨n, false⟩
/-- The memory, filled as far as j. -/
def memTo (data : List Int) (j : Nat) : List Vl := (data.take j).map vl0 ++ List.replicate (data.length - j) ⟨0, false⟩
theorem memTo_len (data : List Int) (j : Nat) (h : j ≤ data.length) : (memTo data j).length = data.length := by simp [memTo]; omega
theorem memTo_set (data : List Int) (j : Nat) (x : Int) (h : data[j]? = some x) : (memTo data j).set j ⟨x, false⟩ = memTo data (j + 1) := by
  have hj : j < data.length := (List.getElem?_eq_some_iff.1 h).1
  unfold memTo
  rw [List.take_add_one, h, show data.length - j = (data.length - (j + 1)) + 1 by omega, List.replicate_succ, List.set_append_right _ _ (by simp; omega)]
  simp [vl0, show min j data.length = j by omega]
theorem memTo_all (data : List Int) : memTo data data.length = data.map vl0 := by simp [memTo]
def mc0 (m : Img) (ins : List Int) (f : Fn) : Mc := ⟨List.replicate 8 ⟨0, false⟩, m.data.map vl0, ins, [], f.start⟩
theorem start_st {w0 wr W : World} {gd : Nat} {vB vI : Value} {m : Img} {ins : List Int} {f : Fn} (hb : Below w0.heap.size w0 wr) (hd : w0.heap.size ≤ gd) (hm : wr.heap[gd]? = some (.cells (flat Vl.cells (m.data.map vl0)).toArray 101)) (hW : Below wr.heap.size wr W)
    (hx : W.heap[wr.heap.size]? = some (.cells (Mc.cells (List.replicate 8 ⟨0, false⟩) (.slice (some ⟨gd, 0, none⟩) m.data.length m.data.length) vB vI (.slice none 0 0) f.start) 105)) (hin : ListAt w0 icell 1 vI ins) : MSt w0 W w0.heap.size wr.heap.size gd vB vI (.slice none 0 0) (mc0 m ins f) := by
  have hl : gd < wr.heap.size := (Array.getElem?_eq_some_iff.1 hm).1
  refine ⟨⟨rfl, ?_⟩, (hW.block gd hl).trans hm, ⟨rfl, Or.inl ⟨rfl, rfl⟩⟩, hin, hb.size, hd, Nat.le_refl _, hb.trans (hW.mono hb.size)⟩
  show W.heap[wr.heap.size]? = some (.cells (Mc.cells (List.replicate 8 ⟨0, false⟩) (.slice (some ⟨gd, 0, none⟩) (m.data.map vl0).length (m.data.map vl0).length) vB vI (.slice none 0 0) f.start) 105)
  rw [List.length_map]
  exact hx
set_option maxRecDepth 100000 in
set_option maxHeartbeats 2000000 in
theorem start_any (vT vF vB vD vL vI : Value) (m : Img) (ins : List Int) (f : Fn) (w0 w : World) (hb : Below w0.heap.size w0 w) (hI : ImgAt w0 vT vF vB vD vL m) (hin : ListAt w0 icell 1 vI ins) (hf : m.funcs[m.entry.toNat]? = some f) (he : 0 ≤ m.entry) (hd : m.data.length ≤ 64) :
    Calls Tryd.prog 57 #[.agg #[vT, vF, vB, vD, vL, .int .i64 m.entry], vI] w fun e w' => ∃ gm gd, e = .returned (.pointer (some ⟨gm, 0, none⟩)) ∧ MSt w0 w' w0.heap.size gm gd vB vI (.slice none 0 0) (mc0 m ins f) := by
  have hs0 := hb.size
  have II := hI.stays (Nat.le_refl _) hb
  obtain ⟨aT, cT, rfl, lT⟩ := hI.text.form
  obtain ⟨aD, cD, rfl, lD⟩ := hI.data.form
  obtain ⟨aL, cL, rfl, lL⟩ := hI.lines.form
  obtain ⟨vs, hv, -, -⟩ := hI.tables
  obtain ⟨aB, cB, rfl, lB⟩ := hv.form
  obtain ⟨aI, cI, rfl, lI⟩ := hin.form
  obtain ⟨E, hE⟩ := Int.eq_ofNat_of_zero_le he
  rw [hE, Int.toNat_natCast] at hf
  have hEl : E < m.funcs.length := (List.getElem?_eq_some_iff.1 hf).1
  obtain ⟨bF, oF, cF, hvF, f1, f2, f3, f4⟩ := II.funcs.resolve_left (by rintro ⟨_, _, _, h⟩; rw [h] at hEl; simp at hEl)
  subst hvF
  have fE := f4 E f hf 1 _ rfl
  clear f4 hv
  rw [hE]
  have hEl' : (E : Int) < (m.funcs.length : Int) := by omega
  obtain ⟨iv, hi, hz, hs, hbt⟩ := info_of inVl
  obtain ⟨wi, hwi⟩ : ∃ wi, w.alloc (.cells #[.slice aT m.text.length cT, .slice (some ⟨bF, oF, none⟩) m.funcs.length cF, .slice aB vs.length cB, .slice aD m.data.length cD, .slice aL m.lines.length cL, .int .i64 E] 29) = wi := ⟨_, rfl⟩
  have hmk := fun wx => make_wide (P := Tryd.prog) 103 101 iv _ Tryd.underlying103 hi hz m.data.length (by rw [hbt]; omega) (by omega) wx
  rw [hs, show (Value.agg #[.int .i64 0, .bool false]).cells = ([.int .i64 0, .bool false] : List Value).toArray from rfl, show m.data.length * 2 = m.data.length * ([.int .i64 0, .bool false] : List Value).length from rfl, made_flat2 _ _ (by decide)] at hmk
  have HM : Hid _ := hmk
  have HWI : Hid _ := hwi
  have hgw : wi.heap.size = w.heap.size + 1 := by rw [← hwi]; simp
  have HGW : Hid _ := hgw
  have HWB : Hid (wi.heap[w.heap.size]? = some (.cells #[.slice aT m.text.length cT, .slice (some ⟨bF, oF, none⟩) m.funcs.length cF, .slice aB vs.length cB, .slice aD m.data.length cD, .slice aL m.lines.length cL, .int .i64 E] 29)) := by
    show _ = _
    rw [← hwi]; show (w.heap.push _)[w.heap.size]? = _; simp
  have HBI : Hid (Below w0.heap.size w0 wi) := by rw [← hwi]; exact hb.alloc hs0 _
  have HD : Hid (ListAt w0 icell 1 (.slice aD m.data.length cD) m.data) := hI.data
  have HIN : Hid (ListAt w0 icell 1 (.slice aI ins.length cI) ins) := hin
  have HB : Hid (Below w0.heap.size w0 w) := hb
  have HFE : Hid _ := fE
  have RE : Hid ((List.replicate m.data.length ([.int .i64 0, .bool false] : List Value)).flatten = flat Vl.cells (memTo m.data 0)) := by
    show _ = _
    unfold memTo flat
    rw [List.take_zero, Nat.sub_zero]
    simp only [List.map_nil, List.nil_append]
    generalize m.data.length = q
    induction q with
    | zero => rfl
    | succ q ih => rw [List.replicate_succ, List.flatten_cons, List.replicate_succ, List.flatMap_cons, ih]; rfl
  clear hmk hI hin II hb hi hz hs hbt hf lT lL lB lI hE he hwi hgw fE
  go_enter Tryd.func57, Tryd.ntmps57
  go_wp2_with (first | (at_make; refine wpList_make_run _ rfl (.tmp 10) (.tmp 10) 103 rfl _ _ rfl rfl (HM.out _) ?_))
  go_loopw [15] (fun u wr => ∃ j : Nat, j ≤ m.data.length ∧ u = .int .i64 (j : Int) ∧ Hid (wr.heap[w.heap.size + 1]? = some (.cells (flat Vl.cells (memTo m.data j)).toArray 101)) ∧ Hid (Below (w.heap.size + 1) wi wr)) (fun u _ => (m.data.length - intOf u).toNat)
  case atStart =>
    refine ⟨0, by omega, rfl, ?_, ?_⟩
    · show _ = _
      rw [← RE.out]
      exact alloc_at _ _ _ (by simp)
    · show Below _ _ _
      rw [HWI.out]
      exact (Below.refl _ _).alloc (by rw [HGW.out]; exact Nat.le_refl _) _
  case round =>
    obtain ⟨j, j1, rfl, hrow, hfr⟩ := hrel
    have hlt : w.heap.size + 1 < wr.heap.size := (Array.getElem?_eq_some_iff.1 hrow.out).1
    have HBW : Hid (Below w0.heap.size w0 wr) := HBI.out.trans (hfr.out.mono (by omega))
    by_cases hj : j < m.data.length
    · obtain ⟨x, hx⟩ : ∃ x, m.data[j]? = some x := ⟨_, List.getElem?_eq_getElem hj⟩
      obtain ⟨bD, oD, cD', hvD, g1, g2, g3, g4⟩ := (HD.out.stays (Nat.le_refl _) HBW.out).resolve_left (by rintro ⟨_, _, _, h⟩; rw [h] at hj; simp at hj)
      cases hvD
      have x0 : wr.cell? ⟨bD, oD + j, none⟩ = some (.int .i64 x) := by have := g4 j x hx 0 _ rfl; rwa [Nat.mul_one, Nat.add_zero] at this
      have hml := memTo_len m.data j j1
      obtain ⟨y, hy⟩ : ∃ y, (memTo m.data j)[j]? = some y := ⟨_, List.getElem?_eq_getElem (by omega)⟩
      obtain ⟨c0, c1, c2, c3, -⟩ := mem_cells hrow.out hy
      have hjj : (j : Int) < (m.data.length : Int) := by omega
      have HX : Hid _ := hx
      have HML : Hid _ := hml
      clear hx hy hml g4
      go_wp2_with (first | (go_at_call 92; refine (number_x _ _).mono ?_; rintro e w' ⟨rfl, rfl⟩))
      go_roundw
      case rel =>
        have C : Chg wr _ (w.heap.size + 1) _ 101 := Chg.alloc (Chg.set (Chg.set (Chg.refl hrow.out) (j * 2) (.int .i64 x)) (j * 2 + 1) (.bool false)) (.cells #[.int .i64 x, .bool false] 101)
        refine ⟨j + 1, by omega, by go_num, ?_, hfr.out.trans (C.below (Nat.le_refl _))⟩
        show _ = _
        rw [← memTo_set _ _ _ HX.out, ← flat_set2 ⟨x, false⟩ _ _ (by rw [HML.out]; exact hj)]
        have := C.new
        rwa [List.setIfInBounds_toArray, List.setIfInBounds_toArray] at this
      case measure => simp [intOf]; omega
    · have hjn : j = m.data.length := by omega
      subst hjn
      have hbx := (hfr.out.block w.heap.size (by omega)).trans HWB.out
      have HRW : Hid (wr.heap[w.heap.size + 1]? = some (.cells (flat Vl.cells (m.data.map vl0)).toArray 101)) := by rw [← memTo_all]; exact hrow.out
      have b1 : wr.cell? ⟨w.heap.size, 1, none⟩ = some (.slice (some ⟨bF, oF, none⟩) m.funcs.length cF) := by simp only [World.cell?, hbx]; rfl
      have b2 : wr.cell? ⟨w.heap.size, 2, none⟩ = some (.slice aB vs.length cB) := by simp only [World.cell?, hbx]; rfl
      have b5 : wr.cell? ⟨w.heap.size, 5, none⟩ = some (.int .i64 E) := by simp only [World.cell?, hbx]; rfl
      have b3 : wr.cell? ⟨bF, oF + E * 3 + 1, none⟩ = some (.int .i64 f.start) := ((hfr.out.cell (p := ⟨bF, _, none⟩) (by show bF < _; omega)).trans (by rw [← HWI.out]; exact World.cell?_alloc_past _ _ _ f3)).trans HFE.out
      clear hbx
      go_wp2_with fail
      go_region
      all_goals
        go_wp2_with fail
        go_ret
        refine ⟨wr.heap.size, w.heap.size + 1, rfl, start_st HBW.out (by omega) HRW.out ?_ ?_ HIN.out⟩
        · first | exact (Below.refl _ _).alloc (Nat.le_refl _) _ | exact ((Below.refl _ _).alloc (Nat.le_refl _) _).drew | exact below_drewN ((Below.refl _ _).alloc (Nat.le_refl _) _) _
        · exact alloc_at wr (.cells (Mc.cells (List.replicate 8 ⟨0, false⟩) (.slice (some ⟨w.heap.size + 1, 0, none⟩) m.data.length m.data.length) (.slice aB vs.length cB) (.slice aI ins.length cI) (.slice none 0 0) f.start) 105) _ rfl
end Go.Proofs.YtechpdfcgimkkaaDoor
