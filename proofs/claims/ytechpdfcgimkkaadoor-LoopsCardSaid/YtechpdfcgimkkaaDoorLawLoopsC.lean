/-
  The call of boltholekeep.Loops returns true at every number.
-/
import Derived.Test.YtechpdfcgimkkaaDoorMSC
import Derived.Test.YtechpdfcgimkkaaDoorPureTold2C
namespace Go.Proofs.YtechpdfcgimkkaaDoor
open Go.RowKit Go.Joins Isa
theorem run_told (m : Img) (ins told : List Int) (fuel en st pc : Int) (vT vF vB vD vL vI : Value) (w W : World) (hr : runOut m ins fuel = ⟨told, en, st, pc⟩) (hc : runChk m ins fuel = 0) (hI : ImgAt w vT vF vB vD vL m) (hok : m.ok) (ht : Tabs w) (hin : ListAt w icell 1 vI ins) (hb : Below w.heap.size w W) :
    Calls Tryd.prog 26 #[.agg #[vT, vF, vB, vD, vL, .int .i64 m.entry], vI, .int .i64 fuel] W fun e w' => ∃ a n c, e = .returned (.tuple #[.agg #[.slice a n c, .int .i64 en, .int .i64 st, .int .i64 pc], .int .i64 0]) ∧ ListAt w' icell 1 (.slice a n c) told ∧ Below W.heap.size W w' := by
  have := run_any vT vF vB vD vL vI m ins fuel W (hI.stays (Nat.le_refl _) hb) hok (ht.below ht.sz hb) (hin.stays (Nat.le_refl _) hb)
  rw [hr, hc] at this
  refine this.mono ?_
  rintro e w' ⟨vO, rfl, h1, h2⟩
  obtain ⟨a, c, rfl, _⟩ := h1.form
  exact ⟨_, _, _, rfl, h1, h2⟩
set_option maxRecDepth 100000 in
set_option maxHeartbeats 4000000 in
theorem loops_law (a : Int) (w : World) (ht : Tabs w) (_a1 : -9223372036854775808 ≤ a) (_a2 : a ≤ 9223372036854775807) :
    Calls Tryd.prog 15 #[.int .i64 a] w fun e w' => e = .returned (.bool true) ∧ Below w.heap.size w w' := by
  obtain ⟨v0, v1⟩ := pk_bd a 60 (by decide)
  have P1 : Hid (∀ w, Calls Tryd.prog 19 #[.int .i64 a, .int .i64 60] w fun e w' => e = .returned (.int .i64 (pk a 60)) ∧ w' = w) := fun w => picked_any a _ w (by decide) _a1 _a2
  generalize pk a 60 = v at *
  obtain ⟨j, rfl⟩ := Int.eq_ofNat_of_zero_le v0
  have hj : j ≤ 59 := by omega
  have HT : Hid _ := ht
  clear ht
  go_enter Tryd.func15, Tryd.ntmps15
  go_upto_region 1 with fail
  go_wp2_with fail
  refine Calls.mono (P1.out _) ?_
  rintro e w1 ⟨rfl, hw⟩
  rw [hw]
  clear hw w1 P1
  go_upto_region 2 with fail
  rw [show 1 + (j : Int) = (j : Int) + 1 by omega]
  go_wp2_with (first
    | (go_at_call 32; refine (out_any _ _).mono ?_; rintro e w' ⟨rfl, rfl⟩)
    | (go_at_call 33; refine (li_any _ _ _).mono ?_; rintro e w' ⟨rfl, rfl⟩))
  have hok := loop_ok (k := (j : Int) + 1) (by omega) (by omega)
  have HOK : Hid _ := alone_ok (loopL ((j : Int) + 1)) hok (by simp [loopL])
  have hc1 := told_chk hok (by simp [loopL]) (ins := []) (by simp) (by intro z hz; cases hz) (fuel := 1000) (by decide) (by decide)
  have hc2 := told_chk hok (by simp [loopL]) (ins := []) (by simp) (by intro z hz; cases hz) (fuel := ((3 * (j + 1) : Nat) : Int)) (by omega) (by omega)
  have hr1 := told_out (fuel := 1000) hc1 (loop_run j hj)
  obtain ⟨s2, hs2⟩ := loop_run2 j hj
  have hr2 := told_out hc2 hs2
  have R1 : Hid _ := hr1
  rw [show ((3 * (j + 1) : Nat) : Int) = 3 * ((j : Int) + 1) by omega] at hr2 hc2
  have R2 : Hid _ := hr2
  have C1 : Hid _ := hc1
  have C2 : Hid _ := hc2
  clear hr1 hr2 hc1 hc2 hs2
  obtain ⟨wa, hwa⟩ : ∃ wa, (w.alloc (.cells #[.int .i64 5, .int .i64 1, .int .i64 0, .int .i64 0, .int .i64 ((j : Int) + 1), .bool false] 61)).alloc (.cells #[.int .i64 17, .int .i64 0, .int .i64 1, .int .i64 0, .int .i64 0, .bool false] 61) = wa := ⟨_, rfl⟩
  have hba : Below w.heap.size w wa := by rw [← hwa]; go_grown
  have hza : w.heap.size + 1 + 1 = wa.heap.size := by rw [← hwa]; simp
  have hb2 : Below w.heap.size w (wa.alloc (.cells (flat iCells (loopL ((j : Int) + 1))).toArray 61)) := hba.alloc hba.size _
  have AL := alone_any (loopL ((j : Int) + 1)) _ _ (HT.out.below HT.out.sz hb2) (ins_new wa (loopL ((j : Int) + 1)) _ 61 rfl (w.heap.size + 1 + 1) 4 4 hza rfl) (by simp [loopL]) hok
  rw [← hwa] at AL
  refine Calls.mono AL ?_
  rintro e w2 ⟨vT, vF, vD, rfl, hI, hb3⟩
  rw [hwa] at hb3
  have HB2 : Hid (Below w.heap.size w w2) := hb2.trans (hb3.mono hb2.size)
  have HI : Hid _ := hI
  obtain ⟨aT, cT, rfl, _⟩ := hI.text.form
  obtain ⟨aF, cF, rfl, _⟩ := hI.funcs.form
  obtain ⟨aD, cD, rfl, _⟩ := hI.data.form
  have zw2 : w.heap.size ≤ w2.heap.size := HB2.out.size
  clear AL hb3 hb2 hba hwa hza hok hI
  go_wp2_with fail
  have HT2 : Hid _ := HT.out.below HT.out.sz HB2.out
  refine Calls.mono (run_told (aloneI (loopL ((j : Int) + 1))) [] _ 1000 _ _ _ _ _ _ _ _ _ w2 _ R1.out C1.out HI.out HOK.out HT2.out (Or.inl ⟨_, _, rfl, rfl⟩) ((Below.refl _ _).alloc (Nat.le_refl _) _)) ?_
  rintro e w3 ⟨aO, nO, cO, rfl, hO, hb3⟩
  obtain ⟨hc3, hf3⟩ := bcell hb3
  have x0 := hc3 w2.heap.size 0 (by simp)
  have x1 := hc3 w2.heap.size 1 (by simp)
  have x2 := hc3 w2.heap.size 2 (by simp)
  have x3 := hc3 w2.heap.size 3 (by simp)
  have x4 := hc3 w2.heap.size 4 (by simp)
  have x5 := hc3 w2.heap.size 5 (by simp)
  simp at x0 x1 x2 x3 x4 x5
  have hz3 : w2.heap.size < w3.heap.size := by have := hb3.size; simp at this; omega
  have HB3 : Hid (Below w2.heap.size w2 w3) := ((Below.refl _ _).alloc (Nat.le_refl _) _).trans (hb3.mono (by simp))
  obtain ⟨bb, oo, rfl, hN, hcap, hbb, hx⟩ := list_cells (xs := downN (j + 1)) hO (by simp [downN])
  rw [downN_len] at hN
  subst hN
  have y0 := hx 0 _ rfl
  rw [Nat.add_zero] at y0
  have y1 := hx j 1 (by have := downN_last j; rw [List.getD_eq_getElem?_getD, List.getElem?_eq_getElem (by rw [downN_len]; omega)] at this; rw [List.getElem?_eq_getElem (by rw [downN_len]; omega)]; exact congrArg some this)
  clear hb3 hc3 hf3 hO hx
  go_wp2_with fail
  refine Calls.mono (run_told (aloneI (loopL ((j : Int) + 1))) [] _ (3 * ((j : Int) + 1)) _ _ _ _ _ _ _ _ _ w3 _ R2.out C2.out (HI.out.stays (Nat.le_refl _) HB3.out) HOK.out (HT2.out.below HT2.out.sz HB3.out) (Or.inl ⟨_, _, rfl, rfl⟩) ((Below.refl _ _).alloc (Nat.le_refl _) _)) ?_
  rintro e w4 ⟨aQ, nQ, cQ, rfl, hO, hb4⟩
  obtain ⟨hc4, hf4⟩ := bcell hb4
  have u0 := hc4 w3.heap.size 0 (by simp)
  have u1 := hc4 w3.heap.size 1 (by simp)
  have u2 := hc4 w3.heap.size 2 (by simp)
  have u3 := hc4 w3.heap.size 3 (by simp)
  simp at u0 u1 u2 u3
  have hz4 : w3.heap.size < w4.heap.size := by have := hb4.size; simp at this; omega
  have HB4 : Hid (Below w3.heap.size w3 w4) := ((Below.refl _ _).alloc (Nat.le_refl _) _).trans (hb4.mono (by simp))
  have t0 := (HB4.out.cell (p := ⟨bb, _, none⟩) hbb).trans y0
  have t1 := (HB4.out.cell (p := ⟨bb, _, none⟩) hbb).trans y1
  have hbb4 : bb < w4.heap.size := by omega
  have hw : w.heap.size ≤ w4.heap.size := by omega
  clear hb4 hc4 hf4 hO y0 y1
  go_wp2_with fail
  go_ret
  exact ⟨rfl, (HB2.out.trans ((HB3.out.trans (HB4.out.mono (by omega))).mono zw2)).trans (Below.mono ((Below.refl _ _).alloc (Nat.le_refl _) _) hw)⟩
end Go.Proofs.YtechpdfcgimkkaaDoor
