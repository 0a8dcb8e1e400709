/-
  The call of boltholekeep.Calls returns true at every number.
-/
import Derived.Test.YtechpdfcgimkkaaDoorMSC
import Derived.Test.YtechpdfcgimkkaaDoorWalkEqC
namespace Go.Proofs.YtechpdfcgimkkaaDoor
open Go.RowKit Go.Joins Isa
theorem no_ins {w : World} : ListAt w icell 1 (.slice none 0 0) ([] : List Int) := Or.inl ⟨_, _, rfl, rfl⟩
set_option maxRecDepth 100000 in
set_option maxHeartbeats 4000000 in
theorem calls_law (a : Int) (w : World) (ht : Tabs w) (_a1 : -9223372036854775808 ≤ a) (_a2 : a ≤ 9223372036854775807) :
    Calls Tryd.prog 12 #[.int .i64 a] w fun e w' => e = .returned (.bool true) ∧ Below w.heap.size w w' := by
  obtain ⟨v0, v1⟩ := pk_bd a 100 (by decide)
  have P1 : Hid (∀ w, Calls Tryd.prog 19 #[.int .i64 a, .int .i64 100] w fun e w' => e = .returned (.int .i64 (pk a 100)) ∧ w' = w) := fun w => picked_any a _ w (by decide) _a1 _a2
  generalize pk a 100 = v at *
  have HT : Hid _ := ht
  clear ht
  go_enter Tryd.func12, Tryd.ntmps12
  go_upto_region 1 with fail
  go_wp2_with fail
  refine Calls.mono (P1.out _) ?_
  rintro e w1 ⟨rfl, hw⟩
  rw [hw]
  clear hw w1
  go_wp2_with (first
    | (go_at_call 32; refine (out_any _ _).mono ?_; rintro e w' ⟨rfl, rfl⟩)
    | (go_at_call 33; refine (li_any _ _ _).mono ?_; rintro e w' ⟨rfl, rfl⟩))
  obtain ⟨s, hrun, htold⟩ := callsA_run v v0 (by omega)
  have hok := callsA_ok v0 (show v ≤ 32767 by omega)
  have hck : runChk (aloneI (callsAL v)) [] 100 = 0 := told_chk hok (by simp [callsAL]) (by simp) (by intro z hz; cases hz) (by decide) (by decide)
  have hro := told_out hck hrun
  rw [htold] at hro
  refine Calls.mono (told_call (callsAL v) [] _ _ _ _ _ _ _ _ _ _ _ w _ hro hck hok (by simp [callsAL]) rfl rfl (by simp) rfl HT.out (by go_grown) no_ins) ?_
  rintro e w2 ⟨a2, N2, c2, rfl, hO, hB⟩
  have HL : Hid (ListAt w2 icell 1 (.slice a2 N2 c2) [v]) := hO
  have HB : Hid _ := hB
  have zb : w.heap.size ≤ w2.heap.size := HB.out.size
  clear hO hro htold hrun hck hB hok s
  go_wp2_with (first
    | (go_at_call 32; refine (out_any _ _).mono ?_; rintro e w' ⟨rfl, rfl⟩)
    | (go_at_call 33; refine (li_any _ _ _).mono ?_; rintro e w' ⟨rfl, rfl⟩))
  obtain ⟨s, hrun, htold⟩ := callsB_run
  have hck : runChk (aloneI callsBL) [] 100 = 0 := told_chk callsB_ok (by decide) (by simp) (by intro z hz; cases hz) (by decide) (by decide)
  have hro := told_out hck hrun
  refine Calls.mono (told_call callsBL [] _ _ _ _ _ _ _ _ _ _ _ w2 _ hro hck callsB_ok (by decide) rfl rfl (by simp) rfl (HT.out.below HT.out.sz HB.out) (by go_grown) no_ins) ?_
  rintro e w3 ⟨a3, N3, c3, rfl, hO, hB3⟩
  have HB3 : Hid (Below w2.heap.size w2 w3) := hB3
  have z3 : w2.heap.size ≤ w3.heap.size := HB3.out.size
  clear hO hro htold hrun hck hB3 s
  go_wp2_with (first
    | (go_at_call 32; refine (out_any _ _).mono ?_; rintro e w' ⟨rfl, rfl⟩)
    | (go_at_call 33; refine (li_any _ _ _).mono ?_; rintro e w' ⟨rfl, rfl⟩))
  obtain ⟨s, hrun, htold⟩ := callsC_run v v0 (by omega)
  have hok := callsC_ok v0 (show v ≤ 32767 by omega)
  have hck : runChk (aloneI (callsCL v)) [] 100 = 0 := told_chk hok (by simp [callsCL]) (by simp) (by intro z hz; cases hz) (by decide) (by decide)
  have hro := told_out hck hrun
  refine Calls.mono (told_call (callsCL v) [] _ _ _ _ _ _ _ _ _ _ _ w3 _ hro hck hok (by simp [callsCL]) rfl rfl (by simp) rfl (HT.out.below HT.out.sz (HB.out.trans (HB3.out.mono zb))) (by go_grown) no_ins) ?_
  rintro e w4 ⟨a4, N4, c4, rfl, hO, hB4⟩
  have HB4 : Hid (Below w3.heap.size w3 w4) := hB4
  have z4 : w3.heap.size ≤ w4.heap.size := HB4.out.size
  clear hO hro htold hrun hck hB4 s hok
  go_wp2_with fail
  obtain ⟨s, hrun, htold⟩ := callsD_run
  have hck : runChk (aloneI callsDL) [] 100 = 0 := told_chk callsD_ok (by decide) (by simp) (by intro z hz; cases hz) (by decide) (by decide)
  have hro := told_out hck hrun
  have HW4 : Hid (Below w.heap.size w w4) := HB.out.trans ((HB3.out.trans (HB4.out.mono z3)).mono zb)
  refine Calls.mono (told_call callsDL [] _ _ _ _ _ _ _ _ _ _ _ w4 _ hro hck callsD_ok (by decide) rfl rfl (by simp) rfl (HT.out.below HT.out.sz HW4.out) (by go_grown) no_ins) ?_
  rintro e w5 ⟨a5, N5, c5, rfl, hO, hB5⟩
  have HB5 : Hid (Below w4.heap.size w4 w5) := hB5
  have z5 : w4.heap.size ≤ w5.heap.size := HB5.out.size
  clear hO hro htold hrun hck hB5 s
  have HL5 : Hid (ListAt w5 icell 1 (.slice a2 N2 c2) [v]) := ListAt.stays HL.out (Nat.le_refl _) ((HB3.out.trans (HB4.out.mono z3)).trans (HB5.out.mono (Nat.le_trans z3 z4)))
  have HW5 : Hid (Below w.heap.size w w5) := HW4.out.trans (HB5.out.mono (Nat.le_trans zb (Nat.le_trans z3 z4)))
  go_wp2_with fail
  refine Calls.mono (equal_any _ _ [v] [v] _ (ListAt.stays HL5.out (Nat.le_refl _) ((Below.refl _ _).alloc (Nat.le_refl _) _)) (ints_new w5 [v] #[.int .i64 v] 3 rfl _ _ _ rfl rfl (Nat.le_refl _) (by unfold maxLen; omega))) ?_
  rintro e w6 ⟨rfl, nn, rfl⟩
  have zw : w.heap.size ≤ w5.heap.size := HW5.out.size
  rw [decide_eq_true rfl]
  go_wp2_with fail
  go_ret
  exact ⟨rfl, HW5.out.trans ((below_drewN ((Below.refl _ _).alloc (Nat.le_refl _) _) _).mono zw)⟩
end Go.Proofs.YtechpdfcgimkkaaDoor
