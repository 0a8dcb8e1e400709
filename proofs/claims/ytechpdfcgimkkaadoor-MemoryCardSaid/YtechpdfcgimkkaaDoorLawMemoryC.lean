/-
  The call of boltholekeep.Memory returns true at every three numbers.
-/
import Derived.Test.YtechpdfcgimkkaaDoorMSC
import Derived.Test.YtechpdfcgimkkaaDoorPureTold2C
import Derived.Test.YtechpdfcgimkkaaDoorWalkEqC
import Derived.Deep.CutBlock
namespace Go.Proofs.YtechpdfcgimkkaaDoor
open Go.RowKit Go.Joins Isa
theorem no_ins0 {w : World} : ListAt w icell 1 (.slice none 0 0) ([] : List Int) := Or.inl ⟨_, _, rfl, rfl⟩
set_option maxRecDepth 100000 in
set_option maxHeartbeats 4000000 in
theorem memory_law (a b c : Int) (w : World) (ht : Tabs w) (_a1 : -9223372036854775808 ≤ a) (_a2 : a ≤ 9223372036854775807) (_b1 : -9223372036854775808 ≤ b) (_b2 : b ≤ 9223372036854775807) (_c1 : -9223372036854775808 ≤ c) (_c2 : c ≤ 9223372036854775807) :
    Calls Tryd.prog 10 #[.int .i64 a, .int .i64 b, .int .i64 c] w fun e w' => e = .returned (.bool true) ∧ Below w.heap.size w w' := by
  obtain ⟨x0, x1⟩ := pk_bd a 6 (by decide)
  obtain ⟨y0, y1⟩ := pk_bd b 6 (by decide)
  obtain ⟨v0, v1⟩ := pk_bd c 1000 (by decide)
  have P1 : Hid (∀ w, Calls Tryd.prog 19 #[.int .i64 a, .int .i64 6] w fun e w' => e = .returned (.int .i64 (pk a 6)) ∧ w' = w) := fun w => picked_any a _ w (by decide) _a1 _a2
  have P2 : Hid (∀ w, Calls Tryd.prog 19 #[.int .i64 b, .int .i64 6] w fun e w' => e = .returned (.int .i64 (pk b 6)) ∧ w' = w) := fun w => picked_any b _ w (by decide) _b1 _b2
  have P3 : Hid (∀ w, Calls Tryd.prog 19 #[.int .i64 c, .int .i64 1000] w fun e w' => e = .returned (.int .i64 (pk c 1000)) ∧ w' = w) := fun w => picked_any c _ w (by decide) _c1 _c2
  generalize pk a 6 = x at *
  generalize pk b 6 = y at *
  generalize pk c 1000 = v at *
  have HT : Hid _ := ht
  clear ht
  go_enter Tryd.func10, Tryd.ntmps10
  go_upto_region 1 with fail
  go_wp2_with fail
  refine Calls.mono (P1.out _) ?_
  rintro e w1 ⟨rfl, hw⟩
  rw [hw]
  clear hw w1
  go_wp2_with fail
  refine Calls.mono (P2.out _) ?_
  rintro e w1 ⟨rfl, hw⟩
  rw [hw]
  clear hw w1
  go_wp2_with fail
  refine Calls.mono (P3.out _) ?_
  rintro e w1 ⟨rfl, hw⟩
  rw [hw]
  clear hw w1 P1 P2 P3
  go_upto_region 4 with fail
  go_cut [10] (fun y' wc => y' = .int .i64 (memN.getD y.toNat 0) ∧ Hid (Below w.heap.size w wc))
  case first =>
    have hy : y = 0 ∨ y = 1 ∨ y = 2 ∨ y = 3 ∨ y = 4 ∨ y = 5 := by omega
    rcases hy with rfl | rfl | rfl | rfl | rfl | rfl
    all_goals
      go_wp2
      go_meet
      refine ⟨rfl, ?_⟩
      show Below _ _ _
      exact (Below.refl _ _).alloc (Nat.le_refl _) _
  case rest =>
    obtain ⟨rfl, hbw⟩ := hcut
    have hzw : w.heap.size ≤ wc.heap.size := hbw.out.size
    have hro := told_out (told_chk (memA_ok x0 x1 y0 y1 v0 v1) (by simp [memAL]) (ins := []) (by simp) (by intro z hz; cases hz) (fuel := 100) (by decide) (by decide)) (memA_run x y v x0 x1 y0 y1 v0 v1)
    have hro2 := told_out (told_chk (memB_ok x0 x1) (by simp [memBL]) (ins := []) (by simp) (by intro z hz; cases hz) (fuel := 100) (by decide) (by decide)) (memB_run x x0 x1)
    have hro3 := told_out (told_chk (memC_ok x0 x1) (by simp [memCL]) (ins := []) (by simp) (by intro z hz; cases hz) (fuel := 100) (by decide) (by decide)) (memC_run x x0 x1)
    have hwas : wasN x y v = if x = y then v else memN.getD y.toNat 0 := rfl
    have hmb : -3 ≤ memN.getD y.toNat 0 ∧ memN.getD y.toNat 0 ≤ 7 := by
      have hy : y = 0 ∨ y = 1 ∨ y = 2 ∨ y = 3 ∨ y = 4 ∨ y = 5 := by omega
      rcases hy with rfl | rfl | rfl | rfl | rfl | rfl <;> decide
    have HA : Hid _ := told_chk (memA_ok x0 x1 y0 y1 v0 v1) (by simp [memAL]) (ins := []) (by simp) (by intro z hz; cases hz) (fuel := 100) (by decide) (by decide)
    have HBB : Hid _ := told_chk (memB_ok x0 x1) (by simp [memBL]) (ins := []) (by simp) (by intro z hz; cases hz) (fuel := 100) (by decide) (by decide)
    have HCC : Hid _ := told_chk (memC_ok x0 x1) (by simp [memCL]) (ins := []) (by simp) (by intro z hz; cases hz) (fuel := 100) (by decide) (by decide)
    have OA : Hid _ := memA_ok x0 x1 y0 y1 v0 v1
    have OB : Hid _ := memB_ok x0 x1
    have OC : Hid _ := memC_ok x0 x1
    generalize memN.getD y.toNat 0 = q at *
    generalize hws : wasN x y v = was at *
    have H1 : Hid _ := hro
    have H2 : Hid _ := hro2
    have H3 : Hid _ := hro3
    have HW : Hid _ := hwas
    clear hro hro2 hro3 hwas hws
    have hxy : (x = y ∧ was = v ∧ (x == y) = true) ∨ (x ≠ y ∧ was = q ∧ (x == y) = false) := by
      by_cases hxy : x = y
      · exact Or.inl ⟨hxy, by rw [HW.out, if_pos hxy], by simp [hxy]⟩
      · exact Or.inr ⟨hxy, by rw [HW.out, if_neg hxy], by simp [hxy]⟩
    clear HW
    rcases hxy with ⟨-, hws2, hbe⟩ | ⟨-, hws2, hbe⟩
    all_goals
      subst hws2
      go_wp2_with (first
        | (go_at_call 32; refine (out_any _ _).mono ?_; rintro e w' ⟨rfl, rfl⟩)
        | (go_at_call 33; refine (li_any _ _ _).mono ?_; rintro e w' ⟨rfl, rfl⟩))
      refine Calls.mono (told_call _ [] _ _ _ _ _ _ _ _ _ _ _ wc _ H1.out HA.out OA.out (by simp [memAL]) rfl rfl (by simp) rfl (HT.out.below HT.out.sz hbw.out) (by go_grown) no_ins0) ?_
      rintro e w2 ⟨a2, N2, c2, rfl, hO, hB⟩
      have HL : Hid (ListAt w2 icell 1 (.slice a2 N2 c2) _) := hO
      have HB : Hid (Below w.heap.size w w2) := hbw.out.trans (hB.mono hzw)
      have zb : w.heap.size ≤ w2.heap.size := HB.out.size
      clear hO hB
      go_wp2_with fail
      refine Calls.mono (told_call _ [] _ _ _ _ _ _ _ _ _ _ _ w2 _ H2.out HBB.out OB.out (by simp [memBL]) rfl rfl rfl rfl (HT.out.below HT.out.sz HB.out) (Below.refl _ _) no_ins0) ?_
      rintro e w3 ⟨a3, N3, c3, rfl, hO, hB3⟩
      have HB3 : Hid (Below w2.heap.size w2 w3) := hB3
      have z3 : w2.heap.size ≤ w3.heap.size := HB3.out.size
      clear hO hB3
      go_wp2_with fail
      refine Calls.mono (told_call _ [] _ _ _ _ _ _ _ _ _ _ _ w3 _ H3.out HCC.out OC.out (by simp [memCL]) rfl rfl rfl rfl (HT.out.below HT.out.sz (HB.out.trans (HB3.out.mono zb))) (Below.refl _ _) no_ins0) ?_
      rintro e w4 ⟨a4, N4, c4, rfl, hO, hB4⟩
      have HB4 : Hid (Below w3.heap.size w3 w4) := hB4
      have z4 : w3.heap.size ≤ w4.heap.size := HB4.out.size
      clear hO hB4
      have HL4 := ListAt.stays HL.out (Nat.le_refl _) (HB3.out.trans (HB4.out.mono z3))
      have HLL : Hid _ := HL4
      have HW4 : Hid (Below w.heap.size w w4) := HB.out.trans ((HB3.out.trans (HB4.out.mono z3)).mono zb)
      have zw : w.heap.size ≤ w4.heap.size := HW4.out.size
      clear HL4
      go_wp2_with fail
      refine Calls.mono (equal_any _ _ _ _ _ (ListAt.stays HLL.out (Nat.le_refl _) ((Below.refl _ _).alloc (Nat.le_refl _) _)) (ints_new w4 [_, _] #[.int .i64 _, .int .i64 _] 3 rfl _ _ _ rfl rfl (Nat.le_refl _) (by unfold maxLen; omega))) ?_
      rintro e w6 ⟨rfl, nn, rfl⟩
      rw [decide_eq_true rfl]
      go_wp2_with fail
      go_ret
      exact ⟨rfl, HW4.out.trans (Below.mono (below_drewN ((Below.refl _ _).alloc (Nat.le_refl _) _) _) zw)⟩
end Go.Proofs.YtechpdfcgimkkaaDoor
