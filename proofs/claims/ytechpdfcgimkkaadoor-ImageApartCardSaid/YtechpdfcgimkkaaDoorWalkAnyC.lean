/-
  boltholekeep's makers of instructions: picked, Plain, anyInstr.
-/
import Derived.Test.YtechpdfcgimkkaaDoorMAC
import Derived.Deep.RegionHeld3
import Derived.Deep.DeepCutAuto
import Derived.Outline
namespace Go.Proofs.YtechpdfcgimkkaaDoor
open Go.RowKit Go.Joins Isa
set_option maxHeartbeats 1000000 in
theorem plain_any (K A B C : Int) (w : World) (_k1 : -9223372036854775808 ≤ K) (_k2 : K ≤ 9223372036854775807) (_a1 : -9223372036854775808 ≤ A) (_a2 : A ≤ 9223372036854775807) (_b1 : -9223372036854775808 ≤ B) (_b2 : B ≤ 9223372036854775807) (_c1 : -9223372036854775808 ≤ C) (_c2 : C ≤ 9223372036854775807) :
    Calls Tryd.prog 71 #[.agg #[.int .i64 K, .int .i64 A, .int .i64 B, .int .i64 C]] w fun e w' => e = .returned (.agg #[.int .i64 (plainF K A B C).k, .int .i64 (plainF K A B C).d, .int .i64 (plainF K A B C).a, .int .i64 (plainF K A B C).b, .int .i64 (plainF K A B C).n, .bool (plainF K A B C).l]) ∧ Below w.heap.size w w' := by
  obtain ⟨p1, p2⟩ := pk_bd K 20 (by decide)
  obtain ⟨p3, p4⟩ := pk_bd C 40 (by decide)
  obtain ⟨p5, p6⟩ := pk_bd C 12 (by decide)
  obtain ⟨p7, p8⟩ := pk_bd C 7 (by decide)
  by_cases c1 : pk K 20 < 4
  · have hp : Hid (plainF K A B C = ⟨5, pk A 7, 0, 0, pk C 40 - 10, false⟩) := by show _ = _; simp [plainF, c1]
    go_enter Tryd.func71, Tryd.ntmps71
    go_wp2_with (go_at_call 19; refine (picked_any _ _ _ (by decide) (by assumption) (by assumption)).mono ?_; rintro e w' ⟨rfl, rfl⟩)
    go_returns
    exact ⟨by rw [hp.out], by go_grown⟩
  by_cases c2 : pk K 20 < 7
  · have hp : Hid (plainF K A B C = ⟨6, pk A 7, pk B 7, 0, pk C 12 - 3, false⟩) := by show _ = _; simp [plainF, c1, c2]
    go_enter Tryd.func71, Tryd.ntmps71
    go_wp2_with (go_at_call 19; refine (picked_any _ _ _ (by decide) (by assumption) (by assumption)).mono ?_; rintro e w' ⟨rfl, rfl⟩)
    go_returns
    exact ⟨by rw [hp.out], by go_grown⟩
  by_cases c3 : pk K 20 < 12
  · have hp : Hid (plainF K A B C = ⟨7 + pk C 7, pk A 7, pk B 7, pk C 7, 0, false⟩) := by show _ = _; simp [plainF, c1, c2, c3]
    go_enter Tryd.func71, Tryd.ntmps71
    go_wp2_with (go_at_call 19; refine (picked_any _ _ _ (by decide) (by assumption) (by assumption)).mono ?_; rintro e w' ⟨rfl, rfl⟩)
    go_returns
    exact ⟨by rw [hp.out], by go_grown⟩
  by_cases c4 : pk K 20 = 12
  · have hp : Hid (plainF K A B C = ⟨14, pk A 7, 0, 0, pk C 6, false⟩) := by show _ = _; simp [plainF, c4]
    go_enter Tryd.func71, Tryd.ntmps71
    go_wp2_with (go_at_call 19; refine (picked_any _ _ _ (by decide) (by assumption) (by assumption)).mono ?_; rintro e w' ⟨rfl, rfl⟩)
    go_returns
    exact ⟨by rw [hp.out], by go_grown⟩
  have d4 : (pk K 20 == 12) = false := by simp [c4]
  by_cases c5 : pk K 20 = 13
  · have hp : Hid (plainF K A B C = ⟨15, 0, 0, pk C 7, pk C 6, false⟩) := by show _ = _; simp [plainF, c5]
    go_enter Tryd.func71, Tryd.ntmps71
    go_wp2_with (go_at_call 19; refine (picked_any _ _ _ (by decide) (by assumption) (by assumption)).mono ?_; rintro e w' ⟨rfl, rfl⟩)
    go_returns
    exact ⟨by rw [hp.out], by go_grown⟩
  have d5 : (pk K 20 == 13) = false := by simp [c5]
  by_cases c6 : pk K 20 = 14
  · have hp : Hid (plainF K A B C = ⟨16, pk A 7, 0, 0, 0, false⟩) := by show _ = _; simp [plainF, c6]
    go_enter Tryd.func71, Tryd.ntmps71
    go_wp2_with (go_at_call 19; refine (picked_any _ _ _ (by decide) (by assumption) (by assumption)).mono ?_; rintro e w' ⟨rfl, rfl⟩)
    go_returns
    exact ⟨by rw [hp.out], by go_grown⟩
  have d6 : (pk K 20 == 14) = false := by simp [c6]
  by_cases c7 : pk K 20 = 15
  · have hp : Hid (plainF K A B C = ⟨4, 0, 0, 0, 0, false⟩) := by show _ = _; simp [plainF, c7]
    go_enter Tryd.func71, Tryd.ntmps71
    go_wp2_with (go_at_call 19; refine (picked_any _ _ _ (by decide) (by assumption) (by assumption)).mono ?_; rintro e w' ⟨rfl, rfl⟩)
    go_returns
    exact ⟨by rw [hp.out], by go_grown⟩
  have d7 : (pk K 20 == 15) = false := by simp [c7]
  · have hp : Hid (plainF K A B C = ⟨17, 0, pk B 7, 0, 0, false⟩) := by show _ = _; simp [plainF, c1, c2, c3, c4, c5, c6, c7]
    go_enter Tryd.func71, Tryd.ntmps71
    go_wp2_with (go_at_call 19; refine (picked_any _ _ _ (by decide) (by assumption) (by assumption)).mono ?_; rintro e w' ⟨rfl, rfl⟩)
    go_returns
    exact ⟨by rw [hp.out], by go_grown⟩
end Go.Proofs.YtechpdfcgimkkaaDoor
