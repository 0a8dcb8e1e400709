/-
  boltholekeep.anyInstr answers 'anyF'.
-/
import Derived.Test.YtkofnmeononlaabDoorWalkAny
namespace Go.Proofs.YtkofnmeononlaabDoor
open Go.RowKit Go.Joins Isa
set_option maxHeartbeats 1000000 in
theorem any_any (K A B C : Int) (long : Bool) (w : World) (_k1 : -9223372036854775808 ≤ K) (_k2 : K ≤ 9223372036854775807) (_a1 : -9223372036854775808 ≤ A) (_a2 : A ≤ 9223372036854775807) (_b1 : -9223372036854775808 ≤ B) (_b2 : B ≤ 9223372036854775807) (_c1 : -9223372036854775808 ≤ C) (_c2 : C ≤ 9223372036854775807) :
    Calls Tryd.prog 9 #[.agg #[.int .i64 K, .int .i64 A, .int .i64 B, .int .i64 C], .bool long] w fun e w' => e = .returned (.agg #[.int .i64 (anyF K A B C long).k, .int .i64 (anyF K A B C long).d, .int .i64 (anyF K A B C long).a, .int .i64 (anyF K A B C long).b, .int .i64 (anyF K A B C long).n, .bool (anyF K A B C long).l]) ∧ Below w.heap.size w w' := by
  obtain ⟨p1, p2⟩ := pk_bd K 3 (by decide)
  obtain ⟨p3, p4⟩ := pk_bd C 250 (by decide)
  obtain ⟨p5, p6⟩ := pk_bd A 7 (by decide)
  obtain ⟨p7, p8⟩ := pk_bd B 4 (by decide)
  by_cases c1 : 0 < pk K 3
  · have hp : Hid (anyF K A B C long = plainF K A B C) := by show _ = _; simp [anyF, c1]
    go_enter Tryd.func9, Tryd.ntmps9
    go_wp2_with (first | (go_at_call 10; refine (picked_any _ _ _ (by decide) (by assumption) (by assumption)).mono ?_; rintro e w' ⟨rfl, rfl⟩) | (go_at_call 19; refine (plain_any K A B C _ (by assumption) (by assumption) (by assumption) (by assumption) (by assumption) (by assumption) (by assumption) (by assumption)).mono ?_; rintro e w1 ⟨rfl, hb⟩; obtain ⟨hc1, hf1⟩ := bcell hb; have hz : w.heap.size + 1 < w1.heap.size := (by have := hb.size; simp at this; omega)))
    have hB : Below w.heap.size w w1 := (((Below.refl _ _).alloc (Nat.le_refl _) _).alloc (by simp) _).trans (hb.mono (by simp; omega))
    refine bodyPost_ret (v := .agg #[.int .i64 (plainF K A B C).k, .int .i64 (plainF K A B C).d, .int .i64 (plainF K A B C).a, .int .i64 (plainF K A B C).b, .int .i64 (plainF K A B C).n, .bool (plainF K A B C).l]) (by simp [results, Tryd.results9, go_sem, hc1]) rfl ⟨by rw [hp.out], by go_grown⟩
  by_cases c2 : pk A 7 = 0
  · have hp : Hid (anyF K A B C long = ⟨22, 0, 0, 0, pk C 250 - 125, long⟩) := by show _ = _; simp [anyF, c1, c2]
    go_enter Tryd.func9, Tryd.ntmps9
    go_wp2_with (go_at_call 10; refine (picked_any _ _ _ (by decide) (by assumption) (by assumption)).mono ?_; rintro e w' ⟨rfl, rfl⟩)
    go_returns
    exact ⟨by rw [hp.out], by go_grown⟩
  have d2 : (pk A 7 == 0) = false := by simp [c2]
  by_cases c3 : pk A 7 = 1
  · have hp : Hid (anyF K A B C long = ⟨23, 0, 0, 0, 100 * (pk C 250 - 125), false⟩) := by show _ = _; simp [anyF, c1, c3]
    go_enter Tryd.func9, Tryd.ntmps9
    go_wp2_with (go_at_call 10; refine (picked_any _ _ _ (by decide) (by assumption) (by assumption)).mono ?_; rintro e w' ⟨rfl, rfl⟩)
    go_returns
    exact ⟨by rw [hp.out], by go_grown⟩
  have d3 : (pk A 7 == 1) = false := by simp [c3]
  by_cases c4 : pk A 7 = 2
  · have hp : Hid (anyF K A B C long = ⟨24, 0, pk B 8, 0, pk C 20, false⟩) := by show _ = _; simp [anyF, c1, c4]
    go_enter Tryd.func9, Tryd.ntmps9
    go_wp2_with (go_at_call 10; refine (picked_any _ _ _ (by decide) (by assumption) (by assumption)).mono ?_; rintro e w' ⟨rfl, rfl⟩)
    go_region_held3 (fun w' => w'.cell? ⟨w.heap.size, 1, none⟩ = some (.int .i64 A) ∧ w'.cell? ⟨w.heap.size, 2, none⟩ = some (.int .i64 B) ∧ w'.cell? ⟨w.heap.size, 3, none⟩ = some (.int .i64 C)) (simp [go_sem, *]) (first | (go_at_call 10; refine (picked_any _ _ _ (by decide) (by assumption) (by assumption)).mono ?_; rintro e w' ⟨rfl, rfl⟩))
    go_wp2
    go_returns
    exact ⟨by rw [hp.out], by go_grown⟩
  have d4 : (pk A 7 == 2) = false := by simp [c4]
  by_cases c5 : pk A 7 = 3
  · have hp : Hid (anyF K A B C long = ⟨1 + pk B 4, 0, 0, 0, 0, false⟩) := by show _ = _; simp [anyF, c1, c5]
    go_enter Tryd.func9, Tryd.ntmps9
    go_wp2_with (go_at_call 10; refine (picked_any _ _ _ (by decide) (by assumption) (by assumption)).mono ?_; rintro e w' ⟨rfl, rfl⟩)
    go_returns
    exact ⟨by rw [hp.out], by go_grown⟩
  have d5 : (pk A 7 == 3) = false := by simp [c5]
  cases long
  · have hp : Hid (anyF K A B C false = ⟨18 + pk B 4, 0, pk A 8, pk C 8, pk C 250 - 125, false⟩) := by show _ = _; simp [anyF, c1, c2, c3, c4, c5]
    go_enter Tryd.func9, Tryd.ntmps9
    go_wp2_with (go_at_call 10; refine (picked_any _ _ _ (by decide) (by assumption) (by assumption)).mono ?_; rintro e w' ⟨rfl, rfl⟩)
    go_region_held3 (fun w' => w'.cell? ⟨w.heap.size, 1, none⟩ = some (.int .i64 A) ∧ w'.cell? ⟨w.heap.size, 2, none⟩ = some (.int .i64 B) ∧ w'.cell? ⟨w.heap.size, 3, none⟩ = some (.int .i64 C)) (simp [go_sem, *]) (first | (go_at_call 10; refine (picked_any _ _ _ (by decide) (by assumption) (by assumption)).mono ?_; rintro e w' ⟨rfl, rfl⟩))
    all_goals go_wp2
    all_goals go_returns
    all_goals exact ⟨by rw [hp.out], by go_grown⟩
  · have hp : Hid (anyF K A B C true = ⟨18 + pk B 4, 0, pk A 8, pk C 8, (pk C 250 - 125) * 200, true⟩) := by show _ = _; simp [anyF, c1, c2, c3, c4, c5]
    go_enter Tryd.func9, Tryd.ntmps9
    go_wp2_with (go_at_call 10; refine (picked_any _ _ _ (by decide) (by assumption) (by assumption)).mono ?_; rintro e w' ⟨rfl, rfl⟩)
    go_region_held3 (fun w' => w'.cell? ⟨w.heap.size, 1, none⟩ = some (.int .i64 A) ∧ w'.cell? ⟨w.heap.size, 2, none⟩ = some (.int .i64 B) ∧ w'.cell? ⟨w.heap.size, 3, none⟩ = some (.int .i64 C)) (simp [go_sem, *]) (first | (go_at_call 10; refine (picked_any _ _ _ (by decide) (by assumption) (by assumption)).mono ?_; rintro e w' ⟨rfl, rfl⟩))
    all_goals go_wp2
    all_goals go_returns
    all_goals exact ⟨by rw [hp.out], by go_grown⟩
end Go.Proofs.YtkofnmeononlaabDoor
