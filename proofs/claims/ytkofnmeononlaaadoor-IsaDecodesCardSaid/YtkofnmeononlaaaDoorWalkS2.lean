/-
  Sizes: isa.Size, boltholeref.sizeOf, boltholeref.SizeOf; boltholelaw.IsaSizes returns true at every instruction.
-/
import Derived.Test.YtkofnmeononlaaaDoorWalkS1
import Derived.Test.YtkofnmeononlaaaDoorWalkB2
namespace Go.Proofs.YtkofnmeononlaaaDoor
open Go.RowKit Isa
set_option maxHeartbeats 4000000 in
theorem rsize_any (k d a b n : Int) (l : Bool) (w : World) (h1 : 1 ≤ k) (h2 : k ≤ 24) (hl : l = true → rL k = true) :
    Calls Tryd.prog 27 #[.agg #[.int .i64 k, .int .i64 d, .int .i64 a, .int .i64 b, .int .i64 n, .bool l]] w fun e w' => e = .returned (.int .i64 (siz k l)) ∧ Below w.heap.size w w' := by
  cases l
  · clear hl
    rcases kinds h1 h2 with rfl | rfl | rfl | rfl | rfl | rfl | rfl | rfl | rfl | rfl | rfl | rfl | rfl | rfl | rfl | rfl | rfl | rfl | rfl | rfl | rfl | rfl | rfl | rfl
    all_goals
      clear h1 h2
      go_enter Tryd.func27, Tryd.ntmps27
      go_wp2
      go_ret
      exact ⟨rfl, by go_grown⟩
  · have hk : k = 18 ∨ k = 19 ∨ k = 20 ∨ k = 21 ∨ k = 22 := by
      have := hl rfl
      rcases kinds h1 h2 with rfl | rfl | rfl | rfl | rfl | rfl | rfl | rfl | rfl | rfl | rfl | rfl | rfl | rfl | rfl | rfl | rfl | rfl | rfl | rfl | rfl | rfl | rfl | rfl
      all_goals first | omega | (exact absurd this (by decide))
    clear hl
    rcases hk with rfl | rfl | rfl | rfl | rfl
    all_goals
      clear h1 h2
      go_enter Tryd.func27, Tryd.ntmps27
      go_wp2
      go_ret
      exact ⟨rfl, by go_grown⟩
set_option maxHeartbeats 1000000 in
theorem rsizes_any (k d a b n : Int) (l : Bool) (w : World) :
    Calls Tryd.prog 12 #[.agg #[.int .i64 k, .int .i64 d, .int .i64 a, .int .i64 b, .int .i64 n, .bool l]] w fun e w' => e = .returned (.tuple #[.int .i64 (sizeNum k d a b n l), .int .i64 (chk k d a b n l)]) ∧ Below w.heap.size w w' := by
  by_cases hc : chk k d a b n l = 0
  · obtain ⟨h1, h2, _⟩ := chk_zero hc
    have hlong : Hid (l = true → rL k = true) := chk_long hc
    have hn : Hid (sizeNum k d a b n l = siz k l) := by show _ = _; simp [sizeNum, hc]
    have hcb : (chk k d a b n l == 0) = true := by simp [hc]
    have HC : Hid (chk k d a b n l = 0) := hc
    clear hc
    go_enter Tryd.func12, Tryd.ntmps12
    go_wp2_with (first | (go_at_call 10; refine (fault_any k d a b n l _).mono ?_; rintro e w' ⟨rfl, hb⟩; obtain ⟨hc1, hf1⟩ := bcell hb; have hz : w.heap.size < w'.heap.size := by (have := hb.size; simp at this; omega)) | (go_at_call 27; refine (rsize_any k d a b n l _ h1 h2 hlong.out).mono ?_; rintro e w3 ⟨rfl, hb3⟩))
    go_ret2
    exact ⟨by rw [hn.out, HC.out]; rfl, ((Below.alloc (Below.refl _ _) (Nat.le_refl _) _).trans (hb.mono (by simp))).trans (hb3.mono (by omega))⟩
  · have hn : Hid (sizeNum k d a b n l = 0) := by show _ = _; simp [sizeNum, hc]
    have hcb : (chk k d a b n l == 0) = false := by simp [hc]
    clear hc
    go_enter Tryd.func12, Tryd.ntmps12
    go_wp2_with (first | (go_at_call 10; refine (fault_any k d a b n l _).mono ?_; rintro e w' ⟨rfl, hb⟩; obtain ⟨hc1, hf1⟩ := bcell hb; have hz : w.heap.size < w'.heap.size := by (have := hb.size; simp at this; omega)))
    go_ret2
    exact ⟨by rw [hn.out]; rfl, (Below.alloc (Below.refl _ _) (Nat.le_refl _) _).trans (hb.mono (by simp))⟩
set_option maxHeartbeats 1000000 in
theorem sizes_law (k d a b n : Int) (l : Bool) (w : World) (ht : Tabs w) :
    Calls Tryd.prog 4 #[.agg #[.int .i64 k, .int .i64 d, .int .i64 a, .int .i64 b, .int .i64 n, .bool l]] w fun e w' => e = .returned (.bool true) ∧ Below w.heap.size w w' := by
  have ht1 : ∀ o, Tabs (w.alloc o) := fun o => ht.below ht.sz ((Below.refl _ _).alloc (Nat.le_refl _) o)
  have H1 : Hid (∀ o, Tabs (w.alloc o)) := ht1
  clear ht1
  go_enter Tryd.func4, Tryd.ntmps4
  go_wp2_with (first | (go_at_call 11; refine (sizes_any k d a b n l _ (H1.out _)).mono ?_; rintro e w' ⟨rfl, hb⟩; obtain ⟨hc1, hf1⟩ := bcell hb; have hz : w.heap.size < w'.heap.size := by (have := hb.size; simp at this; omega)) | (go_at_call 12; refine (rsizes_any k d a b n l _).mono ?_; rintro e w3 ⟨rfl, hb3⟩))
  go_ret
  exact ⟨by simp, ((Below.alloc (Below.refl _ _) (Nat.le_refl _) _).trans (hb.mono (by simp))).trans (hb3.mono (by omega))⟩
end Go.Proofs.YtkofnmeononlaaaDoor
