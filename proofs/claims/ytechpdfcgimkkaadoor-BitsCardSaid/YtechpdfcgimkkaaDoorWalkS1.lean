/-
  isa.Size: what it answers; what an instruction that may be is.
-/
import Derived.Test.YtechpdfcgimkkaaDoorWalkS
namespace Go.Proofs.YtechpdfcgimkkaaDoor
open Go.RowKit Isa
/-- What isa.Size answers. -/
def sizeNum (k d a b n : Int) (l : Bool) : Int := if chk k d a b n l = 0 then siz k l else 0
theorem chk_zero {k d a b n : Int} {l : Bool} (h : chk k d a b n l = 0) : 1 ≤ k ∧ k ≤ 24 ∧ formB k d a b n l = true ∧ regB d = true ∧ regB a = true ∧ regB b = true ∧ lo k l ≤ n ∧ n ≤ hi k l := by
  unfold chk at h
  split at h
  · omega
  split at h
  · omega
  split at h
  · omega
  split at h
  · omega
  rename_i a1 a2 a3 a4
  simp at a2 a3
  exact ⟨by omega, by omega, a2, a3.1, a3.2.1, a3.2.2, by omega, by omega⟩
theorem chk_long {k d a b n : Int} {l : Bool} (h : chk k d a b n l = 0) : l = true → rL k = true := by
  obtain ⟨_, _, hf, _⟩ := chk_zero h
  unfold formB at hf
  rintro rfl
  simp at hf
  exact hf.2
set_option maxHeartbeats 1000000 in
theorem sizes_any (k d a b n : Int) (l : Bool) (w : World) (ht : Tabs w) :
    Calls Tryd.prog 72 #[.agg #[.int .i64 k, .int .i64 d, .int .i64 a, .int .i64 b, .int .i64 n, .bool l]] w fun e w' => e = .returned (.tuple #[.int .i64 (sizeNum k d a b n l), .int .i64 (chk k d a b n l)]) ∧ Below w.heap.size w w' := by
  have ht1 : ∀ o, Tabs (w.alloc o) := fun o => ht.below ht.sz ((Below.refl _ _).alloc (Nat.le_refl _) o)
  have ht2 : ∀ {o w1}, Below (w.alloc o).heap.size (w.alloc o) w1 → Tabs w1 := fun {o w1} hb => (ht1 o).below (ht1 o).sz hb
  have H1 : Hid (∀ o, Tabs (w.alloc o)) := ht1
  have H2 : Hid (∀ {o w1}, Below (w.alloc o).heap.size (w.alloc o) w1 → Tabs w1) := ht2
  clear ht1 ht2
  by_cases hc : chk k d a b n l = 0
  · obtain ⟨h1, h2, _⟩ := chk_zero hc
    have hn : Hid (sizeNum k d a b n l = siz k l) := by show _ = _; simp [sizeNum, hc]
    have hcb : (chk k d a b n l == 0) = true := by simp [hc]
    have HC : Hid (chk k d a b n l = 0) := hc
    clear hc
    go_enter Tryd.func72, Tryd.ntmps72
    go_wp2_with (first | (go_at_call 96; refine (check_any k d a b n l _ (H1.out _)).mono ?_; rintro e w' ⟨rfl, hb⟩; obtain ⟨hc1, hf1⟩ := bcell hb; have hz : w.heap.size < w'.heap.size := by (have := hb.size; simp at this; omega)) | (go_at_call 94; refine (size_any k d a b n l _ h1 h2 (H2.out hb)).mono ?_; rintro e w3 ⟨rfl, hb3⟩))
    go_ret2
    exact ⟨by rw [hn.out, HC.out]; rfl, ((Below.alloc (Below.refl _ _) (Nat.le_refl _) _).trans (hb.mono (by simp))).trans (hb3.mono (by omega))⟩
  · have hn : Hid (sizeNum k d a b n l = 0) := by show _ = _; simp [sizeNum, hc]
    have hcb : (chk k d a b n l == 0) = false := by simp [hc]
    clear hc
    go_enter Tryd.func72, Tryd.ntmps72
    go_wp2_with (first | (go_at_call 96; refine (check_any k d a b n l _ (H1.out _)).mono ?_; rintro e w' ⟨rfl, hb⟩; obtain ⟨hc1, hf1⟩ := bcell hb; have hz : w.heap.size < w'.heap.size := by (have := hb.size; simp at this; omega)))
    go_ret2
    exact ⟨by rw [hn.out]; rfl, (Below.alloc (Below.refl _ _) (Nat.le_refl _) _).trans (hb.mono (by simp))⟩
end Go.Proofs.YtechpdfcgimkkaaDoor
