/-
  isa.Check: what it answers is 'chk' of the instruction's numbers; nothing that was there is changed.
-/
import Derived.Test.YtechpdfcgimkkaaDoorWalkA
namespace Go.Proofs.YtechpdfcgimkkaaDoor
open Go.RowKit Isa
set_option maxHeartbeats 400000 in
theorem bounds_any (k d a b n : Int) (l : Bool) (w : World) (h1 : 1 ≤ k) (h2 : k ≤ 24) (ht : Tabs w) :
    Calls Tryd.prog 121 #[.agg #[.int .i64 k, .int .i64 d, .int .i64 a, .int .i64 b, .int .i64 n, .bool l]] w fun e w' => e = .returned (.tuple #[.int .i64 (lo k l), .int .i64 (hi k l)]) ∧ Below w.heap.size w w' := by
  have ht1 : ∀ o, Tabs (w.alloc o) := fun o => ht.below ht.sz ((Below.refl _ _).alloc (Nat.le_refl _) o)
  unfold lo hi
  by_cases hk : k = 24
  · have hkb : (k == 24) = true := by simp [hk]
    simp only [hk, if_true]
    subst hk
    go_enter Tryd.func121, Tryd.ntmps121
    go_wp2
    go_ret2
    exact ⟨rfl, by go_grown⟩
  · have hkb : (k == 24) = false := by simp [hk]
    simp only [hk, if_false]
    by_cases hw : wid k l = 2
    · have hwb : (wid k l == 2) = true := by simp [hw]
      simp only [hw, if_true]
      clear hw
      go_enter Tryd.func121, Tryd.ntmps121
      go_wp2_with (go_at_call 113; refine (width_any k d a b n l _ h1 h2 (ht1 _)).mono ?_; rintro e w' ⟨rfl, rfl⟩)
      go_ret2
      exact ⟨rfl, by go_grown⟩
    · have hwb : (wid k l == 2) = false := by simp [hw]
      simp only [hw, if_false]
      clear hw
      go_enter Tryd.func121, Tryd.ntmps121
      go_wp2_with (go_at_call 113; refine (width_any k d a b n l _ h1 h2 (ht1 _)).mono ?_; rintro e w' ⟨rfl, rfl⟩)
      go_ret2
      exact ⟨rfl, by go_grown⟩
set_option maxHeartbeats 1000000 in
theorem check_any (k d a b n : Int) (l : Bool) (w : World) (ht : Tabs w) :
    Calls Tryd.prog 96 #[.agg #[.int .i64 k, .int .i64 d, .int .i64 a, .int .i64 b, .int .i64 n, .bool l]] w fun e w' => e = .returned (.int .i64 (chk k d a b n l)) ∧ Below w.heap.size w w' := by
  have ht1 : ∀ o, Tabs (w.alloc o) := fun o => ht.below ht.sz ((Below.refl _ _).alloc (Nat.le_refl _) o)
  have z1 := ht.sz
  by_cases hk1 : k < 1
  · have hc : chk k d a b n l = 3 := by simp [chk, hk1]
    rw [hc]
    go_enter Tryd.func96, Tryd.ntmps96
    go_wp2
    go_ret
    exact ⟨rfl, by go_grown⟩
  by_cases hk2 : 24 < k
  · have hc : chk k d a b n l = 3 := by simp [chk, hk2]
    rw [hc]
    go_enter Tryd.func96, Tryd.ntmps96
    go_wp2
    go_ret
    exact ⟨rfl, by go_grown⟩
  have h1 : 1 ≤ k := by omega
  have h2 : k ≤ 24 := by omega
  have ht2 : ∀ {o w1}, Below (w.alloc o).heap.size (w.alloc o) w1 → Tabs w1 := fun {o w1} hb => (ht1 o).below (ht1 o).sz hb
  have H1 : Hid (∀ o, Tabs (w.alloc o)) := ht1
  have H2 : Hid (∀ {o w1}, Below (w.alloc o).heap.size (w.alloc o) w1 → Tabs w1) := ht2
  clear ht1 ht2
  cases hf : formB k d a b n l
  · have hc : chk k d a b n l = 4 := by simp [chk, hk1, hk2, hf]
    rw [hc]
    go_enter Tryd.func96, Tryd.ntmps96
    go_wp2_with (go_at_call 119; refine (form_any k d a b n l _ h1 h2 (H1.out _)).mono ?_; rintro e w' ⟨rfl, hb⟩; obtain ⟨hc1, hf1⟩ := bcell hb)
    go_ret
    exact ⟨rfl, (Below.alloc (Below.refl _ _) (Nat.le_refl _) _).trans (hb.mono (by simp))⟩
  cases hr : regB d && regB a && regB b
  · have hc : chk k d a b n l = 2 := by simp [chk, hk1, hk2, hf, hr]
    rw [hc]
    have hrs : regB d = false ∨ (regB d = true ∧ regB a = false) ∨ (regB d = true ∧ regB a = true ∧ regB b = false) := by
      cases h : regB d <;> cases h' : regB a <;> cases h'' : regB b <;> simp_all
    clear hr
    rcases hrs with r1 | ⟨r1, r2⟩ | ⟨r1, r2, r3⟩
    all_goals
      go_enter Tryd.func96, Tryd.ntmps96
      go_wp2_with (first | (go_at_call 119; refine (form_any k d a b n l _ h1 h2 (H1.out _)).mono ?_; rintro e w' ⟨rfl, hb⟩; obtain ⟨hc1, hf1⟩ := bcell hb) | (go_at_call 120; refine (reg_any _ _).mono ?_; rintro e w'' ⟨rfl, rfl⟩))
      go_ret
      exact ⟨rfl, (Below.alloc (Below.refl _ _) (Nat.le_refl _) _).trans (hb.mono (by simp))⟩
  · obtain ⟨⟨r1, r2⟩, r3⟩ : (regB d = true ∧ regB a = true) ∧ regB b = true := by simpa using hr
    have hc : chk k d a b n l = if n < lo k l ∨ hi k l < n then 2 else 0 := by simp [chk, hk1, hk2, hf, hr]
    rw [hc]
    clear hr hc
    by_cases hn1 : n < lo k l
    · rw [if_pos (Or.inl hn1)]
      go_enter Tryd.func96, Tryd.ntmps96
      go_wp2_with (first | (go_at_call 119; refine (form_any k d a b n l _ h1 h2 (H1.out _)).mono ?_; rintro e w' ⟨rfl, hb⟩; obtain ⟨hc1, hf1⟩ := bcell hb; have hz : w.heap.size < w'.heap.size := by (have := hb.size; simp at this; omega)) | (go_at_call 120; refine (reg_any _ _).mono ?_; rintro e w'' ⟨rfl, rfl⟩) | (go_at_call 121; refine (bounds_any k d a b n l _ h1 h2 (H2.out hb)).mono ?_; rintro e w3 ⟨rfl, hb3⟩; obtain ⟨hc3, hf3⟩ := bcell hb3))
      go_ret
      exact ⟨rfl, ((Below.alloc (Below.refl _ _) (Nat.le_refl _) _).trans (hb.mono (by simp))).trans (hb3.mono (by omega))⟩
    by_cases hn2 : hi k l < n
    · rw [if_pos (Or.inr hn2)]
      go_enter Tryd.func96, Tryd.ntmps96
      go_wp2_with (first | (go_at_call 119; refine (form_any k d a b n l _ h1 h2 (H1.out _)).mono ?_; rintro e w' ⟨rfl, hb⟩; obtain ⟨hc1, hf1⟩ := bcell hb; have hz : w.heap.size < w'.heap.size := by (have := hb.size; simp at this; omega)) | (go_at_call 120; refine (reg_any _ _).mono ?_; rintro e w'' ⟨rfl, rfl⟩) | (go_at_call 121; refine (bounds_any k d a b n l _ h1 h2 (H2.out hb)).mono ?_; rintro e w3 ⟨rfl, hb3⟩; obtain ⟨hc3, hf3⟩ := bcell hb3))
      go_ret
      exact ⟨rfl, ((Below.alloc (Below.refl _ _) (Nat.le_refl _) _).trans (hb.mono (by simp))).trans (hb3.mono (by omega))⟩
    · rw [if_neg (by omega)]
      go_enter Tryd.func96, Tryd.ntmps96
      go_wp2_with (first | (go_at_call 119; refine (form_any k d a b n l _ h1 h2 (H1.out _)).mono ?_; rintro e w' ⟨rfl, hb⟩; obtain ⟨hc1, hf1⟩ := bcell hb; have hz : w.heap.size < w'.heap.size := by (have := hb.size; simp at this; omega)) | (go_at_call 120; refine (reg_any _ _).mono ?_; rintro e w'' ⟨rfl, rfl⟩) | (go_at_call 121; refine (bounds_any k d a b n l _ h1 h2 (H2.out hb)).mono ?_; rintro e w3 ⟨rfl, hb3⟩; obtain ⟨hc3, hf3⟩ := bcell hb3))
      go_ret
      exact ⟨rfl, ((Below.alloc (Below.refl _ _) (Nat.le_refl _) _).trans (hb.mono (by simp))).trans (hb3.mono (by omega))⟩
end Go.Proofs.YtechpdfcgimkkaaDoor
