/-
  isa.Check: what it answers is 'chk' of the instruction's numbers; nothing that was there is changed.
-/
import Derived.Test.YtechpdfcgimkkaaDoorMAC
import Derived.Outline
namespace Go.Proofs.YtechpdfcgimkkaaDoor
open Go.RowKit Isa
set_option maxHeartbeats 400000 in
theorem reg_any (x : Int) (w : World) : Calls Tryd.prog 120 #[.int .i64 x] w fun e w' => e = .returned (.bool (regB x)) ∧ w' = w := by
  unfold regB
  by_cases h0 : 0 ≤ x
  · have h1 : decide (0 ≤ x) = true := by simp [h0]
    rw [h1]
    go_enter Tryd.func120, Tryd.ntmps120
    go_wp2
    go_ret
    exact ⟨by simp, rfl⟩
  · have h1 : decide (0 ≤ x) = false := by simp [h0]
    rw [h1]
    go_enter Tryd.func120, Tryd.ntmps120
    go_wp2
    go_ret
    exact ⟨by simp, rfl⟩
set_option maxHeartbeats 400000 in
theorem has_any (u l t y x : Int) (w : World) : Calls Tryd.prog 128 #[.agg #[.int .i64 u, .int .i64 l, .int .i64 t, .int .i64 y], .int .i64 x] w fun e w' =>
    e = .returned (.bool (hasB u l t x)) ∧ w' = w.alloc (.cells #[.int .i64 u, .int .i64 l, .int .i64 t, .int .i64 y] 147) := by
  unfold hasB
  cases hu : u == x
  all_goals cases hl : l == x
  all_goals
    go_enter Tryd.func128, Tryd.ntmps128
    go_wp2
    go_ret
    exact ⟨by simp, rfl⟩
set_option maxHeartbeats 400000 in
theorem width_any (k d a b n : Int) (l : Bool) (w : World) (h1 : 1 ≤ k) (h2 : k ≤ 24) (ht : Tabs w) :
    Calls Tryd.prog 113 #[.agg #[.int .i64 k, .int .i64 d, .int .i64 a, .int .i64 b, .int .i64 n, .bool l]] w fun e w' => e = .returned (.int .i64 (wid k l)) ∧ w' = w.alloc (.cells #[.int .i64 k, .int .i64 d, .int .i64 a, .int .i64 b, .int .i64 n, .bool l] 61) := by
  obtain ⟨_, _, c1⟩ := ht.op k (by omega) h2
  obtain ⟨_, _, _, c2⟩ := ht.sh k (by omega) h2
  have z1 := ht.sz
  have z0 : 0 < w.heap.size := by omega
  have s1 := opS_lo h1 h2
  have s2 := opS_hi h1 h2
  unfold wid
  cases l
  all_goals
    go_enter Tryd.func113, Tryd.ntmps113
    go_wp2
    go_ret
    exact ⟨by simp, rfl⟩
set_option maxHeartbeats 1000000 in
theorem form_any (k d a b n : Int) (l : Bool) (w : World) (h1 : 1 ≤ k) (h2 : k ≤ 24) (ht : Tabs w) :
    Calls Tryd.prog 119 #[.agg #[.int .i64 k, .int .i64 d, .int .i64 a, .int .i64 b, .int .i64 n, .bool l]] w fun e w' => e = .returned (.bool (formB k d a b n l)) ∧ Below w.heap.size w w' := by
  obtain ⟨c1, c2, c3⟩ := ht.op k (by omega) h2
  obtain ⟨c4, c5, c6, c7⟩ := ht.sh k (by omega) h2
  have z1 := ht.sz
  have z0 : 0 < w.heap.size := by omega
  have s1 := opS_lo h1 h2
  have s2 := opS_hi h1 h2
  go_enter Tryd.func119, Tryd.ntmps119
  go_wp2_with (go_at_call 128; refine (has_any _ _ _ _ _ _).mono ?_; rintro e w' ⟨rfl, rfl⟩)
  all_goals
    go_light
    go_ret
    refine ⟨congrArg (fun x => Ending.returned (Value.bool x)) ?_, by go_grown⟩
    simp [formB, rD, rA, rB, rN, rL, *] <;> omega
end Go.Proofs.YtechpdfcgimkkaaDoor
/-
  isa.Check: what it answers is 'chk' of the instruction's numbers; nothing that was there is changed.
-/
namespace Go.Proofs.YtechpdfcgimkkaaDoor
open Go.RowKit Isa
set_option maxHeartbeats 400000 in
theorem bounds_any (k d a b n : Int) (l : Bool) (w : World) (h1 : 1 ≤ k) (h2 : k ≤ 24) (ht : Tabs w) :
    Calls Tryd.prog 121 #[.agg #[.int .i64 k, .int .i64 d, .int .i64 a, .int .i64 b, .int .i64 n, .bool l]] w fun e w' => e = .returned (.tuple #[.int .i64 (lo k l), .int .i64 (hi k l)]) ∧ Below w.heap.size w w' := by
  have ht1 : ∀ o, Tabs (w.alloc o) := fun o => ht.below ht.sz ((Below.refl _ _).alloc (Nat.le_refl _) o)
  unfold lo hi
  by_cases hk : k = 24
  · have hkb : (k == 24) = true := by simp [hk]
    simp only [hk, if_true]
    subst hk
    go_enter Tryd.func121, Tryd.ntmps121
    go_wp2
    go_ret2
    exact ⟨rfl, by go_grown⟩
  · have hkb : (k == 24) = false := by simp [hk]
    simp only [hk, if_false]
    by_cases hw : wid k l = 2
    · have hwb : (wid k l == 2) = true := by simp [hw]
      simp only [hw, if_true]
      clear hw
      go_enter Tryd.func121, Tryd.ntmps121
      go_wp2_with (go_at_call 113; refine (width_any k d a b n l _ h1 h2 (ht1 _)).mono ?_; rintro e w' ⟨rfl, rfl⟩)
      go_ret2
      exact ⟨rfl, by go_grown⟩
    · have hwb : (wid k l == 2) = false := by simp [hw]
      simp only [hw, if_false]
      clear hw
      go_enter Tryd.func121, Tryd.ntmps121
      go_wp2_with (go_at_call 113; refine (width_any k d a b n l _ h1 h2 (ht1 _)).mono ?_; rintro e w' ⟨rfl, rfl⟩)
      go_ret2
      exact ⟨rfl, by go_grown⟩
set_option maxHeartbeats 1000000 in
theorem check_any (k d a b n : Int) (l : Bool) (w : World) (ht : Tabs w) :
    Calls Tryd.prog 96 #[.agg #[.int .i64 k, .int .i64 d, .int .i64 a, .int .i64 b, .int .i64 n, .bool l]] w fun e w' => e = .returned (.int .i64 (chk k d a b n l)) ∧ Below w.heap.size w w' := by
  have ht1 : ∀ o, Tabs (w.alloc o) := fun o => ht.below ht.sz ((Below.refl _ _).alloc (Nat.le_refl _) o)
  have z1 := ht.sz
  by_cases hk1 : k < 1
  · have hc : chk k d a b n l = 3 := by simp [chk, hk1]
    rw [hc]
    go_enter Tryd.func96, Tryd.ntmps96
    go_wp2
    go_ret
    exact ⟨rfl, by go_grown⟩
  by_cases hk2 : 24 < k
  · have hc : chk k d a b n l = 3 := by simp [chk, hk2]
    rw [hc]
    go_enter Tryd.func96, Tryd.ntmps96
    go_wp2
    go_ret
    exact ⟨rfl, by go_grown⟩
  have h1 : 1 ≤ k := by omega
  have h2 : k ≤ 24 := by omega
  have ht2 : ∀ {o w1}, Below (w.alloc o).heap.size (w.alloc o) w1 → Tabs w1 := fun {o w1} hb => (ht1 o).below (ht1 o).sz hb
  have H1 : Hid (∀ o, Tabs (w.alloc o)) := ht1
  have H2 : Hid (∀ {o w1}, Below (w.alloc o).heap.size (w.alloc o) w1 → Tabs w1) := ht2
  clear ht1 ht2
  cases hf : formB k d a b n l
  · have hc : chk k d a b n l = 4 := by simp [chk, hk1, hk2, hf]
    rw [hc]
    go_enter Tryd.func96, Tryd.ntmps96
    go_wp2_with (go_at_call 119; refine (form_any k d a b n l _ h1 h2 (H1.out _)).mono ?_; rintro e w' ⟨rfl, hb⟩; obtain ⟨hc1, hf1⟩ := bcell hb)
    go_ret
    exact ⟨rfl, (Below.alloc (Below.refl _ _) (Nat.le_refl _) _).trans (hb.mono (by simp))⟩
  cases hr : regB d && regB a && regB b
  · have hc : chk k d a b n l = 2 := by simp [chk, hk1, hk2, hf, hr]
    rw [hc]
    have hrs : regB d = false ∨ (regB d = true ∧ regB a = false) ∨ (regB d = true ∧ regB a = true ∧ regB b = false) := by
      cases h : regB d <;> cases h' : regB a <;> cases h'' : regB b <;> simp_all
    clear hr
    rcases hrs with r1 | ⟨r1, r2⟩ | ⟨r1, r2, r3⟩
    all_goals
      go_enter Tryd.func96, Tryd.ntmps96
      go_wp2_with (first | (go_at_call 119; refine (form_any k d a b n l _ h1 h2 (H1.out _)).mono ?_; rintro e w' ⟨rfl, hb⟩; obtain ⟨hc1, hf1⟩ := bcell hb) | (go_at_call 120; refine (reg_any _ _).mono ?_; rintro e w'' ⟨rfl, rfl⟩))
      go_ret
      exact ⟨rfl, (Below.alloc (Below.refl _ _) (Nat.le_refl _) _).trans (hb.mono (by simp))⟩
  · obtain ⟨⟨r1, r2⟩, r3⟩ : (regB d = true ∧ regB a = true) ∧ regB b = true := by simpa using hr
    have hc : chk k d a b n l = if n < lo k l ∨ hi k l < n then 2 else 0 := by simp [chk, hk1, hk2, hf, hr]
    rw [hc]
    clear hr hc
    by_cases hn1 : n < lo k l
    · rw [if_pos (Or.inl hn1)]
      go_enter Tryd.func96, Tryd.ntmps96
      go_wp2_with (first | (go_at_call 119; refine (form_any k d a b n l _ h1 h2 (H1.out _)).mono ?_; rintro e w' ⟨rfl, hb⟩; obtain ⟨hc1, hf1⟩ := bcell hb; have hz : w.heap.size < w'.heap.size := by (have := hb.size; simp at this; omega)) | (go_at_call 120; refine (reg_any _ _).mono ?_; rintro e w'' ⟨rfl, rfl⟩) | (go_at_call 121; refine (bounds_any k d a b n l _ h1 h2 (H2.out hb)).mono ?_; rintro e w3 ⟨rfl, hb3⟩; obtain ⟨hc3, hf3⟩ := bcell hb3))
      go_ret
      exact ⟨rfl, ((Below.alloc (Below.refl _ _) (Nat.le_refl _) _).trans (hb.mono (by simp))).trans (hb3.mono (by omega))⟩
    by_cases hn2 : hi k l < n
    · rw [if_pos (Or.inr hn2)]
      go_enter Tryd.func96, Tryd.ntmps96
      go_wp2_with (first | (go_at_call 119; refine (form_any k d a b n l _ h1 h2 (H1.out _)).mono ?_; rintro e w' ⟨rfl, hb⟩; obtain ⟨hc1, hf1⟩ := bcell hb; have hz : w.heap.size < w'.heap.size := by (have := hb.size; simp at this; omega)) | (go_at_call 120; refine (reg_any _ _).mono ?_; rintro e w'' ⟨rfl, rfl⟩) | (go_at_call 121; refine (bounds_any k d a b n l _ h1 h2 (H2.out hb)).mono ?_; rintro e w3 ⟨rfl, hb3⟩; obtain ⟨hc3, hf3⟩ := bcell hb3))
      go_ret
      exact ⟨rfl, ((Below.alloc (Below.refl _ _) (Nat.le_refl _) _).trans (hb.mono (by simp))).trans (hb3.mono (by omega))⟩
    · rw [if_neg (by omega)]
      go_enter Tryd.func96, Tryd.ntmps96
      go_wp2_with (first | (go_at_call 119; refine (form_any k d a b n l _ h1 h2 (H1.out _)).mono ?_; rintro e w' ⟨rfl, hb⟩; obtain ⟨hc1, hf1⟩ := bcell hb; have hz : w.heap.size < w'.heap.size := by (have := hb.size; simp at this; omega)) | (go_at_call 120; refine (reg_any _ _).mono ?_; rintro e w'' ⟨rfl, rfl⟩) | (go_at_call 121; refine (bounds_any k d a b n l _ h1 h2 (H2.out hb)).mono ?_; rintro e w3 ⟨rfl, hb3⟩; obtain ⟨hc3, hf3⟩ := bcell hb3))
      go_ret
      exact ⟨rfl, ((Below.alloc (Below.refl _ _) (Nat.le_refl _) _).trans (hb.mono (by simp))).trans (hb3.mono (by omega))⟩
end Go.Proofs.YtechpdfcgimkkaaDoor
/-
  Sizes: isa.sizeOf, isa.Size, boltholeref.sizeOf, boltholeref.SizeOf answer 'siz'.
-/
namespace Go.Proofs.YtechpdfcgimkkaaDoor
open Go.RowKit Isa
theorem wid_bd (k : Int) (l : Bool) (h1 : 1 ≤ k) (h2 : k ≤ 24) : 0 ≤ wid k l ∧ wid k l ≤ 2 := by
  unfold wid; have := kW_02 h1 h2; cases l <;> simp <;> omega
set_option maxHeartbeats 1000000 in
theorem size_any (k d a b n : Int) (l : Bool) (w : World) (h1 : 1 ≤ k) (h2 : k ≤ 24) (ht : Tabs w) :
    Calls Tryd.prog 94 #[.agg #[.int .i64 k, .int .i64 d, .int .i64 a, .int .i64 b, .int .i64 n, .bool l]] w fun e w' => e = .returned (.int .i64 (siz k l)) ∧ Below w.heap.size w w' := by
  obtain ⟨c1, c2, c3⟩ := ht.op k (by omega) h2
  obtain ⟨c4, c5, c6, c7⟩ := ht.sh k (by omega) h2
  have z1 := ht.sz
  have z0 : 0 < w.heap.size := by omega
  have s1 := opS_lo h1 h2
  have s2 := opS_hi h1 h2
  obtain ⟨b1, b2⟩ := wid_bd k l h1 h2
  have ht2 : ∀ o o', Tabs ((w.alloc o).alloc o') := fun o o' => ht.below ht.sz (((Below.refl _ _).alloc (Nat.le_refl _) o).alloc (by simp) o')
  have H1 : Hid (∀ o o', Tabs ((w.alloc o).alloc o')) := ht2
  clear ht2
  have hl : kL k = 0 ∧ (kL k == 0) = true ∨ ¬ kL k = 0 ∧ (kL k == 0) = false := by by_cases h : kL k = 0 <;> simp [h]
  have hT : kT k = 0 ∧ (kT k == 0) = true ∨ ¬ kT k = 0 ∧ (kT k == 0) = false := by by_cases h : kT k = 0 <;> simp [h]
  rcases hl with ⟨l1, l2⟩ | ⟨l1, l2⟩
  all_goals rcases hT with ⟨t1, t2⟩ | ⟨t1, t2⟩
  all_goals
    have hs : Hid (siz k l = 1 + wid k l + (if kL k = 0 then 0 else 1) + (if kT k = 0 then 0 else 1)) := rfl
    simp only [l1, t1, if_true, if_false] at hs
    clear l1 t1
    go_enter Tryd.func94, Tryd.ntmps94
    go_wp2_with (go_at_call 113; refine (width_any k d a b n l _ h1 h2 (H1.out _ _)).mono ?_; rintro e w' ⟨rfl, rfl⟩)
    go_ret
    refine ⟨congrArg (fun x => Ending.returned (Value.int .i64 x)) ?_, by go_grown⟩
    go_light
    have := hs.out
    try simp at this
    try simp
    omega
end Go.Proofs.YtechpdfcgimkkaaDoor
/-
  isa.Size: what it answers; what an instruction that may be is.
-/
namespace Go.Proofs.YtechpdfcgimkkaaDoor
open Go.RowKit Isa
/-- What isa.Size answers. -/
def sizeNum (k d a b n : Int) (l : Bool) : Int := if chk k d a b n l = 0 then siz k l else 0
theorem chk_zero {k d a b n : Int} {l : Bool} (h : chk k d a b n l = 0) : 1 ≤ k ∧ k ≤ 24 ∧ formB k d a b n l = true ∧ regB d = true ∧ regB a = true ∧ regB b = true ∧ lo k l ≤ n ∧ n ≤ hi k l := by
  unfold chk at h
  split at h
  · omega
  split at h
  · omega
  split at h
  · omega
  split at h
  · omega
  rename_i a1 a2 a3 a4
  simp at a2 a3
  exact ⟨by omega, by omega, a2, a3.1, a3.2.1, a3.2.2, by omega, by omega⟩
theorem chk_long {k d a b n : Int} {l : Bool} (h : chk k d a b n l = 0) : l = true → rL k = true := by
  obtain ⟨_, _, hf, _⟩ := chk_zero h
  unfold formB at hf
  rintro rfl
  simp at hf
  exact hf.2
set_option maxHeartbeats 1000000 in
theorem sizes_any (k d a b n : Int) (l : Bool) (w : World) (ht : Tabs w) :
    Calls Tryd.prog 72 #[.agg #[.int .i64 k, .int .i64 d, .int .i64 a, .int .i64 b, .int .i64 n, .bool l]] w fun e w' => e = .returned (.tuple #[.int .i64 (sizeNum k d a b n l), .int .i64 (chk k d a b n l)]) ∧ Below w.heap.size w w' := by
  have ht1 : ∀ o, Tabs (w.alloc o) := fun o => ht.below ht.sz ((Below.refl _ _).alloc (Nat.le_refl _) o)
  have ht2 : ∀ {o w1}, Below (w.alloc o).heap.size (w.alloc o) w1 → Tabs w1 := fun {o w1} hb => (ht1 o).below (ht1 o).sz hb
  have H1 : Hid (∀ o, Tabs (w.alloc o)) := ht1
  have H2 : Hid (∀ {o w1}, Below (w.alloc o).heap.size (w.alloc o) w1 → Tabs w1) := ht2
  clear ht1 ht2
  by_cases hc : chk k d a b n l = 0
  · obtain ⟨h1, h2, _⟩ := chk_zero hc
    have hn : Hid (sizeNum k d a b n l = siz k l) := by show _ = _; simp [sizeNum, hc]
    have hcb : (chk k d a b n l == 0) = true := by simp [hc]
    have HC : Hid (chk k d a b n l = 0) := hc
    clear hc
    go_enter Tryd.func72, Tryd.ntmps72
    go_wp2_with (first | (go_at_call 96; refine (check_any k d a b n l _ (H1.out _)).mono ?_; rintro e w' ⟨rfl, hb⟩; obtain ⟨hc1, hf1⟩ := bcell hb; have hz : w.heap.size < w'.heap.size := by (have := hb.size; simp at this; omega)) | (go_at_call 94; refine (size_any k d a b n l _ h1 h2 (H2.out hb)).mono ?_; rintro e w3 ⟨rfl, hb3⟩))
    go_ret2
    exact ⟨by rw [hn.out, HC.out]; rfl, ((Below.alloc (Below.refl _ _) (Nat.le_refl _) _).trans (hb.mono (by simp))).trans (hb3.mono (by omega))⟩
  · have hn : Hid (sizeNum k d a b n l = 0) := by show _ = _; simp [sizeNum, hc]
    have hcb : (chk k d a b n l == 0) = false := by simp [hc]
    clear hc
    go_enter Tryd.func72, Tryd.ntmps72
    go_wp2_with (first | (go_at_call 96; refine (check_any k d a b n l _ (H1.out _)).mono ?_; rintro e w' ⟨rfl, hb⟩; obtain ⟨hc1, hf1⟩ := bcell hb; have hz : w.heap.size < w'.heap.size := by (have := hb.size; simp at this; omega)))
    go_ret2
    exact ⟨by rw [hn.out]; rfl, (Below.alloc (Below.refl _ _) (Nat.le_refl _) _).trans (hb.mono (by simp))⟩
end Go.Proofs.YtechpdfcgimkkaaDoor
