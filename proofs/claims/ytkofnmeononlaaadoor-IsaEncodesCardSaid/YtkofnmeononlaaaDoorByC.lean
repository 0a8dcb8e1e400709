/-
  boltholeref.BytesOf (P1.2), a kind a theorem: the bytes that it answers are 'encL'.
-/
import Derived.Test.YtkofnmeononlaaaDoorWalkBy
namespace Go.Proofs.YtkofnmeononlaaaDoor
open Go.RowKit Go.Joins Isa
set_option maxRecDepth 100000 in
set_option maxHeartbeats 1000000 in
theorem by3 (d a b n : Int) (w : World) (hc : chk 3 d a b n false = 0) (_d1 : 0 ≤ d) (_d2 : d ≤ 7) (_a1 : 0 ≤ a) (_a2 : a ≤ 7) (_b1 : 0 ≤ b) (_b2 : b ≤ 7) :
    Calls Tryd.prog 14 #[.agg #[.int .i64 3, .int .i64 d, .int .i64 a, .int .i64 b, .int .i64 n, .bool false]] w fun e w' => ∃ g cap, e = .returned (.tuple #[.slice (some ⟨g, 0, none⟩) (encL 3 d a b n false).length cap, .int .i64 0]) ∧ w'.ownsRow w.heap.size 5 1 (.slice (some ⟨g, 0, none⟩) (encL 3 d a b n false).length cap) (encL 3 d a b n false).length ((encL 3 d a b n false).map (Value.int .u8)) ∧ Below w.heap.size w w' := by
  have hcb : (chk 3 d a b n false == 0) = true := by simp [hc]
  clear hc
  have hE : Hid ((encL 3 d a b n false).map (Value.int .u8) = [2].map (Value.int .u8)) := by
    show _ = _
    rw [show encL 3 d a b n false = [2] from rfl]
  have hN : Hid ((encL 3 d a b n false).length = 1) := rfl
  have eF : opF 3 = 2 := rfl
  have eL : opL 3 = 0 := rfl
  obtain ⟨i0, hi, hz0, hz1, hz2⟩ := info_parts info5
  go_enter Tryd.func14, Tryd.ntmps14
  go_wp2_with (first
    | (go_at_call 10; refine (fault_any 3 d a b n false _).mono ?_; rintro e w' ⟨rfl, hb⟩; obtain ⟨hc1, hf1⟩ := bcell hb; have hz : w.heap.size < w'.heap.size := (by have := hb.size; simp at this; omega))
    | (go_at_call 25; refine (rop_any 3 _ (by decide) (by decide)).mono ?_; rintro e w4 ⟨rfl, hw4⟩; obtain rfl := hw4.symm)
    | (go_at_call 31; refine (wrap_any n _ _ (by decide) (by decide)).mono ?_; rintro e w4 ⟨rfl, hw4⟩; obtain rfl := hw4.symm))
  go_ret2
  have hN1 := hN.out
  have hE1 := hE.out
  refine ⟨w'.heap.size, 1, by rw [hN1]; rfl, ?_, ((Below.alloc (Below.refl _ _) (Nat.le_refl _) _).trans (hb.mono (by simp))).alloc (by omega) _⟩
  rw [hN1, hE1]
  exact World.ownsRow_lit w' #[.int .u8 2] 1 (by omega) (by decide) rfl
set_option maxRecDepth 100000 in
set_option maxHeartbeats 1000000 in
theorem by7 (d a b n : Int) (w : World) (hc : chk 7 d a b n false = 0) (_d1 : 0 ≤ d) (_d2 : d ≤ 7) (_a1 : 0 ≤ a) (_a2 : a ≤ 7) (_b1 : 0 ≤ b) (_b2 : b ≤ 7) :
    Calls Tryd.prog 14 #[.agg #[.int .i64 7, .int .i64 d, .int .i64 a, .int .i64 b, .int .i64 n, .bool false]] w fun e w' => ∃ g cap, e = .returned (.tuple #[.slice (some ⟨g, 0, none⟩) (encL 7 d a b n false).length cap, .int .i64 0]) ∧ w'.ownsRow w.heap.size 5 1 (.slice (some ⟨g, 0, none⟩) (encL 7 d a b n false).length cap) (encL 7 d a b n false).length ((encL 7 d a b n false).map (Value.int .u8)) ∧ Below w.heap.size w w' := by
  have hcb : (chk 7 d a b n false == 0) = true := by simp [hc]
  clear hc
  have hE : Hid ((encL 7 d a b n false).map (Value.int .u8) = [32, (d * 16 + a), b].map (Value.int .u8)) := by
    show _ = _
    rw [show encL 7 d a b n false = [32, 16 * d + a, b] from rfl]
    all_goals refine ints_eq ?_
    all_goals simp only [List.cons.injEq]
    all_goals repeat' apply And.intro
    all_goals first | trivial | omega
  have hN : Hid ((encL 7 d a b n false).length = 3) := rfl
  have eF : opF 7 = 32 := rfl
  have eL : opL 7 = 0 := rfl
  obtain ⟨i0, hi, hz0, hz1, hz2⟩ := info_parts info5
  go_enter Tryd.func14, Tryd.ntmps14
  go_wp2_with (first
    | (go_at_call 10; refine (fault_any 7 d a b n false _).mono ?_; rintro e w' ⟨rfl, hb⟩; obtain ⟨hc1, hf1⟩ := bcell hb; have hz : w.heap.size < w'.heap.size := (by have := hb.size; simp at this; omega))
    | (go_at_call 25; refine (rop_any 7 _ (by decide) (by decide)).mono ?_; rintro e w4 ⟨rfl, hw4⟩; obtain rfl := hw4.symm)
    | (go_at_call 31; refine (wrap_any n _ _ (by decide) (by decide)).mono ?_; rintro e w4 ⟨rfl, hw4⟩; obtain rfl := hw4.symm)
    | (at_builtin; refine wpList_append_lies _ rfl (.tmp 44) (.tmp 55) 29 rfl w.heap.size 5 i0 (.int .u8 0) 1 1 Tryd.underlying29 hi hz0 hz1 hz2 rfl (by decide) (.slice (some ⟨w'.heap.size, 0, none⟩) 1 1) 1 [.int .u8 32] rfl ((World.ownsRow_lit w' #[.int .u8 32] 1 (by omega) (by decide) rfl).alloc _) ⟨w'.heap.size + 1, 0, none⟩ 2 2 [.int .u8 ((d * 16 + a)), .int .u8 (b)] rfl rfl (news_at (w'.alloc _) [.int .u8 ((d * 16 + a)), .int .u8 (b)] 5 (w'.heap.size + 1) (by simp)) (bytes_one [(d * 16 + a), b]) (by decide) (by unfold maxLen; omega) (by omega) (by simp; omega) (w'.heap.size + 1 + 1) (by simp) ?_; intro g1 cap1 w51 own1 gr1 hat1 hlt1))
  go_ret2
  have hN1 := hN.out
  have hE1 := hE.out
  refine ⟨g1, cap1, by rw [hN1]; rfl, ?_, ((((Below.alloc (Below.refl _ _) (Nat.le_refl _) _).trans (hb.mono (by simp))).alloc (by omega) _).alloc (by simp; omega) _).grown gr1 (by simp; omega) (by intro x hx; simp [Value.ownBlock] at hx; omega)⟩
  rw [hN1, hE1]
  exact own1
set_option maxRecDepth 100000 in
set_option maxHeartbeats 1000000 in
theorem by11 (d a b n : Int) (w : World) (hc : chk 11 d a b n false = 0) (_d1 : 0 ≤ d) (_d2 : d ≤ 7) (_a1 : 0 ≤ a) (_a2 : a ≤ 7) (_b1 : 0 ≤ b) (_b2 : b ≤ 7) :
    Calls Tryd.prog 14 #[.agg #[.int .i64 11, .int .i64 d, .int .i64 a, .int .i64 b, .int .i64 n, .bool false]] w fun e w' => ∃ g cap, e = .returned (.tuple #[.slice (some ⟨g, 0, none⟩) (encL 11 d a b n false).length cap, .int .i64 0]) ∧ w'.ownsRow w.heap.size 5 1 (.slice (some ⟨g, 0, none⟩) (encL 11 d a b n false).length cap) (encL 11 d a b n false).length ((encL 11 d a b n false).map (Value.int .u8)) ∧ Below w.heap.size w w' := by
  have hcb : (chk 11 d a b n false == 0) = true := by simp [hc]
  clear hc
  have hE : Hid ((encL 11 d a b n false).map (Value.int .u8) = [36, (d * 16 + a), b].map (Value.int .u8)) := by
    show _ = _
    rw [show encL 11 d a b n false = [36, 16 * d + a, b] from rfl]
    all_goals refine ints_eq ?_
    all_goals simp only [List.cons.injEq]
    all_goals repeat' apply And.intro
    all_goals first | trivial | omega
  have hN : Hid ((encL 11 d a b n false).length = 3) := rfl
  have eF : opF 11 = 36 := rfl
  have eL : opL 11 = 0 := rfl
  obtain ⟨i0, hi, hz0, hz1, hz2⟩ := info_parts info5
  go_enter Tryd.func14, Tryd.ntmps14
  go_wp2_with (first
    | (go_at_call 10; refine (fault_any 11 d a b n false _).mono ?_; rintro e w' ⟨rfl, hb⟩; obtain ⟨hc1, hf1⟩ := bcell hb; have hz : w.heap.size < w'.heap.size := (by have := hb.size; simp at this; omega))
    | (go_at_call 25; refine (rop_any 11 _ (by decide) (by decide)).mono ?_; rintro e w4 ⟨rfl, hw4⟩; obtain rfl := hw4.symm)
    | (go_at_call 31; refine (wrap_any n _ _ (by decide) (by decide)).mono ?_; rintro e w4 ⟨rfl, hw4⟩; obtain rfl := hw4.symm)
    | (at_builtin; refine wpList_append_lies _ rfl (.tmp 44) (.tmp 55) 29 rfl w.heap.size 5 i0 (.int .u8 0) 1 1 Tryd.underlying29 hi hz0 hz1 hz2 rfl (by decide) (.slice (some ⟨w'.heap.size, 0, none⟩) 1 1) 1 [.int .u8 36] rfl ((World.ownsRow_lit w' #[.int .u8 36] 1 (by omega) (by decide) rfl).alloc _) ⟨w'.heap.size + 1, 0, none⟩ 2 2 [.int .u8 ((d * 16 + a)), .int .u8 (b)] rfl rfl (news_at (w'.alloc _) [.int .u8 ((d * 16 + a)), .int .u8 (b)] 5 (w'.heap.size + 1) (by simp)) (bytes_one [(d * 16 + a), b]) (by decide) (by unfold maxLen; omega) (by omega) (by simp; omega) (w'.heap.size + 1 + 1) (by simp) ?_; intro g1 cap1 w51 own1 gr1 hat1 hlt1))
  go_ret2
  have hN1 := hN.out
  have hE1 := hE.out
  refine ⟨g1, cap1, by rw [hN1]; rfl, ?_, ((((Below.alloc (Below.refl _ _) (Nat.le_refl _) _).trans (hb.mono (by simp))).alloc (by omega) _).alloc (by simp; omega) _).grown gr1 (by simp; omega) (by intro x hx; simp [Value.ownBlock] at hx; omega)⟩
  rw [hN1, hE1]
  exact own1
set_option maxRecDepth 100000 in
set_option maxHeartbeats 1000000 in
theorem by15 (d a b n : Int) (w : World) (hc : chk 15 d a b n false = 0) (_d1 : 0 ≤ d) (_d2 : d ≤ 7) (_a1 : 0 ≤ a) (_a2 : a ≤ 7) (_b1 : 0 ≤ b) (_b2 : b ≤ 7) :
    Calls Tryd.prog 14 #[.agg #[.int .i64 15, .int .i64 d, .int .i64 a, .int .i64 b, .int .i64 n, .bool false]] w fun e w' => ∃ g cap, e = .returned (.tuple #[.slice (some ⟨g, 0, none⟩) (encL 15 d a b n false).length cap, .int .i64 0]) ∧ w'.ownsRow w.heap.size 5 1 (.slice (some ⟨g, 0, none⟩) (encL 15 d a b n false).length cap) (encL 15 d a b n false).length ((encL 15 d a b n false).map (Value.int .u8)) ∧ Below w.heap.size w w' := by
  have hcb : (chk 15 d a b n false == 0) = true := by simp [hc]
  clear hc
  have hE : Hid ((encL 15 d a b n false).map (Value.int .u8) = [49, (b * 16 + a), n % 256].map (Value.int .u8)) := by
    show _ = _
    rw [show encL 15 d a b n false = [49, 16 * b + a, n % 256] from rfl]
    all_goals refine ints_eq ?_
    all_goals simp only [List.cons.injEq]
    all_goals repeat' apply And.intro
    all_goals first | trivial | omega
  have hN : Hid ((encL 15 d a b n false).length = 3) := rfl
  have eF : opF 15 = 49 := rfl
  have eL : opL 15 = 0 := rfl
  obtain ⟨i0, hi, hz0, hz1, hz2⟩ := info_parts info5
  go_enter Tryd.func14, Tryd.ntmps14
  go_wp2_with (first
    | (go_at_call 10; refine (fault_any 15 d a b n false _).mono ?_; rintro e w' ⟨rfl, hb⟩; obtain ⟨hc1, hf1⟩ := bcell hb; have hz : w.heap.size < w'.heap.size := (by have := hb.size; simp at this; omega))
    | (go_at_call 25; refine (rop_any 15 _ (by decide) (by decide)).mono ?_; rintro e w4 ⟨rfl, hw4⟩; obtain rfl := hw4.symm)
    | (go_at_call 31; refine (wrap_any n _ _ (by decide) (by decide)).mono ?_; rintro e w4 ⟨rfl, hw4⟩; obtain rfl := hw4.symm)
    | (at_builtin; refine wpList_append_lies _ rfl (.tmp 88) (.tmp 97) 29 rfl w.heap.size 5 i0 (.int .u8 0) 1 1 Tryd.underlying29 hi hz0 hz1 hz2 rfl (by decide) (.slice (some ⟨w'.heap.size, 0, none⟩) 1 1) 1 [.int .u8 49] rfl ((World.ownsRow_lit w' #[.int .u8 49] 1 (by omega) (by decide) rfl).alloc _) ⟨w'.heap.size + 1, 0, none⟩ 2 2 [.int .u8 ((b * 16 + a)), .int .u8 (n % 256)] rfl rfl (news_at (w'.alloc _) [.int .u8 ((b * 16 + a)), .int .u8 (n % 256)] 5 (w'.heap.size + 1) (by simp)) (bytes_one [(b * 16 + a), n % 256]) (by decide) (by unfold maxLen; omega) (by omega) (by simp; omega) (w'.heap.size + 1 + 1) (by simp) ?_; intro g1 cap1 w51 own1 gr1 hat1 hlt1))
  go_ret2
  have hN1 := hN.out
  have hE1 := hE.out
  refine ⟨g1, cap1, by rw [hN1]; rfl, ?_, ((((Below.alloc (Below.refl _ _) (Nat.le_refl _) _).trans (hb.mono (by simp))).alloc (by omega) _).alloc (by simp; omega) _).grown gr1 (by simp; omega) (by intro x hx; simp [Value.ownBlock] at hx; omega)⟩
  rw [hN1, hE1]
  exact own1
set_option maxRecDepth 100000 in
set_option maxHeartbeats 1000000 in
theorem by19 (d a b n : Int) (w : World) (hc : chk 19 d a b n false = 0) (_d1 : 0 ≤ d) (_d2 : d ≤ 7) (_a1 : 0 ≤ a) (_a2 : a ≤ 7) (_b1 : 0 ≤ b) (_b2 : b ≤ 7) :
    Calls Tryd.prog 14 #[.agg #[.int .i64 19, .int .i64 d, .int .i64 a, .int .i64 b, .int .i64 n, .bool false]] w fun e w' => ∃ g cap, e = .returned (.tuple #[.slice (some ⟨g, 0, none⟩) (encL 19 d a b n false).length cap, .int .i64 0]) ∧ w'.ownsRow w.heap.size 5 1 (.slice (some ⟨g, 0, none⟩) (encL 19 d a b n false).length cap) (encL 19 d a b n false).length ((encL 19 d a b n false).map (Value.int .u8)) ∧ Below w.heap.size w w' := by
  have hcb : (chk 19 d a b n false == 0) = true := by simp [hc]
  clear hc
  have hE : Hid ((encL 19 d a b n false).map (Value.int .u8) = [81, (a * 16 + b), n % 256].map (Value.int .u8)) := by
    show _ = _
    rw [show encL 19 d a b n false = [81, 16 * a + b, n % 256] from rfl]
    all_goals refine ints_eq ?_
    all_goals simp only [List.cons.injEq]
    all_goals repeat' apply And.intro
    all_goals first | trivial | omega
  have hN : Hid ((encL 19 d a b n false).length = 3) := rfl
  have eF : opF 19 = 81 := rfl
  have eL : opL 19 = 85 := rfl
  obtain ⟨i0, hi, hz0, hz1, hz2⟩ := info_parts info5
  go_enter Tryd.func14, Tryd.ntmps14
  go_wp2_with (first
    | (go_at_call 10; refine (fault_any 19 d a b n false _).mono ?_; rintro e w' ⟨rfl, hb⟩; obtain ⟨hc1, hf1⟩ := bcell hb; have hz : w.heap.size < w'.heap.size := (by have := hb.size; simp at this; omega))
    | (go_at_call 25; refine (rop_any 19 _ (by decide) (by decide)).mono ?_; rintro e w4 ⟨rfl, hw4⟩; obtain rfl := hw4.symm)
    | (go_at_call 31; refine (wrap_any n _ _ (by decide) (by decide)).mono ?_; rintro e w4 ⟨rfl, hw4⟩; obtain rfl := hw4.symm)
    | (at_builtin; refine wpList_append_lies _ rfl (.tmp 120) (.tmp 129) 29 rfl w.heap.size 5 i0 (.int .u8 0) 1 1 Tryd.underlying29 hi hz0 hz1 hz2 rfl (by decide) (.slice (some ⟨w'.heap.size, 0, none⟩) 1 1) 1 [.int .u8 81] rfl ((World.ownsRow_lit w' #[.int .u8 81] 1 (by omega) (by decide) rfl).alloc _) ⟨w'.heap.size + 1, 0, none⟩ 2 2 [.int .u8 ((a * 16 + b)), .int .u8 (n % 256)] rfl rfl (news_at (w'.alloc _) [.int .u8 ((a * 16 + b)), .int .u8 (n % 256)] 5 (w'.heap.size + 1) (by simp)) (bytes_one [(a * 16 + b), n % 256]) (by decide) (by unfold maxLen; omega) (by omega) (by simp; omega) (w'.heap.size + 1 + 1) (by simp) ?_; intro g1 cap1 w51 own1 gr1 hat1 hlt1; have hq1 := long_far hb gr1 (Nat.le_refl _) 5; have hz5 : w'.heap.size < w51.heap.size := (by have := gr1.size; simp at this; omega)))
  go_ret2
  have hN1 := hN.out
  have hE1 := hE.out
  refine ⟨g1, cap1, by rw [hN1]; rfl, ?_, ((((Below.alloc (Below.refl _ _) (Nat.le_refl _) _).trans (hb.mono (by simp))).alloc (by omega) _).alloc (by simp; omega) _).grown gr1 (by simp; omega) (by intro x hx; simp [Value.ownBlock] at hx; omega)⟩
  rw [hN1, hE1]
  exact own1
set_option maxRecDepth 100000 in
set_option maxHeartbeats 1000000 in
theorem by23 (d a b n : Int) (w : World) (hc : chk 23 d a b n false = 0) (_d1 : 0 ≤ d) (_d2 : d ≤ 7) (_a1 : 0 ≤ a) (_a2 : a ≤ 7) (_b1 : 0 ≤ b) (_b2 : b ≤ 7) :
    Calls Tryd.prog 14 #[.agg #[.int .i64 23, .int .i64 d, .int .i64 a, .int .i64 b, .int .i64 n, .bool false]] w fun e w' => ∃ g cap, e = .returned (.tuple #[.slice (some ⟨g, 0, none⟩) (encL 23 d a b n false).length cap, .int .i64 0]) ∧ w'.ownsRow w.heap.size 5 1 (.slice (some ⟨g, 0, none⟩) (encL 23 d a b n false).length cap) (encL 23 d a b n false).length ((encL 23 d a b n false).map (Value.int .u8)) ∧ Below w.heap.size w w' := by
  have hcb : (chk 23 d a b n false == 0) = true := by simp [hc]
  clear hc
  have hE : Hid ((encL 23 d a b n false).map (Value.int .u8) = [98, n % 256, n % 65536 / 256].map (Value.int .u8)) := by
    show _ = _
    rw [show encL 23 d a b n false = [98, n % 256, n / 256 % 256] from rfl]
    all_goals refine ints_eq ?_
    all_goals simp only [List.cons.injEq]
    all_goals repeat' apply And.intro
    all_goals first | trivial | omega
  have hN : Hid ((encL 23 d a b n false).length = 3) := rfl
  have eF : opF 23 = 98 := rfl
  have eL : opL 23 = 0 := rfl
  obtain ⟨i0, hi, hz0, hz1, hz2⟩ := info_parts info5
  go_enter Tryd.func14, Tryd.ntmps14
  go_wp2_with (first
    | (go_at_call 10; refine (fault_any 23 d a b n false _).mono ?_; rintro e w' ⟨rfl, hb⟩; obtain ⟨hc1, hf1⟩ := bcell hb; have hz : w.heap.size < w'.heap.size := (by have := hb.size; simp at this; omega))
    | (go_at_call 25; refine (rop_any 23 _ (by decide) (by decide)).mono ?_; rintro e w4 ⟨rfl, hw4⟩; obtain rfl := hw4.symm)
    | (go_at_call 31; refine (wrap_any n _ _ (by decide) (by decide)).mono ?_; rintro e w4 ⟨rfl, hw4⟩; obtain rfl := hw4.symm)
    | (at_builtin; refine wpList_append_lies _ rfl (.tmp 151) (.tmp 154) 29 rfl w.heap.size 5 i0 (.int .u8 0) 1 1 Tryd.underlying29 hi hz0 hz1 hz2 rfl (by decide) (.slice (some ⟨w'.heap.size, 0, none⟩) 1 1) 1 [.int .u8 98] rfl ((World.ownsRow_lit w' #[.int .u8 98] 1 (by omega) (by decide) rfl).alloc _) ⟨w'.heap.size + 1, 0, none⟩ 2 2 [.int .u8 (n % 256), .int .u8 (n % 65536 / 256)] rfl rfl (news_at (w'.alloc _) [.int .u8 (n % 256), .int .u8 (n % 65536 / 256)] 5 (w'.heap.size + 1) (by simp)) (bytes_one [n % 256, n % 65536 / 256]) (by decide) (by unfold maxLen; omega) (by omega) (by simp; omega) (w'.heap.size + 1 + 1) (by simp) ?_; intro g1 cap1 w51 own1 gr1 hat1 hlt1))
  go_ret2
  have hN1 := hN.out
  have hE1 := hE.out
  refine ⟨g1, cap1, by rw [hN1]; rfl, ?_, ((((Below.alloc (Below.refl _ _) (Nat.le_refl _) _).trans (hb.mono (by simp))).alloc (by omega) _).alloc (by simp; omega) _).grown gr1 (by simp; omega) (by intro x hx; simp [Value.ownBlock] at hx; omega)⟩
  rw [hN1, hE1]
  exact own1
set_option maxRecDepth 100000 in
set_option maxHeartbeats 1000000 in
theorem by20l (d a b n : Int) (w : World) (hc : chk 20 d a b n true = 0) (_d1 : 0 ≤ d) (_d2 : d ≤ 7) (_a1 : 0 ≤ a) (_a2 : a ≤ 7) (_b1 : 0 ≤ b) (_b2 : b ≤ 7) :
    Calls Tryd.prog 14 #[.agg #[.int .i64 20, .int .i64 d, .int .i64 a, .int .i64 b, .int .i64 n, .bool true]] w fun e w' => ∃ g cap, e = .returned (.tuple #[.slice (some ⟨g, 0, none⟩) (encL 20 d a b n true).length cap, .int .i64 0]) ∧ w'.ownsRow w.heap.size 5 1 (.slice (some ⟨g, 0, none⟩) (encL 20 d a b n true).length cap) (encL 20 d a b n true).length ((encL 20 d a b n true).map (Value.int .u8)) ∧ Below w.heap.size w w' := by
  have hcb : (chk 20 d a b n true == 0) = true := by simp [hc]
  clear hc
  have hE : Hid ((encL 20 d a b n true).map (Value.int .u8) = [86, (a * 16 + b), n % 256, n % 65536 / 256].map (Value.int .u8)) := by
    show _ = _
    rw [show encL 20 d a b n true = [86, 16 * a + b, n % 256, n / 256 % 256] from rfl]
    all_goals refine ints_eq ?_
    all_goals simp only [List.cons.injEq]
    all_goals repeat' apply And.intro
    all_goals first | trivial | omega
  have hN : Hid ((encL 20 d a b n true).length = 4) := rfl
  have eF : opF 20 = 82 := rfl
  have eL : opL 20 = 86 := rfl
  obtain ⟨i0, hi, hz0, hz1, hz2⟩ := info_parts info5
  go_enter Tryd.func14, Tryd.ntmps14
  go_wp2_with (first
    | (go_at_call 10; refine (fault_any 20 d a b n true _).mono ?_; rintro e w' ⟨rfl, hb⟩; obtain ⟨hc1, hf1⟩ := bcell hb; have hz : w.heap.size < w'.heap.size := (by have := hb.size; simp at this; omega))
    | (go_at_call 25; refine (rop_any 20 _ (by decide) (by decide)).mono ?_; rintro e w4 ⟨rfl, hw4⟩; obtain rfl := hw4.symm)
    | (go_at_call 31; refine (wrap_any n _ _ (by decide) (by decide)).mono ?_; rintro e w4 ⟨rfl, hw4⟩; obtain rfl := hw4.symm)
    | (at_builtin; refine wpList_append_lies _ rfl (.tmp 120) (.tmp 129) 29 rfl w.heap.size 5 i0 (.int .u8 0) 1 1 Tryd.underlying29 hi hz0 hz1 hz2 rfl (by decide) (.slice (some ⟨w'.heap.size, 0, none⟩) 1 1) 1 [.int .u8 86] rfl ((World.ownsRow_lit w' #[.int .u8 86] 1 (by omega) (by decide) rfl).alloc _) ⟨w'.heap.size + 1, 0, none⟩ 2 2 [.int .u8 ((a * 16 + b)), .int .u8 (n % 256)] rfl rfl (news_at (w'.alloc _) [.int .u8 ((a * 16 + b)), .int .u8 (n % 256)] 5 (w'.heap.size + 1) (by simp)) (bytes_one [(a * 16 + b), n % 256]) (by decide) (by unfold maxLen; omega) (by omega) (by simp; omega) (w'.heap.size + 1 + 1) (by simp) ?_; intro g1 cap1 w51 own1 gr1 hat1 hlt1; have hq1 := long_far hb gr1 (Nat.le_refl _) 5; have hz5 : w'.heap.size < w51.heap.size := (by have := gr1.size; simp at this; omega))
    | (at_builtin; refine wpList_append_lies _ rfl (.tmp 133) (.tmp 135) 29 rfl w.heap.size 5 i0 (.int .u8 0) 1 1 Tryd.underlying29 hi hz0 hz1 hz2 rfl (by decide) (.slice (some ⟨g1, 0, none⟩) 3 cap1) 3 [.int .u8 86, .int .u8 ((a * 16 + b)), .int .u8 (n % 256)] rfl (own1.alloc _) ⟨w51.heap.size, 0, none⟩ 1 1 [.int .u8 (n % 65536 / 256)] rfl rfl (news_at w51 [.int .u8 (n % 65536 / 256)] 5 w51.heap.size rfl) (bytes_one [n % 65536 / 256]) (by decide) (by unfold maxLen; omega) (by omega) (by simp; omega) (w51.heap.size + 1) (by simp) ?_; intro g2 cap2 w52 own2 gr2 hat2 hlt2))
  go_ret2
  have hN1 := hN.out
  have hE1 := hE.out
  have z5 : w'.heap.size < w51.heap.size := by have := gr1.size; simp at this; omega
  refine ⟨g2, cap2, by rw [hN1]; rfl, ?_, ((((((Below.alloc (Below.refl _ _) (Nat.le_refl _) _).trans (hb.mono (by simp))).alloc (by omega) _).alloc (by simp; omega) _).grown gr1 (by simp; omega) (by intro x hx; simp [Value.ownBlock] at hx; omega)).alloc (by omega) _).grown gr2 (by simp; omega) (by intro x hx; simp [Value.ownBlock] at hx; have h9 : w.heap.size ≤ g1 := (own1.lt g1 rfl).1; omega)⟩
  rw [hN1, hE1]
  exact own2
end Go.Proofs.YtkofnmeononlaaaDoor
