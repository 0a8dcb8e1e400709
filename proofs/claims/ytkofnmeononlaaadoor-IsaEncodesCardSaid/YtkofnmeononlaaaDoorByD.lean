/-
  boltholeref.BytesOf (P1.2), a kind a theorem: the bytes that it answers are 'encL'.
-/
import Derived.Test.YtkofnmeononlaaaDoorWalkBy
namespace Go.Proofs.YtkofnmeononlaaaDoor
open Go.RowKit Go.Joins Isa
set_option maxRecDepth 100000 in
set_option maxHeartbeats 1000000 in
theorem by4 (d a b n : Int) (w : World) (hc : chk 4 d a b n false = 0) (_d1 : 0 ≤ d) (_d2 : d ≤ 7) (_a1 : 0 ≤ a) (_a2 : a ≤ 7) (_b1 : 0 ≤ b) (_b2 : b ≤ 7) :
    Calls Tryd.prog 14 #[.agg #[.int .i64 4, .int .i64 d, .int .i64 a, .int .i64 b, .int .i64 n, .bool false]] w fun e w' => ∃ g cap, e = .returned (.tuple #[.slice (some ⟨g, 0, none⟩) (encL 4 d a b n false).length cap, .int .i64 0]) ∧ w'.ownsRow w.heap.size 5 1 (.slice (some ⟨g, 0, none⟩) (encL 4 d a b n false).length cap) (encL 4 d a b n false).length ((encL 4 d a b n false).map (Value.int .u8)) ∧ Below w.heap.size w w' := by
  have hcb : (chk 4 d a b n false == 0) = true := by simp [hc]
  clear hc
  have hE : Hid ((encL 4 d a b n false).map (Value.int .u8) = [3].map (Value.int .u8)) := by
    show _ = _
    rw [show encL 4 d a b n false = [3] from rfl]
  have hN : Hid ((encL 4 d a b n false).length = 1) := rfl
  have eF : opF 4 = 3 := rfl
  have eL : opL 4 = 0 := rfl
  obtain ⟨i0, hi, hz0, hz1, hz2⟩ := info_parts info5
  go_enter Tryd.func14, Tryd.ntmps14
  go_wp2_with (first
    | (go_at_call 10; refine (fault_any 4 d a b n false _).mono ?_; rintro e w' ⟨rfl, hb⟩; obtain ⟨hc1, hf1⟩ := bcell hb; have hz : w.heap.size < w'.heap.size := (by have := hb.size; simp at this; omega))
    | (go_at_call 25; refine (rop_any 4 _ (by decide) (by decide)).mono ?_; rintro e w4 ⟨rfl, hw4⟩; obtain rfl := hw4.symm)
    | (go_at_call 31; refine (wrap_any n _ _ (by decide) (by decide)).mono ?_; rintro e w4 ⟨rfl, hw4⟩; obtain rfl := hw4.symm))
  go_ret2
  have hN1 := hN.out
  have hE1 := hE.out
  refine ⟨w'.heap.size, 1, by rw [hN1]; rfl, ?_, ((Below.alloc (Below.refl _ _) (Nat.le_refl _) _).trans (hb.mono (by simp))).alloc (by omega) _⟩
  rw [hN1, hE1]
  exact World.ownsRow_lit w' #[.int .u8 3] 1 (by omega) (by decide) rfl
set_option maxRecDepth 100000 in
set_option maxHeartbeats 1000000 in
theorem by8 (d a b n : Int) (w : World) (hc : chk 8 d a b n false = 0) (_d1 : 0 ≤ d) (_d2 : d ≤ 7) (_a1 : 0 ≤ a) (_a2 : a ≤ 7) (_b1 : 0 ≤ b) (_b2 : b ≤ 7) :
    Calls Tryd.prog 14 #[.agg #[.int .i64 8, .int .i64 d, .int .i64 a, .int .i64 b, .int .i64 n, .bool false]] w fun e w' => ∃ g cap, e = .returned (.tuple #[.slice (some ⟨g, 0, none⟩) (encL 8 d a b n false).length cap, .int .i64 0]) ∧ w'.ownsRow w.heap.size 5 1 (.slice (some ⟨g, 0, none⟩) (encL 8 d a b n false).length cap) (encL 8 d a b n false).length ((encL 8 d a b n false).map (Value.int .u8)) ∧ Below w.heap.size w w' := by
  have hcb : (chk 8 d a b n false == 0) = true := by simp [hc]
  clear hc
  have hE : Hid ((encL 8 d a b n false).map (Value.int .u8) = [33, (d * 16 + a), b].map (Value.int .u8)) := by
    show _ = _
    rw [show encL 8 d a b n false = [33, 16 * d + a, b] from rfl]
    all_goals refine ints_eq ?_
    all_goals simp only [List.cons.injEq]
    all_goals repeat' apply And.intro
    all_goals first | trivial | omega
  have hN : Hid ((encL 8 d a b n false).length = 3) := rfl
  have eF : opF 8 = 33 := rfl
  have eL : opL 8 = 0 := rfl
  obtain ⟨i0, hi, hz0, hz1, hz2⟩ := info_parts info5
  go_enter Tryd.func14, Tryd.ntmps14
  go_wp2_with (first
    | (go_at_call 10; refine (fault_any 8 d a b n false _).mono ?_; rintro e w' ⟨rfl, hb⟩; obtain ⟨hc1, hf1⟩ := bcell hb; have hz : w.heap.size < w'.heap.size := (by have := hb.size; simp at this; omega))
    | (go_at_call 25; refine (rop_any 8 _ (by decide) (by decide)).mono ?_; rintro e w4 ⟨rfl, hw4⟩; obtain rfl := hw4.symm)
    | (go_at_call 31; refine (wrap_any n _ _ (by decide) (by decide)).mono ?_; rintro e w4 ⟨rfl, hw4⟩; obtain rfl := hw4.symm)
    | (at_builtin; refine wpList_append_lies _ rfl (.tmp 44) (.tmp 55) 29 rfl w.heap.size 5 i0 (.int .u8 0) 1 1 Tryd.underlying29 hi hz0 hz1 hz2 rfl (by decide) (.slice (some ⟨w'.heap.size, 0, none⟩) 1 1) 1 [.int .u8 33] rfl ((World.ownsRow_lit w' #[.int .u8 33] 1 (by omega) (by decide) rfl).alloc _) ⟨w'.heap.size + 1, 0, none⟩ 2 2 [.int .u8 ((d * 16 + a)), .int .u8 (b)] rfl rfl (news_at (w'.alloc _) [.int .u8 ((d * 16 + a)), .int .u8 (b)] 5 (w'.heap.size + 1) (by simp)) (bytes_one [(d * 16 + a), b]) (by decide) (by unfold maxLen; omega) (by omega) (by simp; omega) (w'.heap.size + 1 + 1) (by simp) ?_; intro g1 cap1 w51 own1 gr1 hat1 hlt1))
  go_ret2
  have hN1 := hN.out
  have hE1 := hE.out
  refine ⟨g1, cap1, by rw [hN1]; rfl, ?_, ((((Below.alloc (Below.refl _ _) (Nat.le_refl _) _).trans (hb.mono (by simp))).alloc (by omega) _).alloc (by simp; omega) _).grown gr1 (by simp; omega) (by intro x hx; simp [Value.ownBlock] at hx; omega)⟩
  rw [hN1, hE1]
  exact own1
set_option maxRecDepth 100000 in
set_option maxHeartbeats 1000000 in
theorem by12 (d a b n : Int) (w : World) (hc : chk 12 d a b n false = 0) (_d1 : 0 ≤ d) (_d2 : d ≤ 7) (_a1 : 0 ≤ a) (_a2 : a ≤ 7) (_b1 : 0 ≤ b) (_b2 : b ≤ 7) :
    Calls Tryd.prog 14 #[.agg #[.int .i64 12, .int .i64 d, .int .i64 a, .int .i64 b, .int .i64 n, .bool false]] w fun e w' => ∃ g cap, e = .returned (.tuple #[.slice (some ⟨g, 0, none⟩) (encL 12 d a b n false).length cap, .int .i64 0]) ∧ w'.ownsRow w.heap.size 5 1 (.slice (some ⟨g, 0, none⟩) (encL 12 d a b n false).length cap) (encL 12 d a b n false).length ((encL 12 d a b n false).map (Value.int .u8)) ∧ Below w.heap.size w w' := by
  have hcb : (chk 12 d a b n false == 0) = true := by simp [hc]
  clear hc
  have hE : Hid ((encL 12 d a b n false).map (Value.int .u8) = [37, (d * 16 + a), b].map (Value.int .u8)) := by
    show _ = _
    rw [show encL 12 d a b n false = [37, 16 * d + a, b] from rfl]
    all_goals refine ints_eq ?_
    all_goals simp only [List.cons.injEq]
    all_goals repeat' apply And.intro
    all_goals first | trivial | omega
  have hN : Hid ((encL 12 d a b n false).length = 3) := rfl
  have eF : opF 12 = 37 := rfl
  have eL : opL 12 = 0 := rfl
  obtain ⟨i0, hi, hz0, hz1, hz2⟩ := info_parts info5
  go_enter Tryd.func14, Tryd.ntmps14
  go_wp2_with (first
    | (go_at_call 10; refine (fault_any 12 d a b n false _).mono ?_; rintro e w' ⟨rfl, hb⟩; obtain ⟨hc1, hf1⟩ := bcell hb; have hz : w.heap.size < w'.heap.size := (by have := hb.size; simp at this; omega))
    | (go_at_call 25; refine (rop_any 12 _ (by decide) (by decide)).mono ?_; rintro e w4 ⟨rfl, hw4⟩; obtain rfl := hw4.symm)
    | (go_at_call 31; refine (wrap_any n _ _ (by decide) (by decide)).mono ?_; rintro e w4 ⟨rfl, hw4⟩; obtain rfl := hw4.symm)
    | (at_builtin; refine wpList_append_lies _ rfl (.tmp 44) (.tmp 55) 29 rfl w.heap.size 5 i0 (.int .u8 0) 1 1 Tryd.underlying29 hi hz0 hz1 hz2 rfl (by decide) (.slice (some ⟨w'.heap.size, 0, none⟩) 1 1) 1 [.int .u8 37] rfl ((World.ownsRow_lit w' #[.int .u8 37] 1 (by omega) (by decide) rfl).alloc _) ⟨w'.heap.size + 1, 0, none⟩ 2 2 [.int .u8 ((d * 16 + a)), .int .u8 (b)] rfl rfl (news_at (w'.alloc _) [.int .u8 ((d * 16 + a)), .int .u8 (b)] 5 (w'.heap.size + 1) (by simp)) (bytes_one [(d * 16 + a), b]) (by decide) (by unfold maxLen; omega) (by omega) (by simp; omega) (w'.heap.size + 1 + 1) (by simp) ?_; intro g1 cap1 w51 own1 gr1 hat1 hlt1))
  go_ret2
  have hN1 := hN.out
  have hE1 := hE.out
  refine ⟨g1, cap1, by rw [hN1]; rfl, ?_, ((((Below.alloc (Below.refl _ _) (Nat.le_refl _) _).trans (hb.mono (by simp))).alloc (by omega) _).alloc (by simp; omega) _).grown gr1 (by simp; omega) (by intro x hx; simp [Value.ownBlock] at hx; omega)⟩
  rw [hN1, hE1]
  exact own1
set_option maxRecDepth 100000 in
set_option maxHeartbeats 1000000 in
theorem by16 (d a b n : Int) (w : World) (hc : chk 16 d a b n false = 0) (_d1 : 0 ≤ d) (_d2 : d ≤ 7) (_a1 : 0 ≤ a) (_a2 : a ≤ 7) (_b1 : 0 ≤ b) (_b2 : b ≤ 7) :
    Calls Tryd.prog 14 #[.agg #[.int .i64 16, .int .i64 d, .int .i64 a, .int .i64 b, .int .i64 n, .bool false]] w fun e w' => ∃ g cap, e = .returned (.tuple #[.slice (some ⟨g, 0, none⟩) (encL 16 d a b n false).length cap, .int .i64 0]) ∧ w'.ownsRow w.heap.size 5 1 (.slice (some ⟨g, 0, none⟩) (encL 16 d a b n false).length cap) (encL 16 d a b n false).length ((encL 16 d a b n false).map (Value.int .u8)) ∧ Below w.heap.size w w' := by
  have hcb : (chk 16 d a b n false == 0) = true := by simp [hc]
  clear hc
  have hE : Hid ((encL 16 d a b n false).map (Value.int .u8) = [64, d].map (Value.int .u8)) := by
    show _ = _
    rw [show encL 16 d a b n false = [64, 16 * 0 + d] from rfl]
    all_goals refine ints_eq ?_
    all_goals simp only [List.cons.injEq]
    all_goals repeat' apply And.intro
    all_goals first | trivial | omega
  have hN : Hid ((encL 16 d a b n false).length = 2) := rfl
  have eF : opF 16 = 64 := rfl
  have eL : opL 16 = 0 := rfl
  obtain ⟨i0, hi, hz0, hz1, hz2⟩ := info_parts info5
  go_enter Tryd.func14, Tryd.ntmps14
  go_wp2_with (first
    | (go_at_call 10; refine (fault_any 16 d a b n false _).mono ?_; rintro e w' ⟨rfl, hb⟩; obtain ⟨hc1, hf1⟩ := bcell hb; have hz : w.heap.size < w'.heap.size := (by have := hb.size; simp at this; omega))
    | (go_at_call 25; refine (rop_any 16 _ (by decide) (by decide)).mono ?_; rintro e w4 ⟨rfl, hw4⟩; obtain rfl := hw4.symm)
    | (go_at_call 31; refine (wrap_any n _ _ (by decide) (by decide)).mono ?_; rintro e w4 ⟨rfl, hw4⟩; obtain rfl := hw4.symm)
    | (at_builtin; refine wpList_append_lies _ rfl (.tmp 101) (.tmp 105) 29 rfl w.heap.size 5 i0 (.int .u8 0) 1 1 Tryd.underlying29 hi hz0 hz1 hz2 rfl (by decide) (.slice (some ⟨w'.heap.size, 0, none⟩) 1 1) 1 [.int .u8 64] rfl ((World.ownsRow_lit w' #[.int .u8 64] 1 (by omega) (by decide) rfl).alloc _) ⟨w'.heap.size + 1, 0, none⟩ 1 1 [.int .u8 (d)] rfl rfl (news_at (w'.alloc _) [.int .u8 (d)] 5 (w'.heap.size + 1) (by simp)) (bytes_one [d]) (by decide) (by unfold maxLen; omega) (by omega) (by simp; omega) (w'.heap.size + 1 + 1) (by simp) ?_; intro g1 cap1 w51 own1 gr1 hat1 hlt1))
  go_ret2
  have hN1 := hN.out
  have hE1 := hE.out
  refine ⟨g1, cap1, by rw [hN1]; rfl, ?_, ((((Below.alloc (Below.refl _ _) (Nat.le_refl _) _).trans (hb.mono (by simp))).alloc (by omega) _).alloc (by simp; omega) _).grown gr1 (by simp; omega) (by intro x hx; simp [Value.ownBlock] at hx; omega)⟩
  rw [hN1, hE1]
  exact own1
set_option maxRecDepth 100000 in
set_option maxHeartbeats 1000000 in
theorem by20 (d a b n : Int) (w : World) (hc : chk 20 d a b n false = 0) (_d1 : 0 ≤ d) (_d2 : d ≤ 7) (_a1 : 0 ≤ a) (_a2 : a ≤ 7) (_b1 : 0 ≤ b) (_b2 : b ≤ 7) :
    Calls Tryd.prog 14 #[.agg #[.int .i64 20, .int .i64 d, .int .i64 a, .int .i64 b, .int .i64 n, .bool false]] w fun e w' => ∃ g cap, e = .returned (.tuple #[.slice (some ⟨g, 0, none⟩) (encL 20 d a b n false).length cap, .int .i64 0]) ∧ w'.ownsRow w.heap.size 5 1 (.slice (some ⟨g, 0, none⟩) (encL 20 d a b n false).length cap) (encL 20 d a b n false).length ((encL 20 d a b n false).map (Value.int .u8)) ∧ Below w.heap.size w w' := by
  have hcb : (chk 20 d a b n false == 0) = true := by simp [hc]
  clear hc
  have hE : Hid ((encL 20 d a b n false).map (Value.int .u8) = [82, (a * 16 + b), n % 256].map (Value.int .u8)) := by
    show _ = _
    rw [show encL 20 d a b n false = [82, 16 * a + b, n % 256] from rfl]
    all_goals refine ints_eq ?_
    all_goals simp only [List.cons.injEq]
    all_goals repeat' apply And.intro
    all_goals first | trivial | omega
  have hN : Hid ((encL 20 d a b n false).length = 3) := rfl
  have eF : opF 20 = 82 := rfl
  have eL : opL 20 = 86 := rfl
  obtain ⟨i0, hi, hz0, hz1, hz2⟩ := info_parts info5
  go_enter Tryd.func14, Tryd.ntmps14
  go_wp2_with (first
    | (go_at_call 10; refine (fault_any 20 d a b n false _).mono ?_; rintro e w' ⟨rfl, hb⟩; obtain ⟨hc1, hf1⟩ := bcell hb; have hz : w.heap.size < w'.heap.size := (by have := hb.size; simp at this; omega))
    | (go_at_call 25; refine (rop_any 20 _ (by decide) (by decide)).mono ?_; rintro e w4 ⟨rfl, hw4⟩; obtain rfl := hw4.symm)
    | (go_at_call 31; refine (wrap_any n _ _ (by decide) (by decide)).mono ?_; rintro e w4 ⟨rfl, hw4⟩; obtain rfl := hw4.symm)
    | (at_builtin; refine wpList_append_lies _ rfl (.tmp 120) (.tmp 129) 29 rfl w.heap.size 5 i0 (.int .u8 0) 1 1 Tryd.underlying29 hi hz0 hz1 hz2 rfl (by decide) (.slice (some ⟨w'.heap.size, 0, none⟩) 1 1) 1 [.int .u8 82] rfl ((World.ownsRow_lit w' #[.int .u8 82] 1 (by omega) (by decide) rfl).alloc _) ⟨w'.heap.size + 1, 0, none⟩ 2 2 [.int .u8 ((a * 16 + b)), .int .u8 (n % 256)] rfl rfl (news_at (w'.alloc _) [.int .u8 ((a * 16 + b)), .int .u8 (n % 256)] 5 (w'.heap.size + 1) (by simp)) (bytes_one [(a * 16 + b), n % 256]) (by decide) (by unfold maxLen; omega) (by omega) (by simp; omega) (w'.heap.size + 1 + 1) (by simp) ?_; intro g1 cap1 w51 own1 gr1 hat1 hlt1; have hq1 := long_far hb gr1 (Nat.le_refl _) 5; have hz5 : w'.heap.size < w51.heap.size := (by have := gr1.size; simp at this; omega)))
  go_ret2
  have hN1 := hN.out
  have hE1 := hE.out
  refine ⟨g1, cap1, by rw [hN1]; rfl, ?_, ((((Below.alloc (Below.refl _ _) (Nat.le_refl _) _).trans (hb.mono (by simp))).alloc (by omega) _).alloc (by simp; omega) _).grown gr1 (by simp; omega) (by intro x hx; simp [Value.ownBlock] at hx; omega)⟩
  rw [hN1, hE1]
  exact own1
set_option maxRecDepth 100000 in
set_option maxHeartbeats 1000000 in
theorem by24 (d a b n : Int) (w : World) (hc : chk 24 d a b n false = 0) (_d1 : 0 ≤ d) (_d2 : d ≤ 7) (_a1 : 0 ≤ a) (_a2 : a ≤ 7) (_b1 : 0 ≤ b) (_b2 : b ≤ 7) :
    Calls Tryd.prog 14 #[.agg #[.int .i64 24, .int .i64 d, .int .i64 a, .int .i64 b, .int .i64 n, .bool false]] w fun e w' => ∃ g cap, e = .returned (.tuple #[.slice (some ⟨g, 0, none⟩) (encL 24 d a b n false).length cap, .int .i64 0]) ∧ w'.ownsRow w.heap.size 5 1 (.slice (some ⟨g, 0, none⟩) (encL 24 d a b n false).length cap) (encL 24 d a b n false).length ((encL 24 d a b n false).map (Value.int .u8)) ∧ Below w.heap.size w w' := by
  have hcb : (chk 24 d a b n false == 0) = true := by simp [hc]
  clear hc
  have hE : Hid ((encL 24 d a b n false).map (Value.int .u8) = [99, a, n % 256].map (Value.int .u8)) := by
    show _ = _
    rw [show encL 24 d a b n false = [99, 16 * 0 + a, n % 256] from rfl]
    all_goals refine ints_eq ?_
    all_goals simp only [List.cons.injEq]
    all_goals repeat' apply And.intro
    all_goals first | trivial | omega
  have hN : Hid ((encL 24 d a b n false).length = 3) := rfl
  have eF : opF 24 = 99 := rfl
  have eL : opL 24 = 0 := rfl
  obtain ⟨i0, hi, hz0, hz1, hz2⟩ := info_parts info5
  go_enter Tryd.func14, Tryd.ntmps14
  go_wp2_with (first
    | (go_at_call 10; refine (fault_any 24 d a b n false _).mono ?_; rintro e w' ⟨rfl, hb⟩; obtain ⟨hc1, hf1⟩ := bcell hb; have hz : w.heap.size < w'.heap.size := (by have := hb.size; simp at this; omega))
    | (go_at_call 25; refine (rop_any 24 _ (by decide) (by decide)).mono ?_; rintro e w4 ⟨rfl, hw4⟩; obtain rfl := hw4.symm)
    | (go_at_call 31; refine (wrap_any n _ _ (by decide) (by decide)).mono ?_; rintro e w4 ⟨rfl, hw4⟩; obtain rfl := hw4.symm)
    | (at_builtin; refine wpList_append_lies _ rfl (.tmp 158) (.tmp 163) 29 rfl w.heap.size 5 i0 (.int .u8 0) 1 1 Tryd.underlying29 hi hz0 hz1 hz2 rfl (by decide) (.slice (some ⟨w'.heap.size, 0, none⟩) 1 1) 1 [.int .u8 99] rfl ((World.ownsRow_lit w' #[.int .u8 99] 1 (by omega) (by decide) rfl).alloc _) ⟨w'.heap.size + 1, 0, none⟩ 2 2 [.int .u8 (a), .int .u8 (n % 256)] rfl rfl (news_at (w'.alloc _) [.int .u8 (a), .int .u8 (n % 256)] 5 (w'.heap.size + 1) (by simp)) (bytes_one [a, n % 256]) (by decide) (by unfold maxLen; omega) (by omega) (by simp; omega) (w'.heap.size + 1 + 1) (by simp) ?_; intro g1 cap1 w51 own1 gr1 hat1 hlt1))
  go_ret2
  have hN1 := hN.out
  have hE1 := hE.out
  refine ⟨g1, cap1, by rw [hN1]; rfl, ?_, ((((Below.alloc (Below.refl _ _) (Nat.le_refl _) _).trans (hb.mono (by simp))).alloc (by omega) _).alloc (by simp; omega) _).grown gr1 (by simp; omega) (by intro x hx; simp [Value.ownBlock] at hx; omega)⟩
  rw [hN1, hE1]
  exact own1
set_option maxRecDepth 100000 in
set_option maxHeartbeats 1000000 in
theorem by21l (d a b n : Int) (w : World) (hc : chk 21 d a b n true = 0) (_d1 : 0 ≤ d) (_d2 : d ≤ 7) (_a1 : 0 ≤ a) (_a2 : a ≤ 7) (_b1 : 0 ≤ b) (_b2 : b ≤ 7) :
    Calls Tryd.prog 14 #[.agg #[.int .i64 21, .int .i64 d, .int .i64 a, .int .i64 b, .int .i64 n, .bool true]] w fun e w' => ∃ g cap, e = .returned (.tuple #[.slice (some ⟨g, 0, none⟩) (encL 21 d a b n true).length cap, .int .i64 0]) ∧ w'.ownsRow w.heap.size 5 1 (.slice (some ⟨g, 0, none⟩) (encL 21 d a b n true).length cap) (encL 21 d a b n true).length ((encL 21 d a b n true).map (Value.int .u8)) ∧ Below w.heap.size w w' := by
  have hcb : (chk 21 d a b n true == 0) = true := by simp [hc]
  clear hc
  have hE : Hid ((encL 21 d a b n true).map (Value.int .u8) = [87, (a * 16 + b), n % 256, n % 65536 / 256].map (Value.int .u8)) := by
    show _ = _
    rw [show encL 21 d a b n true = [87, 16 * a + b, n % 256, n / 256 % 256] from rfl]
    all_goals refine ints_eq ?_
    all_goals simp only [List.cons.injEq]
    all_goals repeat' apply And.intro
    all_goals first | trivial | omega
  have hN : Hid ((encL 21 d a b n true).length = 4) := rfl
  have eF : opF 21 = 83 := rfl
  have eL : opL 21 = 87 := rfl
  obtain ⟨i0, hi, hz0, hz1, hz2⟩ := info_parts info5
  go_enter Tryd.func14, Tryd.ntmps14
  go_wp2_with (first
    | (go_at_call 10; refine (fault_any 21 d a b n true _).mono ?_; rintro e w' ⟨rfl, hb⟩; obtain ⟨hc1, hf1⟩ := bcell hb; have hz : w.heap.size < w'.heap.size := (by have := hb.size; simp at this; omega))
    | (go_at_call 25; refine (rop_any 21 _ (by decide) (by decide)).mono ?_; rintro e w4 ⟨rfl, hw4⟩; obtain rfl := hw4.symm)
    | (go_at_call 31; refine (wrap_any n _ _ (by decide) (by decide)).mono ?_; rintro e w4 ⟨rfl, hw4⟩; obtain rfl := hw4.symm)
    | (at_builtin; refine wpList_append_lies _ rfl (.tmp 120) (.tmp 129) 29 rfl w.heap.size 5 i0 (.int .u8 0) 1 1 Tryd.underlying29 hi hz0 hz1 hz2 rfl (by decide) (.slice (some ⟨w'.heap.size, 0, none⟩) 1 1) 1 [.int .u8 87] rfl ((World.ownsRow_lit w' #[.int .u8 87] 1 (by omega) (by decide) rfl).alloc _) ⟨w'.heap.size + 1, 0, none⟩ 2 2 [.int .u8 ((a * 16 + b)), .int .u8 (n % 256)] rfl rfl (news_at (w'.alloc _) [.int .u8 ((a * 16 + b)), .int .u8 (n % 256)] 5 (w'.heap.size + 1) (by simp)) (bytes_one [(a * 16 + b), n % 256]) (by decide) (by unfold maxLen; omega) (by omega) (by simp; omega) (w'.heap.size + 1 + 1) (by simp) ?_; intro g1 cap1 w51 own1 gr1 hat1 hlt1; have hq1 := long_far hb gr1 (Nat.le_refl _) 5; have hz5 : w'.heap.size < w51.heap.size := (by have := gr1.size; simp at this; omega))
    | (at_builtin; refine wpList_append_lies _ rfl (.tmp 133) (.tmp 135) 29 rfl w.heap.size 5 i0 (.int .u8 0) 1 1 Tryd.underlying29 hi hz0 hz1 hz2 rfl (by decide) (.slice (some ⟨g1, 0, none⟩) 3 cap1) 3 [.int .u8 87, .int .u8 ((a * 16 + b)), .int .u8 (n % 256)] rfl (own1.alloc _) ⟨w51.heap.size, 0, none⟩ 1 1 [.int .u8 (n % 65536 / 256)] rfl rfl (news_at w51 [.int .u8 (n % 65536 / 256)] 5 w51.heap.size rfl) (bytes_one [n % 65536 / 256]) (by decide) (by unfold maxLen; omega) (by omega) (by simp; omega) (w51.heap.size + 1) (by simp) ?_; intro g2 cap2 w52 own2 gr2 hat2 hlt2))
  go_ret2
  have hN1 := hN.out
  have hE1 := hE.out
  have z5 : w'.heap.size < w51.heap.size := by have := gr1.size; simp at this; omega
  refine ⟨g2, cap2, by rw [hN1]; rfl, ?_, ((((((Below.alloc (Below.refl _ _) (Nat.le_refl _) _).trans (hb.mono (by simp))).alloc (by omega) _).alloc (by simp; omega) _).grown gr1 (by simp; omega) (by intro x hx; simp [Value.ownBlock] at hx; omega)).alloc (by omega) _).grown gr2 (by simp; omega) (by intro x hx; simp [Value.ownBlock] at hx; have h9 : w.heap.size ≤ g1 := (own1.lt g1 rfl).1; omega)⟩
  rw [hN1, hE1]
  exact own2
end Go.Proofs.YtkofnmeononlaaaDoor
