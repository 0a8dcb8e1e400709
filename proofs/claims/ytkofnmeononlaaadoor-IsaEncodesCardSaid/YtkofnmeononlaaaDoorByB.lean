/-
  boltholeref.BytesOf (P1.2), a kind a theorem: the bytes that it answers are 'encL'.
-/
import Derived.Test.YtkofnmeononlaaaDoorWalkBy
namespace Go.Proofs.YtkofnmeononlaaaDoor
open Go.RowKit Go.Joins Isa
set_option maxRecDepth 100000 in
set_option maxHeartbeats 1000000 in
theorem by2 (d a b n : Int) (w : World) (hc : chk 2 d a b n false = 0) (_d1 : 0 ≤ d) (_d2 : d ≤ 7) (_a1 : 0 ≤ a) (_a2 : a ≤ 7) (_b1 : 0 ≤ b) (_b2 : b ≤ 7) :
    Calls Tryd.prog 14 #[.agg #[.int .i64 2, .int .i64 d, .int .i64 a, .int .i64 b, .int .i64 n, .bool false]] w fun e w' => ∃ g cap, e = .returned (.tuple #[.slice (some ⟨g, 0, none⟩) (encL 2 d a b n false).length cap, .int .i64 0]) ∧ w'.ownsRow w.heap.size 5 1 (.slice (some ⟨g, 0, none⟩) (encL 2 d a b n false).length cap) (encL 2 d a b n false).length ((encL 2 d a b n false).map (Value.int .u8)) ∧ Below w.heap.size w w' := by
  have hcb : (chk 2 d a b n false == 0) = true := by simp [hc]
  clear hc
  have hE : Hid ((encL 2 d a b n false).map (Value.int .u8) = [1].map (Value.int .u8)) := by
    show _ = _
    rw [show encL 2 d a b n false = [1] from rfl]
  have hN : Hid ((encL 2 d a b n false).length = 1) := rfl
  have eF : opF 2 = 1 := rfl
  have eL : opL 2 = 0 := rfl
  obtain ⟨i0, hi, hz0, hz1, hz2⟩ := info_parts info5
  go_enter Tryd.func14, Tryd.ntmps14
  go_wp2_with (first
    | (go_at_call 10; refine (fault_any 2 d a b n false _).mono ?_; rintro e w' ⟨rfl, hb⟩; obtain ⟨hc1, hf1⟩ := bcell hb; have hz : w.heap.size < w'.heap.size := (by have := hb.size; simp at this; omega))
    | (go_at_call 25; refine (rop_any 2 _ (by decide) (by decide)).mono ?_; rintro e w4 ⟨rfl, hw4⟩; obtain rfl := hw4.symm)
    | (go_at_call 31; refine (wrap_any n _ _ (by decide) (by decide)).mono ?_; rintro e w4 ⟨rfl, hw4⟩; obtain rfl := hw4.symm))
  go_ret2
  have hN1 := hN.out
  have hE1 := hE.out
  refine ⟨w'.heap.size, 1, by rw [hN1]; rfl, ?_, ((Below.alloc (Below.refl _ _) (Nat.le_refl _) _).trans (hb.mono (by simp))).alloc (by omega) _⟩
  rw [hN1, hE1]
  exact World.ownsRow_lit w' #[.int .u8 1] 1 (by omega) (by decide) rfl
set_option maxRecDepth 100000 in
set_option maxHeartbeats 1000000 in
theorem by6 (d a b n : Int) (w : World) (hc : chk 6 d a b n false = 0) (_d1 : 0 ≤ d) (_d2 : d ≤ 7) (_a1 : 0 ≤ a) (_a2 : a ≤ 7) (_b1 : 0 ≤ b) (_b2 : b ≤ 7) :
    Calls Tryd.prog 14 #[.agg #[.int .i64 6, .int .i64 d, .int .i64 a, .int .i64 b, .int .i64 n, .bool false]] w fun e w' => ∃ g cap, e = .returned (.tuple #[.slice (some ⟨g, 0, none⟩) (encL 6 d a b n false).length cap, .int .i64 0]) ∧ w'.ownsRow w.heap.size 5 1 (.slice (some ⟨g, 0, none⟩) (encL 6 d a b n false).length cap) (encL 6 d a b n false).length ((encL 6 d a b n false).map (Value.int .u8)) ∧ Below w.heap.size w w' := by
  have hcb : (chk 6 d a b n false == 0) = true := by simp [hc]
  clear hc
  have hE : Hid ((encL 6 d a b n false).map (Value.int .u8) = [17, (d * 16 + a), n % 256].map (Value.int .u8)) := by
    show _ = _
    rw [show encL 6 d a b n false = [17, 16 * d + a, n % 256] from rfl]
    all_goals refine ints_eq ?_
    all_goals simp only [List.cons.injEq]
    all_goals repeat' apply And.intro
    all_goals first | trivial | omega
  have hN : Hid ((encL 6 d a b n false).length = 3) := rfl
  have eF : opF 6 = 17 := rfl
  have eL : opL 6 = 0 := rfl
  obtain ⟨i0, hi, hz0, hz1, hz2⟩ := info_parts info5
  go_enter Tryd.func14, Tryd.ntmps14
  go_wp2_with (first
    | (go_at_call 10; refine (fault_any 6 d a b n false _).mono ?_; rintro e w' ⟨rfl, hb⟩; obtain ⟨hc1, hf1⟩ := bcell hb; have hz : w.heap.size < w'.heap.size := (by have := hb.size; simp at this; omega))
    | (go_at_call 25; refine (rop_any 6 _ (by decide) (by decide)).mono ?_; rintro e w4 ⟨rfl, hw4⟩; obtain rfl := hw4.symm)
    | (go_at_call 31; refine (wrap_any n _ _ (by decide) (by decide)).mono ?_; rintro e w4 ⟨rfl, hw4⟩; obtain rfl := hw4.symm)
    | (at_builtin; refine wpList_append_lies _ rfl (.tmp 75) (.tmp 84) 29 rfl w.heap.size 5 i0 (.int .u8 0) 1 1 Tryd.underlying29 hi hz0 hz1 hz2 rfl (by decide) (.slice (some ⟨w'.heap.size, 0, none⟩) 1 1) 1 [.int .u8 17] rfl ((World.ownsRow_lit w' #[.int .u8 17] 1 (by omega) (by decide) rfl).alloc _) ⟨w'.heap.size + 1, 0, none⟩ 2 2 [.int .u8 ((d * 16 + a)), .int .u8 (n % 256)] rfl rfl (news_at (w'.alloc _) [.int .u8 ((d * 16 + a)), .int .u8 (n % 256)] 5 (w'.heap.size + 1) (by simp)) (bytes_one [(d * 16 + a), n % 256]) (by decide) (by unfold maxLen; omega) (by omega) (by simp; omega) (w'.heap.size + 1 + 1) (by simp) ?_; intro g1 cap1 w51 own1 gr1 hat1 hlt1))
  go_ret2
  have hN1 := hN.out
  have hE1 := hE.out
  refine ⟨g1, cap1, by rw [hN1]; rfl, ?_, ((((Below.alloc (Below.refl _ _) (Nat.le_refl _) _).trans (hb.mono (by simp))).alloc (by omega) _).alloc (by simp; omega) _).grown gr1 (by simp; omega) (by intro x hx; simp [Value.ownBlock] at hx; omega)⟩
  rw [hN1, hE1]
  exact own1
set_option maxRecDepth 100000 in
set_option maxHeartbeats 1000000 in
theorem by10 (d a b n : Int) (w : World) (hc : chk 10 d a b n false = 0) (_d1 : 0 ≤ d) (_d2 : d ≤ 7) (_a1 : 0 ≤ a) (_a2 : a ≤ 7) (_b1 : 0 ≤ b) (_b2 : b ≤ 7) :
    Calls Tryd.prog 14 #[.agg #[.int .i64 10, .int .i64 d, .int .i64 a, .int .i64 b, .int .i64 n, .bool false]] w fun e w' => ∃ g cap, e = .returned (.tuple #[.slice (some ⟨g, 0, none⟩) (encL 10 d a b n false).length cap, .int .i64 0]) ∧ w'.ownsRow w.heap.size 5 1 (.slice (some ⟨g, 0, none⟩) (encL 10 d a b n false).length cap) (encL 10 d a b n false).length ((encL 10 d a b n false).map (Value.int .u8)) ∧ Below w.heap.size w w' := by
  have hcb : (chk 10 d a b n false == 0) = true := by simp [hc]
  clear hc
  have hE : Hid ((encL 10 d a b n false).map (Value.int .u8) = [35, (d * 16 + a), b].map (Value.int .u8)) := by
    show _ = _
    rw [show encL 10 d a b n false = [35, 16 * d + a, b] from rfl]
    all_goals refine ints_eq ?_
    all_goals simp only [List.cons.injEq]
    all_goals repeat' apply And.intro
    all_goals first | trivial | omega
  have hN : Hid ((encL 10 d a b n false).length = 3) := rfl
  have eF : opF 10 = 35 := rfl
  have eL : opL 10 = 0 := rfl
  obtain ⟨i0, hi, hz0, hz1, hz2⟩ := info_parts info5
  go_enter Tryd.func14, Tryd.ntmps14
  go_wp2_with (first
    | (go_at_call 10; refine (fault_any 10 d a b n false _).mono ?_; rintro e w' ⟨rfl, hb⟩; obtain ⟨hc1, hf1⟩ := bcell hb; have hz : w.heap.size < w'.heap.size := (by have := hb.size; simp at this; omega))
    | (go_at_call 25; refine (rop_any 10 _ (by decide) (by decide)).mono ?_; rintro e w4 ⟨rfl, hw4⟩; obtain rfl := hw4.symm)
    | (go_at_call 31; refine (wrap_any n _ _ (by decide) (by decide)).mono ?_; rintro e w4 ⟨rfl, hw4⟩; obtain rfl := hw4.symm)
    | (at_builtin; refine wpList_append_lies _ rfl (.tmp 44) (.tmp 55) 29 rfl w.heap.size 5 i0 (.int .u8 0) 1 1 Tryd.underlying29 hi hz0 hz1 hz2 rfl (by decide) (.slice (some ⟨w'.heap.size, 0, none⟩) 1 1) 1 [.int .u8 35] rfl ((World.ownsRow_lit w' #[.int .u8 35] 1 (by omega) (by decide) rfl).alloc _) ⟨w'.heap.size + 1, 0, none⟩ 2 2 [.int .u8 ((d * 16 + a)), .int .u8 (b)] rfl rfl (news_at (w'.alloc _) [.int .u8 ((d * 16 + a)), .int .u8 (b)] 5 (w'.heap.size + 1) (by simp)) (bytes_one [(d * 16 + a), b]) (by decide) (by unfold maxLen; omega) (by omega) (by simp; omega) (w'.heap.size + 1 + 1) (by simp) ?_; intro g1 cap1 w51 own1 gr1 hat1 hlt1))
  go_ret2
  have hN1 := hN.out
  have hE1 := hE.out
  refine ⟨g1, cap1, by rw [hN1]; rfl, ?_, ((((Below.alloc (Below.refl _ _) (Nat.le_refl _) _).trans (hb.mono (by simp))).alloc (by omega) _).alloc (by simp; omega) _).grown gr1 (by simp; omega) (by intro x hx; simp [Value.ownBlock] at hx; omega)⟩
  rw [hN1, hE1]
  exact own1
set_option maxRecDepth 100000 in
set_option maxHeartbeats 1000000 in
theorem by14 (d a b n : Int) (w : World) (hc : chk 14 d a b n false = 0) (_d1 : 0 ≤ d) (_d2 : d ≤ 7) (_a1 : 0 ≤ a) (_a2 : a ≤ 7) (_b1 : 0 ≤ b) (_b2 : b ≤ 7) :
    Calls Tryd.prog 14 #[.agg #[.int .i64 14, .int .i64 d, .int .i64 a, .int .i64 b, .int .i64 n, .bool false]] w fun e w' => ∃ g cap, e = .returned (.tuple #[.slice (some ⟨g, 0, none⟩) (encL 14 d a b n false).length cap, .int .i64 0]) ∧ w'.ownsRow w.heap.size 5 1 (.slice (some ⟨g, 0, none⟩) (encL 14 d a b n false).length cap) (encL 14 d a b n false).length ((encL 14 d a b n false).map (Value.int .u8)) ∧ Below w.heap.size w w' := by
  have hcb : (chk 14 d a b n false == 0) = true := by simp [hc]
  clear hc
  have hE : Hid ((encL 14 d a b n false).map (Value.int .u8) = [48, (d * 16 + a), n % 256].map (Value.int .u8)) := by
    show _ = _
    rw [show encL 14 d a b n false = [48, 16 * d + a, n % 256] from rfl]
    all_goals refine ints_eq ?_
    all_goals simp only [List.cons.injEq]
    all_goals repeat' apply And.intro
    all_goals first | trivial | omega
  have hN : Hid ((encL 14 d a b n false).length = 3) := rfl
  have eF : opF 14 = 48 := rfl
  have eL : opL 14 = 0 := rfl
  obtain ⟨i0, hi, hz0, hz1, hz2⟩ := info_parts info5
  go_enter Tryd.func14, Tryd.ntmps14
  go_wp2_with (first
    | (go_at_call 10; refine (fault_any 14 d a b n false _).mono ?_; rintro e w' ⟨rfl, hb⟩; obtain ⟨hc1, hf1⟩ := bcell hb; have hz : w.heap.size < w'.heap.size := (by have := hb.size; simp at this; omega))
    | (go_at_call 25; refine (rop_any 14 _ (by decide) (by decide)).mono ?_; rintro e w4 ⟨rfl, hw4⟩; obtain rfl := hw4.symm)
    | (go_at_call 31; refine (wrap_any n _ _ (by decide) (by decide)).mono ?_; rintro e w4 ⟨rfl, hw4⟩; obtain rfl := hw4.symm)
    | (at_builtin; refine wpList_append_lies _ rfl (.tmp 75) (.tmp 84) 29 rfl w.heap.size 5 i0 (.int .u8 0) 1 1 Tryd.underlying29 hi hz0 hz1 hz2 rfl (by decide) (.slice (some ⟨w'.heap.size, 0, none⟩) 1 1) 1 [.int .u8 48] rfl ((World.ownsRow_lit w' #[.int .u8 48] 1 (by omega) (by decide) rfl).alloc _) ⟨w'.heap.size + 1, 0, none⟩ 2 2 [.int .u8 ((d * 16 + a)), .int .u8 (n % 256)] rfl rfl (news_at (w'.alloc _) [.int .u8 ((d * 16 + a)), .int .u8 (n % 256)] 5 (w'.heap.size + 1) (by simp)) (bytes_one [(d * 16 + a), n % 256]) (by decide) (by unfold maxLen; omega) (by omega) (by simp; omega) (w'.heap.size + 1 + 1) (by simp) ?_; intro g1 cap1 w51 own1 gr1 hat1 hlt1))
  go_ret2
  have hN1 := hN.out
  have hE1 := hE.out
  refine ⟨g1, cap1, by rw [hN1]; rfl, ?_, ((((Below.alloc (Below.refl _ _) (Nat.le_refl _) _).trans (hb.mono (by simp))).alloc (by omega) _).alloc (by simp; omega) _).grown gr1 (by simp; omega) (by intro x hx; simp [Value.ownBlock] at hx; omega)⟩
  rw [hN1, hE1]
  exact own1
set_option maxRecDepth 100000 in
set_option maxHeartbeats 1000000 in
theorem by18 (d a b n : Int) (w : World) (hc : chk 18 d a b n false = 0) (_d1 : 0 ≤ d) (_d2 : d ≤ 7) (_a1 : 0 ≤ a) (_a2 : a ≤ 7) (_b1 : 0 ≤ b) (_b2 : b ≤ 7) :
    Calls Tryd.prog 14 #[.agg #[.int .i64 18, .int .i64 d, .int .i64 a, .int .i64 b, .int .i64 n, .bool false]] w fun e w' => ∃ g cap, e = .returned (.tuple #[.slice (some ⟨g, 0, none⟩) (encL 18 d a b n false).length cap, .int .i64 0]) ∧ w'.ownsRow w.heap.size 5 1 (.slice (some ⟨g, 0, none⟩) (encL 18 d a b n false).length cap) (encL 18 d a b n false).length ((encL 18 d a b n false).map (Value.int .u8)) ∧ Below w.heap.size w w' := by
  have hcb : (chk 18 d a b n false == 0) = true := by simp [hc]
  clear hc
  have hE : Hid ((encL 18 d a b n false).map (Value.int .u8) = [80, (a * 16 + b), n % 256].map (Value.int .u8)) := by
    show _ = _
    rw [show encL 18 d a b n false = [80, 16 * a + b, n % 256] from rfl]
    all_goals refine ints_eq ?_
    all_goals simp only [List.cons.injEq]
    all_goals repeat' apply And.intro
    all_goals first | trivial | omega
  have hN : Hid ((encL 18 d a b n false).length = 3) := rfl
  have eF : opF 18 = 80 := rfl
  have eL : opL 18 = 84 := rfl
  obtain ⟨i0, hi, hz0, hz1, hz2⟩ := info_parts info5
  go_enter Tryd.func14, Tryd.ntmps14
  go_wp2_with (first
    | (go_at_call 10; refine (fault_any 18 d a b n false _).mono ?_; rintro e w' ⟨rfl, hb⟩; obtain ⟨hc1, hf1⟩ := bcell hb; have hz : w.heap.size < w'.heap.size := (by have := hb.size; simp at this; omega))
    | (go_at_call 25; refine (rop_any 18 _ (by decide) (by decide)).mono ?_; rintro e w4 ⟨rfl, hw4⟩; obtain rfl := hw4.symm)
    | (go_at_call 31; refine (wrap_any n _ _ (by decide) (by decide)).mono ?_; rintro e w4 ⟨rfl, hw4⟩; obtain rfl := hw4.symm)
    | (at_builtin; refine wpList_append_lies _ rfl (.tmp 120) (.tmp 129) 29 rfl w.heap.size 5 i0 (.int .u8 0) 1 1 Tryd.underlying29 hi hz0 hz1 hz2 rfl (by decide) (.slice (some ⟨w'.heap.size, 0, none⟩) 1 1) 1 [.int .u8 80] rfl ((World.ownsRow_lit w' #[.int .u8 80] 1 (by omega) (by decide) rfl).alloc _) ⟨w'.heap.size + 1, 0, none⟩ 2 2 [.int .u8 ((a * 16 + b)), .int .u8 (n % 256)] rfl rfl (news_at (w'.alloc _) [.int .u8 ((a * 16 + b)), .int .u8 (n % 256)] 5 (w'.heap.size + 1) (by simp)) (bytes_one [(a * 16 + b), n % 256]) (by decide) (by unfold maxLen; omega) (by omega) (by simp; omega) (w'.heap.size + 1 + 1) (by simp) ?_; intro g1 cap1 w51 own1 gr1 hat1 hlt1; have hq1 := long_far hb gr1 (Nat.le_refl _) 5; have hz5 : w'.heap.size < w51.heap.size := (by have := gr1.size; simp at this; omega)))
  go_ret2
  have hN1 := hN.out
  have hE1 := hE.out
  refine ⟨g1, cap1, by rw [hN1]; rfl, ?_, ((((Below.alloc (Below.refl _ _) (Nat.le_refl _) _).trans (hb.mono (by simp))).alloc (by omega) _).alloc (by simp; omega) _).grown gr1 (by simp; omega) (by intro x hx; simp [Value.ownBlock] at hx; omega)⟩
  rw [hN1, hE1]
  exact own1
set_option maxRecDepth 100000 in
set_option maxHeartbeats 1000000 in
theorem by22 (d a b n : Int) (w : World) (hc : chk 22 d a b n false = 0) (_d1 : 0 ≤ d) (_d2 : d ≤ 7) (_a1 : 0 ≤ a) (_a2 : a ≤ 7) (_b1 : 0 ≤ b) (_b2 : b ≤ 7) :
    Calls Tryd.prog 14 #[.agg #[.int .i64 22, .int .i64 d, .int .i64 a, .int .i64 b, .int .i64 n, .bool false]] w fun e w' => ∃ g cap, e = .returned (.tuple #[.slice (some ⟨g, 0, none⟩) (encL 22 d a b n false).length cap, .int .i64 0]) ∧ w'.ownsRow w.heap.size 5 1 (.slice (some ⟨g, 0, none⟩) (encL 22 d a b n false).length cap) (encL 22 d a b n false).length ((encL 22 d a b n false).map (Value.int .u8)) ∧ Below w.heap.size w w' := by
  have hcb : (chk 22 d a b n false == 0) = true := by simp [hc]
  clear hc
  have hE : Hid ((encL 22 d a b n false).map (Value.int .u8) = [96, n % 256].map (Value.int .u8)) := by
    show _ = _
    rw [show encL 22 d a b n false = [96, n % 256] from rfl]
    all_goals refine ints_eq ?_
    all_goals simp only [List.cons.injEq]
    all_goals repeat' apply And.intro
    all_goals first | trivial | omega
  have hN : Hid ((encL 22 d a b n false).length = 2) := rfl
  have eF : opF 22 = 96 := rfl
  have eL : opL 22 = 97 := rfl
  obtain ⟨i0, hi, hz0, hz1, hz2⟩ := info_parts info5
  go_enter Tryd.func14, Tryd.ntmps14
  go_wp2_with (first
    | (go_at_call 10; refine (fault_any 22 d a b n false _).mono ?_; rintro e w' ⟨rfl, hb⟩; obtain ⟨hc1, hf1⟩ := bcell hb; have hz : w.heap.size < w'.heap.size := (by have := hb.size; simp at this; omega))
    | (go_at_call 25; refine (rop_any 22 _ (by decide) (by decide)).mono ?_; rintro e w4 ⟨rfl, hw4⟩; obtain rfl := hw4.symm)
    | (go_at_call 31; refine (wrap_any n _ _ (by decide) (by decide)).mono ?_; rintro e w4 ⟨rfl, hw4⟩; obtain rfl := hw4.symm)
    | (at_builtin; refine wpList_append_lies _ rfl (.tmp 139) (.tmp 141) 29 rfl w.heap.size 5 i0 (.int .u8 0) 1 1 Tryd.underlying29 hi hz0 hz1 hz2 rfl (by decide) (.slice (some ⟨w'.heap.size, 0, none⟩) 1 1) 1 [.int .u8 96] rfl ((World.ownsRow_lit w' #[.int .u8 96] 1 (by omega) (by decide) rfl).alloc _) ⟨w'.heap.size + 1, 0, none⟩ 1 1 [.int .u8 (n % 256)] rfl rfl (news_at (w'.alloc _) [.int .u8 (n % 256)] 5 (w'.heap.size + 1) (by simp)) (bytes_one [n % 256]) (by decide) (by unfold maxLen; omega) (by omega) (by simp; omega) (w'.heap.size + 1 + 1) (by simp) ?_; intro g1 cap1 w51 own1 gr1 hat1 hlt1; have hq1 := long_far hb gr1 (Nat.le_refl _) 5; have hz5 : w'.heap.size < w51.heap.size := (by have := gr1.size; simp at this; omega)))
  go_ret2
  have hN1 := hN.out
  have hE1 := hE.out
  refine ⟨g1, cap1, by rw [hN1]; rfl, ?_, ((((Below.alloc (Below.refl _ _) (Nat.le_refl _) _).trans (hb.mono (by simp))).alloc (by omega) _).alloc (by simp; omega) _).grown gr1 (by simp; omega) (by intro x hx; simp [Value.ownBlock] at hx; omega)⟩
  rw [hN1, hE1]
  exact own1
set_option maxRecDepth 100000 in
set_option maxHeartbeats 1000000 in
theorem by19l (d a b n : Int) (w : World) (hc : chk 19 d a b n true = 0) (_d1 : 0 ≤ d) (_d2 : d ≤ 7) (_a1 : 0 ≤ a) (_a2 : a ≤ 7) (_b1 : 0 ≤ b) (_b2 : b ≤ 7) :
    Calls Tryd.prog 14 #[.agg #[.int .i64 19, .int .i64 d, .int .i64 a, .int .i64 b, .int .i64 n, .bool true]] w fun e w' => ∃ g cap, e = .returned (.tuple #[.slice (some ⟨g, 0, none⟩) (encL 19 d a b n true).length cap, .int .i64 0]) ∧ w'.ownsRow w.heap.size 5 1 (.slice (some ⟨g, 0, none⟩) (encL 19 d a b n true).length cap) (encL 19 d a b n true).length ((encL 19 d a b n true).map (Value.int .u8)) ∧ Below w.heap.size w w' := by
  have hcb : (chk 19 d a b n true == 0) = true := by simp [hc]
  clear hc
  have hE : Hid ((encL 19 d a b n true).map (Value.int .u8) = [85, (a * 16 + b), n % 256, n % 65536 / 256].map (Value.int .u8)) := by
    show _ = _
    rw [show encL 19 d a b n true = [85, 16 * a + b, n % 256, n / 256 % 256] from rfl]
    all_goals refine ints_eq ?_
    all_goals simp only [List.cons.injEq]
    all_goals repeat' apply And.intro
    all_goals first | trivial | omega
  have hN : Hid ((encL 19 d a b n true).length = 4) := rfl
  have eF : opF 19 = 81 := rfl
  have eL : opL 19 = 85 := rfl
  obtain ⟨i0, hi, hz0, hz1, hz2⟩ := info_parts info5
  go_enter Tryd.func14, Tryd.ntmps14
  go_wp2_with (first
    | (go_at_call 10; refine (fault_any 19 d a b n true _).mono ?_; rintro e w' ⟨rfl, hb⟩; obtain ⟨hc1, hf1⟩ := bcell hb; have hz : w.heap.size < w'.heap.size := (by have := hb.size; simp at this; omega))
    | (go_at_call 25; refine (rop_any 19 _ (by decide) (by decide)).mono ?_; rintro e w4 ⟨rfl, hw4⟩; obtain rfl := hw4.symm)
    | (go_at_call 31; refine (wrap_any n _ _ (by decide) (by decide)).mono ?_; rintro e w4 ⟨rfl, hw4⟩; obtain rfl := hw4.symm)
    | (at_builtin; refine wpList_append_lies _ rfl (.tmp 120) (.tmp 129) 29 rfl w.heap.size 5 i0 (.int .u8 0) 1 1 Tryd.underlying29 hi hz0 hz1 hz2 rfl (by decide) (.slice (some ⟨w'.heap.size, 0, none⟩) 1 1) 1 [.int .u8 85] rfl ((World.ownsRow_lit w' #[.int .u8 85] 1 (by omega) (by decide) rfl).alloc _) ⟨w'.heap.size + 1, 0, none⟩ 2 2 [.int .u8 ((a * 16 + b)), .int .u8 (n % 256)] rfl rfl (news_at (w'.alloc _) [.int .u8 ((a * 16 + b)), .int .u8 (n % 256)] 5 (w'.heap.size + 1) (by simp)) (bytes_one [(a * 16 + b), n % 256]) (by decide) (by unfold maxLen; omega) (by omega) (by simp; omega) (w'.heap.size + 1 + 1) (by simp) ?_; intro g1 cap1 w51 own1 gr1 hat1 hlt1; have hq1 := long_far hb gr1 (Nat.le_refl _) 5; have hz5 : w'.heap.size < w51.heap.size := (by have := gr1.size; simp at this; omega))
    | (at_builtin; refine wpList_append_lies _ rfl (.tmp 133) (.tmp 135) 29 rfl w.heap.size 5 i0 (.int .u8 0) 1 1 Tryd.underlying29 hi hz0 hz1 hz2 rfl (by decide) (.slice (some ⟨g1, 0, none⟩) 3 cap1) 3 [.int .u8 85, .int .u8 ((a * 16 + b)), .int .u8 (n % 256)] rfl (own1.alloc _) ⟨w51.heap.size, 0, none⟩ 1 1 [.int .u8 (n % 65536 / 256)] rfl rfl (news_at w51 [.int .u8 (n % 65536 / 256)] 5 w51.heap.size rfl) (bytes_one [n % 65536 / 256]) (by decide) (by unfold maxLen; omega) (by omega) (by simp; omega) (w51.heap.size + 1) (by simp) ?_; intro g2 cap2 w52 own2 gr2 hat2 hlt2))
  go_ret2
  have hN1 := hN.out
  have hE1 := hE.out
  have z5 : w'.heap.size < w51.heap.size := by have := gr1.size; simp at this; omega
  refine ⟨g2, cap2, by rw [hN1]; rfl, ?_, ((((((Below.alloc (Below.refl _ _) (Nat.le_refl _) _).trans (hb.mono (by simp))).alloc (by omega) _).alloc (by simp; omega) _).grown gr1 (by simp; omega) (by intro x hx; simp [Value.ownBlock] at hx; omega)).alloc (by omega) _).grown gr2 (by simp; omega) (by intro x hx; simp [Value.ownBlock] at hx; have h9 : w.heap.size ≤ g1 := (own1.lt g1 rfl).1; omega)⟩
  rw [hN1, hE1]
  exact own2
end Go.Proofs.YtkofnmeononlaaaDoor
