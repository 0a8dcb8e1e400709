/-
  isa.Check: what it answers is 'chk' of the instruction's numbers; nothing that was there is changed.
-/
import Derived.Test.YtechpdfcgimkkaaDoorTabs
import Derived.Outline
namespace Go.Proofs.YtechpdfcgimkkaaDoor
open Go.RowKit Isa
set_option maxHeartbeats 400000 in
theorem reg_any (x : Int) (w : World) : Calls Tryd.prog 120 #[.int .i64 x] w fun e w' => e = .returned (.bool (regB x)) ∧ w' = w := by
  unfold regB
  by_cases h0 : 0 ≤ x
  · have h1 : decide (0 ≤ x) = true := by simp [h0]
    rw [h1]
    go_enter Tryd.func120, Tryd.ntmps120
    go_wp2
    go_ret
    exact ⟨by simp, rfl⟩
  · have h1 : decide (0 ≤ x) = false := by simp [h0]
    rw [h1]
    go_enter Tryd.func120, Tryd.ntmps120
    go_wp2
    go_ret
    exact ⟨by simp, rfl⟩
set_option maxHeartbeats 400000 in
theorem has_any (u l t y x : Int) (w : World) : Calls Tryd.prog 128 #[.agg #[.int .i64 u, .int .i64 l, .int .i64 t, .int .i64 y], .int .i64 x] w fun e w' =>
    e = .returned (.bool (hasB u l t x)) ∧ w' = w.alloc (.cells #[.int .i64 u, .int .i64 l, .int .i64 t, .int .i64 y] 147) := by
  unfold hasB
  cases hu : u == x
  all_goals cases hl : l == x
  all_goals
    go_enter Tryd.func128, Tryd.ntmps128
    go_wp2
    go_ret
    exact ⟨by simp, rfl⟩
set_option maxHeartbeats 400000 in
theorem width_any (k d a b n : Int) (l : Bool) (w : World) (h1 : 1 ≤ k) (h2 : k ≤ 24) (ht : Tabs w) :
    Calls Tryd.prog 113 #[.agg #[.int .i64 k, .int .i64 d, .int .i64 a, .int .i64 b, .int .i64 n, .bool l]] w fun e w' => e = .returned (.int .i64 (wid k l)) ∧ w' = w.alloc (.cells #[.int .i64 k, .int .i64 d, .int .i64 a, .int .i64 b, .int .i64 n, .bool l] 61) := by
  obtain ⟨_, _, c1⟩ := ht.op k (by omega) h2
  obtain ⟨_, _, _, c2⟩ := ht.sh k (by omega) h2
  have z1 := ht.sz
  have z0 : 0 < w.heap.size := by omega
  have s1 := opS_lo h1 h2
  have s2 := opS_hi h1 h2
  unfold wid
  cases l
  all_goals
    go_enter Tryd.func113, Tryd.ntmps113
    go_wp2
    go_ret
    exact ⟨by simp, rfl⟩
set_option maxHeartbeats 1000000 in
theorem form_any (k d a b n : Int) (l : Bool) (w : World) (h1 : 1 ≤ k) (h2 : k ≤ 24) (ht : Tabs w) :
    Calls Tryd.prog 119 #[.agg #[.int .i64 k, .int .i64 d, .int .i64 a, .int .i64 b, .int .i64 n, .bool l]] w fun e w' => e = .returned (.bool (formB k d a b n l)) ∧ Below w.heap.size w w' := by
  obtain ⟨c1, c2, c3⟩ := ht.op k (by omega) h2
  obtain ⟨c4, c5, c6, c7⟩ := ht.sh k (by omega) h2
  have z1 := ht.sz
  have z0 : 0 < w.heap.size := by omega
  have s1 := opS_lo h1 h2
  have s2 := opS_hi h1 h2
  go_enter Tryd.func119, Tryd.ntmps119
  go_wp2_with (go_at_call 128; refine (has_any _ _ _ _ _ _).mono ?_; rintro e w' ⟨rfl, rfl⟩)
  all_goals
    go_light
    go_ret
    refine ⟨congrArg (fun x => Ending.returned (Value.bool x)) ?_, by go_grown⟩
    simp [formB, rD, rA, rB, rN, rL, *] <;> omega
end Go.Proofs.YtechpdfcgimkkaaDoor
