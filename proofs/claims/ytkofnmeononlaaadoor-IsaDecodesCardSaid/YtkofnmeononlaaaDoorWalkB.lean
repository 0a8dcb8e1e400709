/-
  boltholeref's functions on one instruction (P1.1, P1.2): each answers what the plain functions say.
-/
import Derived.Test.YtkofnmeononlaaaDoorTabs
import Derived.Outline
import Derived.Deep.DeepCutAuto
namespace Go.Proofs.YtkofnmeononlaaaDoor
open Go.RowKit Isa
set_option maxHeartbeats 400000 in
theorem rin_any (x y z : Int) (w : World) : Calls Tryd.prog 23 #[.int .i64 x, .int .i64 y, .int .i64 z] w fun e w' => e = .returned (.bool (inB x y z)) ∧ w' = w := by
  unfold inB
  by_cases h0 : y ≤ x
  all_goals
    simp only [h0, decide_true, decide_false, Bool.true_and, Bool.false_and]
    go_enter Tryd.func23, Tryd.ntmps23
    go_wp2
    go_ret
    exact ⟨by simp, rfl⟩
set_option maxHeartbeats 4000000 in
theorem rhas_any (k : Int) (w : World) (h1 : 1 ≤ k) (h2 : k ≤ 24) : Calls Tryd.prog 24 #[.int .i64 k] w fun e w' => e = .returned (.tuple #[.bool (rD k), .bool (rA k), .bool (rB k), .bool (rN k)]) ∧ w' = w := by
  rcases kinds h1 h2 with rfl | rfl | rfl | rfl | rfl | rfl | rfl | rfl | rfl | rfl | rfl | rfl | rfl | rfl | rfl | rfl | rfl | rfl | rfl | rfl | rfl | rfl | rfl | rfl
  all_goals
    clear h1 h2
    go_enter Tryd.func24, Tryd.ntmps24
    go_wp2
    refine bodyPost_ret (by simp [results, Tryd.results24, go_sem]; rfl) rfl ⟨?_, rfl⟩
    rfl
set_option maxHeartbeats 4000000 in
theorem rop_any (k : Int) (w : World) (h1 : 1 ≤ k) (h2 : k ≤ 24) : Calls Tryd.prog 25 #[.int .i64 k] w fun e w' => e = .returned (.tuple #[.int .i64 (opF k), .int .i64 (opL k)]) ∧ w' = w := by
  rcases kinds h1 h2 with rfl | rfl | rfl | rfl | rfl | rfl | rfl | rfl | rfl | rfl | rfl | rfl | rfl | rfl | rfl | rfl | rfl | rfl | rfl | rfl | rfl | rfl | rfl | rfl
  all_goals
    clear h1 h2
    go_enter Tryd.func25, Tryd.ntmps25
    go_wp2
    go_ret2
    exact ⟨rfl, rfl⟩
end Go.Proofs.YtkofnmeononlaaaDoor
