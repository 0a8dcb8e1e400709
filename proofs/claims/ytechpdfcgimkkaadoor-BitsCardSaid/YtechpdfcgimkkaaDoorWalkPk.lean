/-
  boltholekeep.picked.
-/
import Derived.Test.YtechpdfcgimkkaaDoorPureAny
import Derived.Test.YtechpdfcgimkkaaDoorTabs
import Derived.Deep.RegionHeld3
import Derived.Deep.DeepCutAuto
import Derived.Outline
namespace Go.Proofs.YtechpdfcgimkkaaDoor
open Go.RowKit Go.Joins Isa
set_option maxHeartbeats 400000 in
theorem picked_any (x m : Int) (w : World) (h0 : 0 < m) (_h1 : -9223372036854775808 ≤ x) (_h2 : x ≤ 9223372036854775807) : Calls Tryd.prog 19 #[.int .i64 x, .int .i64 m] w fun e w' => e = .returned (.int .i64 (pk x m)) ∧ w' = w := by
  have hm : (m == 0) = false := by simp; omega
  by_cases hx : x < 0
  · have hp : Hid (pk x m = -((x + 1).tmod m)) := by
      show _ = _
      rw [← Int.neg_tmod, Int.tmod_eq_emod_of_nonneg (by omega)]
      simp [pk, hx]
    go_enter Tryd.func19, Tryd.ntmps19
    go_wp2
    go_ret
    exact ⟨by rw [hp.out]; rfl, rfl⟩
  · have hp : Hid (pk x m = x % m) := by show _ = _; simp [pk, hx]
    go_enter Tryd.func19, Tryd.ntmps19
    go_wp2
    go_ret
    exact ⟨by rw [hp.out]; rfl, rfl⟩
end Go.Proofs.YtechpdfcgimkkaaDoor
