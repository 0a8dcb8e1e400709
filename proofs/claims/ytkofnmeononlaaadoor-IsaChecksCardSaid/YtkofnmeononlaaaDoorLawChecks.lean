/-
  The call of boltholelaw.IsaChecks returns true at every instruction: isa.Check and boltholeref.InstrFault answer one number.
-/
import Derived.Test.YtkofnmeononlaaaDoorWalkA2
import Derived.Test.YtkofnmeononlaaaDoorWalkB2
namespace Go.Proofs.YtkofnmeononlaaaDoor
open Go.RowKit Isa
set_option maxHeartbeats 400000 in
theorem checks_law (k d a b n : Int) (l : Bool) (w : World) (ht : Tabs w) :
    Calls Tryd.prog 3 #[.agg #[.int .i64 k, .int .i64 d, .int .i64 a, .int .i64 b, .int .i64 n, .bool l]] w fun e w' => e = .returned (.bool true) ∧ Below w.heap.size w w' := by
  have ht1 : ∀ o, Tabs (w.alloc o) := fun o => ht.below ht.sz ((Below.refl _ _).alloc (Nat.le_refl _) o)
  have z1 := ht.sz
  have H1 : Hid (∀ o, Tabs (w.alloc o)) := ht1
  clear ht1
  go_enter Tryd.func3, Tryd.ntmps3
  go_wp2_with (first | (go_at_call 9; refine (check_any k d a b n l _ (H1.out _)).mono ?_; rintro e w' ⟨rfl, hb⟩; obtain ⟨hc1, hf1⟩ := bcell hb; have hz : w.heap.size < w'.heap.size := by (have := hb.size; simp at this; omega)) | (go_at_call 10; refine (fault_any k d a b n l _).mono ?_; rintro e w3 ⟨rfl, hb3⟩))
  go_ret
  exact ⟨by simp, ((Below.alloc (Below.refl _ _) (Nat.le_refl _) _).trans (hb.mono (by simp))).trans (hb3.mono (by omega))⟩
end Go.Proofs.YtkofnmeononlaaaDoor
