/-
  The call of boltholelaw.IsaEncodes returns true at every instruction.
-/
import Derived.Test.YtkofnmeononlaaaDoorWalkE3
namespace Go.Proofs.YtkofnmeononlaaaDoor
open Go.RowKit Go.Joins Isa
set_option maxHeartbeats 1000000 in
theorem encodes_law (k d a b n : Int) (l : Bool) (w : World) (ht : Tabs w) :
    Calls Tryd.prog 5 #[.agg #[.int .i64 k, .int .i64 d, .int .i64 a, .int .i64 b, .int .i64 n, .bool l]] w fun e w' => e = .returned (.bool true) ∧ Below w.heap.size w w' := by
  have ht1 : ∀ o, Tabs (w.alloc o) := fun o => ht.below ht.sz ((Below.refl _ _).alloc (Nat.le_refl _) o)
  have H1 : Hid (∀ o, Tabs (w.alloc o)) := ht1
  clear ht1
  go_enter Tryd.func5, Tryd.ntmps5
  go_wp2_with fail
  refine (encode_any k d a b n l _ (H1.out _)).mono ?_
  rintro e w1 (⟨hc, rfl, hb⟩ | ⟨hc, g, cap, rfl, own, hb⟩)
  · have HC : Hid (chk k d a b n l ≠ 0) := hc
    clear hc
    obtain ⟨hc1, hf1⟩ := bcell hb
    have hz : w.heap.size < w1.heap.size := (by have := hb.size; simp at this; omega)
    have k1 := @conv_nil
    go_wp2_with fail
    refine (bytes_any k d a b n l _).mono ?_
    rintro e w2 (⟨hc, rfl, hb2⟩ | ⟨hc, g2, cap2, rfl, own2, hb2⟩)
    · clear hc
      go_wp2
      go_ret
      exact ⟨by simp, ((Below.alloc (Below.refl _ _) (Nat.le_refl _) _).trans (hb.mono (by simp))).trans (hb2.mono (by omega))⟩
    · exact absurd hc HC.out
  · have HC : Hid (chk k d a b n l = 0) := hc
    clear hc
    obtain ⟨hc1, hf1⟩ := bcell hb
    have hz : w.heap.size < w1.heap.size := (by have := hb.size; simp at this; omega)
    go_wp2_with fail
    refine (bytes_any k d a b n l _).mono ?_
    rintro e w2 (⟨hc, rfl, hb2⟩ | ⟨hc, g2, cap2, rfl, own2, hb2⟩)
    · exact absurd HC.out hc
    · clear hc
      have k1 := conv_own (own_below own hb2)
      have k2 := conv_own own2
      clear own own2
      go_wp2
      go_ret
      exact ⟨by simp, ((Below.alloc (Below.refl _ _) (Nat.le_refl _) _).trans (hb.mono (by simp))).trans (hb2.mono (by omega))⟩
end Go.Proofs.YtkofnmeononlaaaDoor
