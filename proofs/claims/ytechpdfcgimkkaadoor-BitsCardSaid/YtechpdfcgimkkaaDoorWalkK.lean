/-
  isa.kindOf: the kind that a first byte says.
-/
import Derived.Test.YtechpdfcgimkkaaDoorTabs
import Derived.Outline
namespace Go.Proofs.YtechpdfcgimkkaaDoor
open Go.RowKit Go.Joins Isa
/-- The search, from a kind on. -/
def seek (x : Int) (k : Int) : Nat → Int × Bool
  | 0 => (0, false)
  | f + 1 => if opF k = x then (k, false) else if 0 < opL k ∧ opL k = x then (k, true) else seek x (k + 1) f
def kindB (x : Int) : Int × Bool := seek x 1 24
theorem seek_0 (x k : Int) (f : Nat) (h : opF k = x) : seek x k (f + 1) = (k, false) := by simp [seek, h]
theorem seek_1 (x k : Int) (f : Nat) (h : ¬ opF k = x) (h0 : 0 < opL k) (h1 : opL k = x) : seek x k (f + 1) = (k, true) := by
  unfold seek; rw [if_neg h, if_pos ⟨h0, h1⟩]
theorem seek_2 (x k : Int) (f : Nat) (h : ¬ opF k = x) (h0 : ¬ (0 < opL k ∧ opL k = x)) : seek x k (f + 1) = seek x (k + 1) f := by
  rw [seek, if_neg h, if_neg h0]
set_option maxHeartbeats 1000000 in
theorem kind_any (x : Int) (w : World) (ht : Tabs w) : Calls Tryd.prog 93 #[.int .u8 x] w fun e w' => e = .returned (.tuple #[.int .i64 (kindB x).1, .bool (kindB x).2]) ∧ Below w.heap.size w w' := by
  go_enter Tryd.func93, Tryd.ntmps93
  go_wp2
  go_loopw [4] (fun t wr => ∃ m : Nat, 1 ≤ m ∧ m ≤ 25 ∧ t = .int .i64 m ∧ kindB x = seek x m (25 - m) ∧ Below w.heap.size w wr) (fun t _ => (25 - intOf t).toNat)
  case atStart => exact ⟨1, by omega, by omega, rfl, rfl, Below.refl _ _⟩
  case round =>
    obtain ⟨m, m1, m2, rfl, hs, bel⟩ := hrel
    have htr : Tabs wr := ht.below ht.sz bel
    have z1 := htr.sz
    have z0 : 0 < wr.heap.size := by omega
    have zw : w.heap.size ≤ wr.heap.size := bel.size
    by_cases hm : m ≤ 24
    · obtain ⟨c1, c2, c3⟩ := htr.op m (by omega) (by omega)
      rw [Int.toNat_natCast] at c1 c2 c3
      obtain ⟨f, hf⟩ : ∃ f, 25 - m = f + 1 := ⟨24 - m, by omega⟩
      rw [hf] at hs
      by_cases e1 : opF m = x
      · have hk : Hid (kindB x = ((m : Int), false)) := by show _ = _; rw [hs]; exact seek_0 _ _ _ e1
        have e1b : (opF m == x) = true := by simp [e1]
        clear hs e1 hf
        go_wp2
        go_ret2
        exact ⟨by rw [hk.out]; rfl, bel.alloc zw _⟩
      · have e1b : (opF m == x) = false := by simp [e1]
        by_cases e2 : 0 < opL m
        · by_cases e3 : opL m = x
          · have hk : Hid (kindB x = ((m : Int), true)) := by show _ = _; rw [hs]; exact seek_1 _ _ _ e1 e2 e3
            have e3b : (opL m == x) = true := by simp [e3]
            clear hs e1 e3 hf
            go_wp2
            go_ret2
            exact ⟨by rw [hk.out]; rfl, bel.alloc zw _⟩
          · have hk : Hid (kindB x = seek x ((m + 1 : Nat) : Int) (25 - (m + 1))) := by
              show _ = _
              rw [hs, seek_2 _ _ _ e1 (by omega), show 25 - (m + 1) = f by omega]; rfl
            have e3b : (opL m == x) = false := by simp [e3]
            clear hs e1 e3 hf
            go_wp2
            go_roundw
            case rel => exact ⟨m + 1, by omega, by omega, by go_num, hk.out, bel.alloc zw _⟩
            case measure => simp [intOf]; omega
        · have hk : Hid (kindB x = seek x ((m + 1 : Nat) : Int) (25 - (m + 1))) := by
            show _ = _
            rw [hs, seek_2 _ _ _ e1 (by omega), show 25 - (m + 1) = f by omega]; rfl
          clear hs e1 hf
          go_wp2
          go_roundw
          case rel => exact ⟨m + 1, by omega, by omega, by go_num, hk.out, bel.alloc zw _⟩
          case measure => simp [intOf]; omega
    · have hk : Hid (kindB x = (0, false)) := by
        show _ = _
        rw [hs, show 25 - m = 0 by omega]; rfl
      clear hs
      go_wp2
      go_ret2
      exact ⟨by rw [hk.out]; rfl, bel⟩
end Go.Proofs.YtechpdfcgimkkaaDoor
