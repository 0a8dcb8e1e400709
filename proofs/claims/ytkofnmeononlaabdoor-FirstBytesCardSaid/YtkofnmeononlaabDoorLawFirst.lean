/-
  The call of boltholekeep.FirstBytes returns true at all two numbers.
-/
import Derived.Test.YtkofnmeononlaabDoorPureEnc
import Derived.Test.YtkofnmeononlaabDoorWalkAny
namespace Go.Proofs.YtkofnmeononlaabDoor
open Go.RowKit Go.Joins Isa
def fK (x : Int) : Int := if 24 ≤ pk x 29 then 18 + pk x 29 - 24 else 1 + pk x 24
def fL (x : Int) : Bool := decide (24 ≤ pk x 29)
theorem f_cases (x : Int) : (fL x = false ∧ 1 ≤ fK x ∧ fK x ≤ 24) ∨ (fL x = true ∧ (fK x = 18 ∨ fK x = 19 ∨ fK x = 20 ∨ fK x = 21 ∨ fK x = 22)) := by
  obtain ⟨p1, p2⟩ := pk_bd x 29 (by decide)
  obtain ⟨q1, q2⟩ := pk_bd x 24 (by decide)
  unfold fL fK
  by_cases h : 24 ≤ pk x 29
  · right; simp [h]; omega
  · left; simp [h]; omega
/-- An instruction without operands: it may be; its bytes are its first one and zeros. -/
theorem f_ok (x : Int) : Isa.chk (fK x) 0 0 0 0 (fL x) = 0 ∧ 0 ≤ firB (fK x) (fL x) ∧ firB (fK x) (fL x) < 112 ∧ ∃ post, [firB (fK x) (fL x), 0, 0, 0, 0] = encL (fK x) 0 0 0 0 (fL x) ++ post := by
  rcases f_cases x with ⟨e, h1, h2⟩ | ⟨e, h⟩
  · rw [e]
    generalize fK x = k at *
    rcases kinds h1 h2 with rfl | rfl | rfl | rfl | rfl | rfl | rfl | rfl | rfl | rfl | rfl | rfl | rfl | rfl | rfl | rfl | rfl | rfl | rfl | rfl | rfl | rfl | rfl | rfl
    · exact ⟨by decide, by decide, by decide, [0, 0, 0, 0], rfl⟩
    · exact ⟨by decide, by decide, by decide, [0, 0, 0, 0], rfl⟩
    · exact ⟨by decide, by decide, by decide, [0, 0, 0, 0], rfl⟩
    · exact ⟨by decide, by decide, by decide, [0, 0, 0, 0], rfl⟩
    · exact ⟨by decide, by decide, by decide, [0], rfl⟩
    · exact ⟨by decide, by decide, by decide, [0, 0], rfl⟩
    · exact ⟨by decide, by decide, by decide, [0, 0], rfl⟩
    · exact ⟨by decide, by decide, by decide, [0, 0], rfl⟩
    · exact ⟨by decide, by decide, by decide, [0, 0], rfl⟩
    · exact ⟨by decide, by decide, by decide, [0, 0], rfl⟩
    · exact ⟨by decide, by decide, by decide, [0, 0], rfl⟩
    · exact ⟨by decide, by decide, by decide, [0, 0], rfl⟩
    · exact ⟨by decide, by decide, by decide, [0, 0], rfl⟩
    · exact ⟨by decide, by decide, by decide, [0, 0], rfl⟩
    · exact ⟨by decide, by decide, by decide, [0, 0], rfl⟩
    · exact ⟨by decide, by decide, by decide, [0, 0, 0], rfl⟩
    · exact ⟨by decide, by decide, by decide, [0, 0, 0], rfl⟩
    · exact ⟨by decide, by decide, by decide, [0, 0], rfl⟩
    · exact ⟨by decide, by decide, by decide, [0, 0], rfl⟩
    · exact ⟨by decide, by decide, by decide, [0, 0], rfl⟩
    · exact ⟨by decide, by decide, by decide, [0, 0], rfl⟩
    · exact ⟨by decide, by decide, by decide, [0, 0, 0], rfl⟩
    · exact ⟨by decide, by decide, by decide, [0, 0], rfl⟩
    · exact ⟨by decide, by decide, by decide, [0, 0], rfl⟩
  · rw [e]
    generalize fK x = k at *
    rcases h with rfl | rfl | rfl | rfl | rfl
    · exact ⟨by decide, by decide, by decide, [0], rfl⟩
    · exact ⟨by decide, by decide, by decide, [0], rfl⟩
    · exact ⟨by decide, by decide, by decide, [0], rfl⟩
    · exact ⟨by decide, by decide, by decide, [0], rfl⟩
    · exact ⟨by decide, by decide, by decide, [0, 0], rfl⟩
set_option maxHeartbeats 2000000 in
theorem first1_any (x : Int) (w : World) (ht : Tabs w) (_x1 : -9223372036854775808 ≤ x) (_x2 : x ≤ 9223372036854775807) :
    Calls Tryd.prog 14 #[.int .i64 x] w fun e w' => e = .returned (.int .u8 (firB (fK x) (fL x))) ∧ Below w.heap.size w w' := by
  have ht1 : ∀ o, Tabs (w.alloc o) := fun o => ht.below ht.sz ((Below.refl _ _).alloc (Nat.le_refl _) o)
  obtain ⟨p1, p2⟩ := pk_bd x 29 (by decide)
  obtain ⟨q1, q2⟩ := pk_bd x 24 (by decide)
  obtain ⟨o1, _⟩ := f_ok x
  have hh := encL_head (fK x) 0 0 0 0 (fL x)
  have O1 : Hid _ := o1
  have H1 : Hid _ := ht1
  have HH : Hid _ := hh
  clear o1 ht1 hh
  have fin : ∀ (k : Int) (l : Bool), fK x = k → fL x = l → Isa.chk k 0 0 0 0 l = 0 ∧ encL k 0 0 0 0 l = firB (fK x) (fL x) :: (encL k 0 0 0 0 l).tail := by
    rintro k l rfl rfl; exact ⟨O1.out, HH.out⟩
  by_cases c : 24 ≤ pk x 29
  · obtain ⟨o2, h2⟩ := fin (18 + pk x 29 - 24) true (by unfold fK; rw [if_pos c]) (by unfold fL; simp [c])
    have O2 : Hid _ := o2
    have HE : Hid _ := h2
    clear o2 h2 fin
    go_enter Tryd.func14, Tryd.ntmps14
    go_wp2_with (go_at_call 10; refine (picked_any x _ _ (by decide) (by assumption) (by assumption)).mono ?_; rintro e w1 ⟨rfl, hw1⟩; obtain rfl := hw1.symm)
    refine (encode_any (18 + pk x 29 - 24) 0 0 0 0 true _ (H1.out _)).mono ?_
    rintro e w2 (⟨hc, _⟩ | ⟨hc, g, cap, rfl, own, hb2⟩)
    · exact absurd O2.out hc
    have hcell := own.cells (g := g) rfl 0 (.int .u8 (firB (fK x) (fL x))) (by rw [HE.out]; rfl)
    rw [Addr.add_lit] at hcell
    obtain ⟨m, hm⟩ : ∃ m, (encL (18 + pk x 29 - 24) 0 0 0 0 true).length = m + 1 := ⟨_, by rw [HE.out]; rfl⟩
    rw [hm]
    have hmb : ((m : Int) + 1 == 0) = false := by simp; omega
    have B2 : Below w.heap.size w w2 := ((Below.refl _ _).alloc (Nat.le_refl _) _).trans (hb2.mono (by simp))
    clear own hc hm hb2
    go_wp2
    go_ret
    exact ⟨rfl, B2⟩
  · obtain ⟨o2, h2⟩ := fin (1 + pk x 24) false (by unfold fK; rw [if_neg c]) (by unfold fL; simp [c])
    have O2 : Hid _ := o2
    have HE : Hid _ := h2
    clear o2 h2 fin
    go_enter Tryd.func14, Tryd.ntmps14
    go_wp2_with (go_at_call 10; refine (picked_any x _ _ (by decide) (by assumption) (by assumption)).mono ?_; rintro e w1 ⟨rfl, hw1⟩; obtain rfl := hw1.symm)
    refine (encode_any (1 + pk x 24) 0 0 0 0 false _ (H1.out _)).mono ?_
    rintro e w2 (⟨hc, _⟩ | ⟨hc, g, cap, rfl, own, hb2⟩)
    · exact absurd O2.out hc
    have hcell := own.cells (g := g) rfl 0 (.int .u8 (firB (fK x) (fL x))) (by rw [HE.out]; rfl)
    rw [Addr.add_lit] at hcell
    obtain ⟨m, hm⟩ : ∃ m, (encL (1 + pk x 24) 0 0 0 0 false).length = m + 1 := ⟨_, by rw [HE.out]; rfl⟩
    rw [hm]
    have hmb : ((m : Int) + 1 == 0) = false := by simp; omega
    have B2 : Below w.heap.size w w2 := ((Below.refl _ _).alloc (Nat.le_refl _) _).trans (hb2.mono (by simp))
    clear own hc hm hb2
    go_wp2
    go_ret
    exact ⟨rfl, B2⟩
end Go.Proofs.YtkofnmeononlaabDoor
