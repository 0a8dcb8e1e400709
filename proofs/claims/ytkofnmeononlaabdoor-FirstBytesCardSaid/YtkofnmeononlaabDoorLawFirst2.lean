/-
  The call of boltholekeep.FirstBytes returns true at all two numbers.
-/
import Derived.Test.YtkofnmeononlaabDoorLawFirst
import Derived.Test.YtkofnmeononlaabDoorTextMore
namespace Go.Proofs.YtkofnmeononlaabDoor
open Go.RowKit Go.Joins Isa
set_option maxHeartbeats 2000000 in
theorem first_law (x y : Int) (w : World) (ht : Tabs w) (_x1 : -9223372036854775808 ≤ x) (_x2 : x ≤ 9223372036854775807) (_y1 : -9223372036854775808 ≤ y) (_y2 : y ≤ 9223372036854775807) :
    Calls Tryd.prog 6 #[.int .i64 x, .int .i64 y] w fun e w' => e = .returned (.bool true) ∧ Below w.heap.size w w' := by
  obtain ⟨p1, p2⟩ := pk_bd x 29 (by decide)
  obtain ⟨q1, q2⟩ := pk_bd x 24 (by decide)
  obtain ⟨o1, b1, b2, post, hp⟩ := f_ok x
  obtain ⟨_, c1, c2, _⟩ := f_ok y
  have hd := dec_back o1 [] post
  rw [List.nil_append, ← hp] at hd
  have X1 : Calls _ _ _ _ _ := first1_any x w ht _x1 _x2
  have Y1 : ∀ w', Below w.heap.size w w' → Calls _ _ _ _ _ := fun w' h => first1_any y w' (ht.below ht.sz h) _y1 _y2
  have T1 : ∀ (w' : World) (B : Nat), B = w'.heap.size → TextAt (w'.alloc (.cells #[.int .u8 (firB (fK x) (fL x)), .int .u8 0, .int .u8 0, .int .u8 0, .int .u8 0] 5)) (.slice (some ⟨B, 0, none⟩) 5 5) [firB (fK x) (fL x), 0, 0, 0, 0] := fun w' B hB => text_made w' _ (by
    intro z hz
    simp at hz
    rcases hz with rfl | rfl <;> omega) (by simp [maxLen]) B hB _ rfl _ rfl
  have hk : (24 ≤ pk x 29 ∧ fK x = 18 + pk x 29 - 24 ∧ fL x = true) ∨ (pk x 29 < 24 ∧ fK x = 1 + pk x 24 ∧ fL x = false) := by
    unfold fK fL
    by_cases c : 24 ≤ pk x 29
    · left; simp [c]
    · right; simp [c]; omega
  clear hp o1
  generalize firB (fK x) (fL x) = X at *
  generalize firB (fK y) (fL y) = Y at *
  generalize fK x = k at *
  generalize fL x = l at *
  have HD : Hid _ := hd
  have HX : Hid (Calls _ _ _ _ _) := X1
  have HY : Hid _ := Y1
  have HT : Hid _ := T1
  clear hd X1 Y1 T1
  rcases hk with ⟨c, rfl, rfl⟩ | ⟨c, rfl, rfl⟩
  all_goals
    go_enter Tryd.func6, Tryd.ntmps6
    go_wp2_with fail
    refine HX.out.mono ?_
    rintro e w1 ⟨rfl, B1⟩
    go_wp2_with fail
    refine (HY.out _ B1).mono ?_
    rintro e w2 ⟨rfl, hb2⟩
    have B2 : Below w.heap.size w w2 := B1.trans (hb2.mono B1.size)
    have z2 : w.heap.size ≤ w2.heap.size := B2.size
    clear hb2 B1
    go_wp2_with (go_at_call 10; refine (picked_any x _ _ (by decide) (by assumption) (by assumption)).mono ?_; rintro e w1 ⟨rfl, hw1⟩; obtain rfl := hw1.symm)
    refine (decode_any _ [X, 0, 0, 0, 0] 0 _ (ht.below ht.sz ((B2.alloc z2 _).alloc (by simp; omega) _)) (HT.out _ _ (by simp))).mono ?_
    rw [show decOut [X, 0, 0, 0, 0] 0 = _ from HD.out]
    rintro e w3 ⟨rfl, hb3⟩
    obtain ⟨hc3, _⟩ := bcell hb3
    have hz3 : w2.heap.size + 1 < w3.heap.size := (by have := hb3.size; simp at this; omega)
    have B3 : Below w.heap.size w w3 := ((B2.alloc z2 _).alloc (by simp; omega) _).trans (hb3.mono (by simp; omega))
    have hz4 : w2.heap.size < w3.heap.size := by omega
    have s0 := hc3 w2.heap.size 0 (by simp; omega)
    have s1 := hc3 w2.heap.size 1 (by simp; omega)
    have s2 := hc3 w2.heap.size 2 (by simp; omega)
    have s3 := hc3 w2.heap.size 3 (by simp; omega)
    have s4 := hc3 w2.heap.size 4 (by simp; omega)
    have s5 := hc3 w2.heap.size 5 (by simp; omega)
    simp at s0 s1 s2 s3 s4 s5
    clear hb3 hc3
    go_wp2_with fail
    go_ret
    exact ⟨rfl, B3.alloc (by omega) _⟩
end Go.Proofs.YtkofnmeononlaabDoor
