/-
  The call of boltholekeep.SizeKinds returns true at every Raw.
-/
import Derived.Test.YtkofnmeononlaabDoorWalkAny2
import Derived.Test.YtkofnmeononlaabDoorWalkS1
namespace Go.Proofs.YtkofnmeononlaabDoor
open Go.RowKit Go.Joins Isa
theorem siz_long {k : Int} (h : k = 18 ∨ k = 19 ∨ k = 20 ∨ k = 21 ∨ k = 22) : siz k true = siz k false + 1 := by
  rcases h with rfl | rfl | rfl | rfl | rfl <;> decide
theorem siz_short {k : Int} (h1 : 1 ≤ k) (h2 : k ≤ 24) : 1 ≤ siz k false ∧ siz k false ≤ 4 := by
  rcases kinds h1 h2 with rfl | rfl | rfl | rfl | rfl | rfl | rfl | rfl | rfl | rfl | rfl | rfl | rfl | rfl | rfl | rfl | rfl | rfl | rfl | rfl | rfl | rfl | rfl | rfl <;> decide
theorem any_pair (K A B C : Int) : (anyF K A B C false).k = (anyF K A B C true).k ∧ (anyF K A B C false).l = false ∧
    (((anyF K A B C true).l = false ∧ sizeNum (anyF K A B C true).k (anyF K A B C true).d (anyF K A B C true).a (anyF K A B C true).b (anyF K A B C true).n (anyF K A B C true).l = siz (anyF K A B C false).k false) ∨
     ((anyF K A B C true).l = true ∧ sizeNum (anyF K A B C true).k (anyF K A B C true).d (anyF K A B C true).a (anyF K A B C true).b (anyF K A B C true).n (anyF K A B C true).l = siz (anyF K A B C false).k false + 1)) ∧
    sizeNum (anyF K A B C false).k (anyF K A B C false).d (anyF K A B C false).a (anyF K A B C false).b (anyF K A B C false).n (anyF K A B C false).l = siz (anyF K A B C false).k false ∧
    1 ≤ siz (anyF K A B C false).k false ∧ siz (anyF K A B C false).k false ≤ 4 := by
  have o1 := any_ok K A B C false
  have o2 := any_ok K A B C true
  have hk : (anyF K A B C false).k = (anyF K A B C true).k ∧ (anyF K A B C false).l = false ∧ ((anyF K A B C true).l = false ∨ ((anyF K A B C true).l = true ∧ ((anyF K A B C true).k = 18 ∨ (anyF K A B C true).k = 19 ∨ (anyF K A B C true).k = 20 ∨ (anyF K A B C true).k = 21 ∨ (anyF K A B C true).k = 22))) := by
    unfold anyF
    split
    · refine ⟨rfl, ?_, Or.inl ?_⟩ <;> (unfold plainF; repeat' split) <;> rfl
    split
    · exact ⟨rfl, rfl, Or.inr ⟨rfl, by simp⟩⟩
    split
    · exact ⟨rfl, rfl, Or.inl rfl⟩
    split
    · exact ⟨rfl, rfl, Or.inl rfl⟩
    split
    · exact ⟨rfl, rfl, Or.inl rfl⟩
    · obtain ⟨b3, b4⟩ := pk_bd B 4 (by decide)
      refine ⟨rfl, rfl, Or.inr ⟨rfl, ?_⟩⟩
      show 18 + pk B 4 = 18 ∨ 18 + pk B 4 = 19 ∨ 18 + pk B 4 = 20 ∨ 18 + pk B 4 = 21 ∨ 18 + pk B 4 = 22
      omega
  obtain ⟨e1, e2, e3⟩ := hk
  obtain ⟨k1, k2, _⟩ := chk_zero o1
  have s1 : sizeNum (anyF K A B C false).k (anyF K A B C false).d (anyF K A B C false).a (anyF K A B C false).b (anyF K A B C false).n (anyF K A B C false).l = siz (anyF K A B C false).k (anyF K A B C false).l := if_pos o1
  have s2 : sizeNum (anyF K A B C true).k (anyF K A B C true).d (anyF K A B C true).a (anyF K A B C true).b (anyF K A B C true).n (anyF K A B C true).l = siz (anyF K A B C true).k (anyF K A B C true).l := if_pos o2
  obtain ⟨b1, b2⟩ := siz_short k1 k2
  refine ⟨e1, e2, ?_, by rw [s1, e2], b1, b2⟩
  rcases e3 with e3 | ⟨e3, e4⟩
  · exact Or.inl ⟨e3, by rw [s2, e3, e1]⟩
  · exact Or.inr ⟨e3, by rw [s2, e3, e1, siz_long e4]⟩
set_option maxHeartbeats 2000000 in
theorem kinds_law (K A B C : Int) (w : World) (ht : Tabs w) (_k1 : -9223372036854775808 ≤ K) (_k2 : K ≤ 9223372036854775807) (_a1 : -9223372036854775808 ≤ A) (_a2 : A ≤ 9223372036854775807) (_b1 : -9223372036854775808 ≤ B) (_b2 : B ≤ 9223372036854775807) (_c1 : -9223372036854775808 ≤ C) (_c2 : C ≤ 9223372036854775807) :
    Calls Tryd.prog 5 #[.agg #[.int .i64 K, .int .i64 A, .int .i64 B, .int .i64 C]] w fun e w' => e = .returned (.bool true) ∧ Below w.heap.size w w' := by
  have o1 : Isa.chk (anyF K A B C false).k (anyF K A B C false).d (anyF K A B C false).a (anyF K A B C false).b (anyF K A B C false).n (anyF K A B C false).l = 0 := any_ok K A B C false
  have o2 : Isa.chk (anyF K A B C true).k (anyF K A B C true).d (anyF K A B C true).a (anyF K A B C true).b (anyF K A B C true).n (anyF K A B C true).l = 0 := any_ok K A B C true
  obtain ⟨e1, e2, e3, e4, e5, e6⟩ := any_pair K A B C
  have ai := any_any K A B C false
  have aj := any_any K A B C true
  generalize anyF K A B C false = i at *
  generalize anyF K A B C true = j at *
  obtain ⟨ik, id, ia, ib, inn, il⟩ := i
  obtain ⟨jk, jd, ja, jb, jn, jl⟩ := j
  simp only at o1 o2 e1 e2 e3 e4 e5 e6 ai aj
  generalize siz ik false = s at *
  subst e1 e2
  have AI : Hid _ := ai
  have AJ : Hid _ := aj
  have O1 : Hid _ := o1
  have O2 : Hid _ := o2
  have E4 : Hid _ := e4
  clear ai aj o1 o2 e4
  rcases e3 with ⟨rfl, e3⟩ | ⟨rfl, e3⟩
  all_goals
    have E3 : Hid _ := e3
    clear e3
    go_enter Tryd.func5, Tryd.ntmps5
    go_wp2_with fail
    refine (AI.out _ (by assumption) (by assumption) (by assumption) (by assumption) (by assumption) (by assumption) (by assumption) (by assumption)).mono ?_
    rintro e w1 ⟨rfl, hb1⟩
    obtain ⟨hc1, _⟩ := bcell hb1
    have hz1 : w.heap.size < w1.heap.size := (by have := hb1.size; simp at this; omega)
    have B1 : Below w.heap.size w w1 := (Below.alloc (Below.refl _ _) (Nat.le_refl _) _).trans (hb1.mono (by simp))
    clear hb1
    go_wp2_with fail
    refine (AJ.out _ (by assumption) (by assumption) (by assumption) (by assumption) (by assumption) (by assumption) (by assumption) (by assumption)).mono ?_
    rintro e w2 ⟨rfl, hb2⟩
    obtain ⟨hc2, _⟩ := bcell hb2
    have hz2 : w1.heap.size < w2.heap.size := (by have := hb2.size; simp at this; omega)
    have B2 : Below w.heap.size w w2 := (B1.alloc (by omega) _).trans (hb2.mono (by simp; omega))
    clear hb2
    go_wp2_with fail
    refine (sizes_any _ _ _ _ _ _ _ (ht.below ht.sz (B2.alloc (by omega) _))).mono ?_
    rw [E4.out, O1.out]
    rintro e w3 ⟨rfl, hb3⟩
    obtain ⟨hc3, _⟩ := bcell hb3
    have hz3 : w2.heap.size < w3.heap.size := (by have := hb3.size; simp at this; omega)
    have hz4 : w1.heap.size < w2.heap.size + 1 := by omega
    have B3 : Below w.heap.size w w3 := (B2.alloc (by omega) _).trans (hb3.mono (by simp; omega))
    clear hb3
    go_wp2_with fail
    refine (sizes_any _ _ _ _ _ _ _ (ht.below ht.sz B3)).mono ?_
    rw [E3.out, O2.out]
    rintro e w4 ⟨rfl, hb4⟩
    obtain ⟨hc4, _⟩ := bcell hb4
    have hz5 : w1.heap.size < w3.heap.size := by omega
    have B4 : Below w.heap.size w w4 := B3.trans (hb4.mono (by omega))
    clear hb4
    go_wp2
    go_ret
    exact ⟨by simp <;> omega, B4⟩
end Go.Proofs.YtkofnmeononlaabDoor
