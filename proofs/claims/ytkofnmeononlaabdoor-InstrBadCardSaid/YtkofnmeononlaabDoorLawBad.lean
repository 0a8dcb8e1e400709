/-
  The call of boltholekeep.InstrBad returns true at all two numbers.
-/
import Derived.Test.YtkofnmeononlaabDoorPureBad
import Derived.Test.YtkofnmeononlaabDoorWalkAny
import Derived.Deep.RegionHeld3
namespace Go.Proofs.YtkofnmeononlaabDoor
open Go.RowKit Go.Joins Isa
set_option maxHeartbeats 2000000 in
theorem bad_law (x y : Int) (w : World) (ht : Tabs w) (_x1 : -9223372036854775808 ≤ x) (_x2 : x ≤ 9223372036854775807) (_y1 : -9223372036854775808 ≤ y) (_y2 : y ≤ 9223372036854775807) :
    Calls Tryd.prog 4 #[.int .i64 x, .int .i64 y] w fun e w' => e = .returned (.bool true) ∧ Below w.heap.size w w' := by
  obtain ⟨p1, p2⟩ := pk_bd y 100 (by decide)
  obtain ⟨q1, q2⟩ := pk_bd x 14 (by decide)
  go_enter Tryd.func4, Tryd.ntmps4
  go_wp2_with fail
  refine (picked_any y _ _ (by decide) (by assumption) (by assumption)).mono ?_
  rintro e w1 ⟨rfl, hw1⟩
  obtain rfl := hw1.symm
  generalize pk y 100 = k at *
  go_wp2_with fail
  obtain ⟨m, hm⟩ := Int.eq_ofNat_of_zero_le q1
  have hm14 : m < 14 := by omega
  refine (picked_any x _ _ (by decide) (by assumption) (by assumption)).mono ?_
  rw [hm]
  rintro e w2 ⟨rfl, hw2⟩
  obtain ⟨K, D, A, B, N, L, E, e1, e2, e3, o2, hz2, B2⟩ := odd_world (k := k) (m := m) hw2 p1 p2 hm14
  clear hw2 hm q1 q2
  have hm1 : (m : Int) < 14 := by omega
  have E1 : Hid _ := e1
  have ht2 := ht.below ht.sz B2
  clear e1
  obtain ⟨f0, f1, f2, f3, f4, f5, f6⟩ := o2
  go_wp2_with fail
  refine (encode_any K D A B N L _ ht2).mono ?_
  rintro e w3 (⟨hc, r⟩ | ⟨hc, _⟩)
  rotate_left
  · exact absurd (E1.out.symm.trans hc) (by omega)
  obtain ⟨rfl, hb3⟩ := r
  have o3 : OddAt w3 w.heap.size m K D A B N L E := OddAt.below ⟨f0, f1, f2, f3, f4, f5, f6⟩ (by omega) hb3
  have B3 : Below w.heap.size w w3 := B2.trans (hb3.mono B2.size)
  have hz3 : w.heap.size + 1 < w3.heap.size := (by have := hb3.size; omega)
  have ht3 := ht.below ht.sz B3
  rw [E1.out]
  clear f0 f1 f2 f3 f4 f5 f6 hb3 B2 hz2 ht2 hc
  obtain ⟨f0, f1, f2, f3, f4, f5, f6⟩ := o3
  go_wp2_with fail
  refine (sizes_any K D A B N L _ ht3).mono ?_
  rw [E1.out]
  rintro e w4 ⟨rfl, hb4⟩
  have o4 : OddAt w4 w.heap.size m K D A B N L E := OddAt.below ⟨f0, f1, f2, f3, f4, f5, f6⟩ hz3 hb4
  have B4 : Below w.heap.size w w4 := B3.trans (hb4.mono B3.size)
  have hz4 : w.heap.size + 1 < w4.heap.size := (by have := hb4.size; omega)
  have ht4 := ht.below ht.sz (B4.alloc (by omega) (.cells #[.int .u8 (112 + k % 16)] 5))
  clear f0 f1 f2 f3 f4 f5 f6 hb4 B3 hz3 ht3
  generalize sizeNum K D A B N L = Z at *
  go_wp2_with fail
  obtain ⟨r, hr⟩ : ∃ r, k % 16 = r := ⟨_, rfl⟩
  have r0 : 0 ≤ r := by omega
  have r1 : r < 16 := by omega
  rw [hr]
  rw [hr] at ht4
  clear hr
  refine (decode_any _ [112 + r] 0 _ ht4 (text_made w4 [112 + r] (by intro z hz; simp at hz; omega) (by simp [maxLen]) _ rfl _ rfl _ rfl)).mono ?_
  rw [odd_byte r r0 r1]
  rintro e w5 ⟨rfl, hb5⟩
  have hb5' : Below w4.heap.size w4 w5 := ((Below.refl _ _).alloc (Nat.le_refl _) _).trans (hb5.mono (by simp))
  have o5 : OddAt w5 w.heap.size m K D A B N L E := OddAt.below o4 hz4 hb5'
  have B5 : Below w.heap.size w w5 := B4.trans (hb5'.mono B4.size)
  have hz5 : w.heap.size + 1 < w5.heap.size := (by have := hb5'.size; omega)
  have ht5 := ht.below ht.sz B5
  clear hb5 hb5' o4 B4 hz4 ht4
  obtain ⟨f0, f1, f2, f3, f4, f5, f6⟩ := o5
  have ht6 : ∀ o, Tabs (w5.alloc o).drew := fun o => ht.below ht.sz (B5.alloc (by omega) o).drew
  have hz6 : w.heap.size < w5.heap.size := by omega
  go_wp2_with fail
  go_region_held3 (fun w' => w'.cell? ⟨w.heap.size, m * 6, none⟩ = some (.int .i64 K) ∧ w'.cell? ⟨w.heap.size, m * 6 + 1, none⟩ = some (.int .i64 D) ∧ w'.cell? ⟨w.heap.size, m * 6 + 2, none⟩ = some (.int .i64 A) ∧ w'.cell? ⟨w.heap.size, m * 6 + 3, none⟩ = some (.int .i64 B) ∧ w'.cell? ⟨w.heap.size, m * 6 + 4, none⟩ = some (.int .i64 N) ∧ w'.cell? ⟨w.heap.size, m * 6 + 5, none⟩ = some (.bool L) ∧ w'.cell? ⟨w.heap.size + 1, m, none⟩ = some (.int .i64 E)) (first | (simp [go_sem, *]; done) | exact OddAt.below (w := w5) ⟨f0, f1, f2, f3, f4, f5, f6⟩ hz5 (((Below.refl _ _).alloc (Nat.le_refl _) _).drew) | exact OddAt.below (w := w5) ⟨f0, f1, f2, f3, f4, f5, f6⟩ hz5 (((((Below.refl _ _).alloc (Nat.le_refl _) _).drew)).trans (hb6.mono (by simp))))
    (first | (go_at_call 13; refine (check_any K D A B N L _ (ht6 _)).mono ?_; rw [E1.out]; rintro e w6 ⟨rfl, hb6⟩))
  have B6 : Below w.heap.size w w6 := (B5.alloc (by omega) _).drew.trans (hb6.mono (by simp; omega))
  go_wp2
  go_ret
  exact ⟨rfl, B6⟩
end Go.Proofs.YtkofnmeononlaabDoor
