/-
  slices.Sort and slices.Compact at a row of numbers of the call's own.
-/
import Derived.Test.YtebjfgbjmhhccaaShSortC
import Derived.Test.YtebjfgbjmhhccaaPureFlC
import Derived.Test.YtebjfgbjmhhccaaRowMoreC
import Derived.Lib.OwnBridge
import Derived.Lib.RowBridge
namespace Go.Proofs.Ytebjfgbjmhhccaa
open Go.RowKit Go.Joins Go.Sort Go.Lib
theorem flat_ints (xs : List Int) : flat icell xs = xs.map (Value.int .i64) := by
  induction xs with
  | nil => rfl
  | cons x xs ih => rw [List.map_cons, ← ih]; rfl
theorem sort_own (w : World) (B : Nat) (v : Value) (xs : List Int) (h : w.ownsRow B 3 1 v xs.length (flat icell xs)) (hl : xs.length < 4611686018427387904) :
    Calls Try.prog 16 #[v] w fun e w' => e = .returned (.tuple #[]) ∧ w'.ownsRow B 3 1 v xs.length (flat icell (xs.mergeSort fun x y => decide (x ≤ y))) ∧ Below B w w' := by
  rw [flat_ints] at h ⊢
  by_cases hv : v = .slice none 0 0
  · subst hv
    have h0 : xs = [] := by
      rcases h.2 with ⟨_, h0⟩ | ⟨_, _, _, hv, _⟩
      · exact List.length_eq_zero_iff.1 h0
      · cases hv
    subst h0
    refine (sh_slices_Sort_int_none none 0 w).mono ?_
    rintro e w' ⟨rfl, rfl⟩
    exact ⟨rfl, by simpa using h, Below.refl _ _⟩
  · obtain ⟨g, cap, rfl, hg, hlt, hn, hm, _, hH⟩ := holds_of_ownsRow h hv
    refine (sh_slices_Sort_int g 0 cap xs w hH hlt hl).mono ?_
    rintro e w' ⟨rfl, n, os, rfl⟩
    have hs : (xs.mergeSort fun x y => decide (x ≤ y)).length = xs.length := List.length_mergeSort xs
    have h1 := ownsRow_putRow (q := n) h hs (Nat.le_refl _)
    rw [List.take_of_length_le (by rw [hs]; exact Nat.le_refl _)] at h1
    have hb1 : Below B w (putRow (Value.int .i64) (Sort.ahead w n) g 0 (xs.mergeSort fun x y => decide (x ≤ y)).toArray) := below_putRow (Below.refl B w) hg
    have hz : (putRow (Value.int .i64) (Sort.ahead w n) g 0 (xs.mergeSort fun x y => decide (x ≤ y)).toArray).heap.size = w.heap.size := by simp [putRow, mapBlock, Sort.ahead]
    have hb2 : Below (putRow (Value.int .i64) (Sort.ahead w n) g 0 (xs.mergeSort fun x y => decide (x ≤ y)).toArray).heap.size (putRow (Value.int .i64) (Sort.ahead w n) g 0 (xs.mergeSort fun x y => decide (x ≤ y)).toArray) (grow (putRow (Value.int .i64) (Sort.ahead w n) g 0 (xs.mergeSort fun x y => decide (x ≤ y)).toArray) os) :=
      ⟨rfl, rfl, rfl, by simp, fun k hk => heap_grow_old _ _ hk⟩
    exact ⟨rfl, row_up h1 hb2, hb1.trans (hb2.mono (by rw [hz]; omega))⟩
theorem compact_own (w : World) (B : Nat) (v : Value) (xs : List Int) (h : w.ownsRow B 3 1 v xs.length (flat icell xs)) (hl : xs.length ≤ 9223372036854775807) :
    Calls Try.prog 17 #[v] w fun e w' => ∃ v', e = .returned v' ∧ w'.ownsRow B 3 1 v' (compact xs).length (flat icell (compact xs)) ∧ Below B w w' := by
  rw [flat_ints] at h
  simp only [flat_ints]
  by_cases hv : v = .slice none 0 0
  · subst hv
    have h0 : xs = [] := by
      rcases h.2 with ⟨_, h0⟩ | ⟨_, _, _, hv, _⟩
      · exact List.length_eq_zero_iff.1 h0
      · cases hv
    subst h0
    refine (sh_slices_Compact_int_empty none 0 w).mono ?_
    rintro e w' ⟨rfl, rfl⟩
    exact ⟨_, rfl, by simpa [compact, compactUpTo] using h, Below.refl _ _⟩
  · obtain ⟨g, cap, rfl, hg, hlt, hn, hm, _, hH⟩ := holds_of_ownsRow h hv
    refine (sh_slices_Compact_int g 0 cap xs w hH hl hn).mono ?_
    rintro e w' ⟨rfl, n, rfl⟩
    have hcl := compact_length_le xs
    have h1 := ownsRow_putRow (q := n) (k := (compact xs).length) (ys := compact xs ++ List.replicate (xs.length - (compact xs).length) 0) h (by simp; omega) hcl
    rw [List.take_left] at h1
    exact ⟨_, rfl, h1, below_putRow (Below.refl B w) hg⟩
end Go.Proofs.Ytebjfgbjmhhccaa
