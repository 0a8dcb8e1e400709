/-
  Code that is put together, an instruction at a time.
-/
import Derived.Test.YtechpdfcgimkkaaDoorPureBack
import Derived.Test.YtechpdfcgimkkaaDoorPureRw
namespace Go.Proofs.YtechpdfcgimkkaaDoor
open Go.RowKit Go.Joins Isa
theorem dec_at (is : List Ins) (h : ∀ i ∈ is, i.chk = 0) (j : Nat) (i : Ins) (hi : is[j]? = some i) : decOut (encAll is) ((encAll (is.take j)).length : Nat) = (i, siz i.k i.l, 0) ∧ (encAll (is.take (j + 1))).length = (encAll (is.take j)).length + (siz i.k i.l).toNat ∧ 1 ≤ siz i.k i.l ∧ siz i.k i.l ≤ 5 := by
  have hc : i.chk = 0 := h i (List.mem_of_getElem? hi)
  obtain ⟨h1, h2, _⟩ := chk_zero hc
  have hl := encL_len (d := i.d) (a := i.a) (b := i.b) (n := i.n) (l := i.l) h1 h2
  have hs : 1 ≤ siz i.k i.l ∧ siz i.k i.l ≤ 5 := by have := wid_bd i.k i.l h1 h2; unfold siz; constructor <;> split <;> split <;> omega
  have e : is = is.take j ++ i :: is.drop (j + 1) := by
    obtain ⟨hj, rfl⟩ := List.getElem?_eq_some_iff.1 hi
    rw [← List.drop_eq_getElem_cons hj, List.take_append_drop]
  have e2 : is.take (j + 1) = is.take j ++ [i] := by rw [List.take_add_one, hi]; rfl
  refine ⟨?_, ?_, hs⟩
  · have := dec_back (k := i.k) (d := i.d) (a := i.a) (b := i.b) (n := i.n) (l := i.l) hc (encAll (is.take j)) (encAll (is.drop (j + 1)))
    rw [show encAll (is.take j) ++ (encL i.k i.d i.a i.b i.n i.l ++ encAll (is.drop (j + 1))) = encAll is by
      conv => rhs; rw [e]
      rw [encAll_append]; rfl] at this
    exact this
  · rw [e2, encAll_append, List.length_append]
    have : (encAll [i]).length = (siz i.k i.l).toNat := by simp [encAll, encI]; omega
    omega
theorem dec_end (ns : List Int) : decOut ns (ns.length : Nat) = (zeroI, 0, 2) := by unfold decOut; rw [if_pos (by omega)]
end Go.Proofs.YtechpdfcgimkkaaDoor
