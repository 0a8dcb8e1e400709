/-
  The chapter's own way through a tally's text, plain: where a line ends, where its words end.
-/
import Derived.Test.YtjcackcimofcmaaDoorPureTalC
namespace Go.Proofs.YtjcackcimofcmaaDoor
open Go.Lib
/-- No line ends between A and E. -/
def Fnd (L : List UInt8) (A E : Nat) : Prop := (index (L.drop E) [10] = -1 → index (L.drop A) [10] = -1) ∧ ∀ i : Nat, index (L.drop E) [10] = (i : Int) → index (L.drop A) [10] = ((i + (E - A) : Nat) : Int)
theorem fnd_refl (L : List UInt8) (A : Nat) : Fnd L A A := ⟨id, fun i h => by rw [h, Nat.sub_self, Nat.add_zero]⟩
theorem fnd_step {L : List UInt8} {A E : Nat} (h : Fnd L A E) (hA : A ≤ E) (hE : E < L.length) (hc : L[E] ≠ 10) : Fnd L A (E + 1) := by
  have e : index (L.drop E) [10] = if index (L.drop (E + 1)) [10] = -1 then -1 else index (L.drop (E + 1)) [10] + 1 := by
    rw [List.drop_eq_getElem_cons hE, idx_step, if_neg hc]
  refine ⟨fun h2 => h.1 (by rw [e, if_pos h2]), fun i h2 => ?_⟩
  rw [h.2 (i + 1) (by rw [e, if_neg (by omega), h2]; rfl)]
  congr 1; omega
theorem fnd_end {L : List UInt8} {A E : Nat} (h : Fnd L A E) (hE : L.length ≤ E) : index (L.drop A) [10] = -1 := h.1 (by rw [List.drop_eq_nil_of_le hE]; rfl)
theorem fnd_hit {L : List UInt8} {A E : Nat} (h : Fnd L A E) (hE : E < L.length) (hc : L[E] = 10) : index (L.drop A) [10] = ((E - A : Nat) : Int) := by
  have := h.2 0 (by rw [List.drop_eq_getElem_cons hE, idx_step, if_pos hc]; rfl)
  rwa [Nat.zero_add] at this
/-- The words of the line A .. E, as far as i; F: where the word at i began. -/
def Wds (L : List UInt8) (A E F i : Nat) (p : List (List UInt8)) : Prop := p ++ spR ((L.take E).drop i) ((L.drop F).take (i - F)) = spR ((L.take E).drop A) []
theorem wds_start (L : List UInt8) (A E : Nat) : Wds L A E A A [] := by unfold Wds; simp
theorem wds_cons {L : List UInt8} {E i : Nat} (hi : i < E) (hE : E ≤ L.length) : (L.take E).drop i = L[i]'(by omega) :: (L.take E).drop (i + 1) := by
  rw [List.drop_eq_getElem_cons (by rw [List.length_take]; omega), List.getElem_take]
theorem wds_space {L : List UInt8} {A E F i : Nat} {p : List (List UInt8)} (h : Wds L A E F i p) (hi : i < E) (hE : E ≤ L.length) (hc : L[i]'(by omega) = 32) : Wds L A E (i + 1) (i + 1) (p ++ [(L.drop F).take (i - F)]) := by
  unfold Wds at *
  rw [wds_cons hi hE, spR, if_pos hc] at h
  rw [Nat.sub_self, List.take_zero, List.append_assoc]
  exact h
theorem wds_next {L : List UInt8} {A E F i : Nat} {p : List (List UInt8)} (h : Wds L A E F i p) (hi : i < E) (hF : F ≤ i) (hE : E ≤ L.length) (hc : L[i]'(by omega) ≠ 32) : Wds L A E F (i + 1) p := by
  unfold Wds at *
  rw [wds_cons hi hE, spR, if_neg hc] at h
  have : (L.drop F).take (i + 1 - F) = (L.drop F).take (i - F) ++ [L[i]'(by omega)] := by
    rw [show i + 1 - F = (i - F) + 1 by omega, List.take_add_one]
    congr 1
    rw [List.getElem?_drop, show F + (i - F) = i by omega, List.getElem?_eq_getElem (by omega)]
    rfl
  rw [this]
  exact h
theorem wds_last {L : List UInt8} {A E F : Nat} {p : List (List UInt8)} (h : Wds L A E F E p) : p ++ [(L.drop F).take (E - F)] = spR ((L.drop A).take (E - A)) [] := by
  unfold Wds at h
  rw [List.drop_eq_nil_of_le (by rw [List.length_take]; omega), spR] at h
  rw [h, List.drop_take]
end Go.Proofs.YtjcackcimofcmaaDoor
