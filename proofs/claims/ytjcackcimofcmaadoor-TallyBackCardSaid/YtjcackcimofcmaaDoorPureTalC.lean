/-
  A tally's text, plain (P5.1): lines, words, edges. No walk.
-/
import Derived.Test.YtjcackcimofcmaaDoorPureNumC
import Derived.Test.YtjcackcimofcmaaDoorPureEdC
import Derived.Lib.Split
namespace Go.Proofs.YtjcackcimofcmaaDoor
open Go.Lib
/-- The words between the spaces; 'cur': what the first word has already. -/
def spR : List UInt8 → List UInt8 → List (List UInt8)
  | [], cur => [cur]
  | c :: r, cur => if c = 32 then cur :: spR r [] else spR r (cur ++ [c])
theorem idx_step (b c : UInt8) (l : List UInt8) : index (b :: l) [c] = if b = c then 0 else if index l [c] = -1 then -1 else index l [c] + 1 := by
  rw [index]
  have : [c].isPrefixOf (b :: l) = decide (b = c) := by
    simp [List.isPrefixOf]
    rw [Bool.eq_iff_iff]
    simp
    exact eq_comm
  rw [this]
  by_cases h : b = c
  · simp [h]
  · simp [h]
theorem idx_spR : ∀ (s cur : List UInt8), (index s [32] = -1 → spR s cur = [cur ++ s]) ∧ ∀ i : Nat, index s [32] = (i : Int) → spR s cur = (cur ++ s.take i) :: spR (s.drop (i + 1)) []
  | [], cur => ⟨fun _ => by simp [spR], fun i h => by simp [index] at h⟩
  | b :: l, cur => by
    rw [idx_step]
    by_cases hb : b = 32
    · subst hb
      refine ⟨fun h => by simp at h, fun i h => ?_⟩
      simp at h
      have : i = 0 := by omega
      subst this
      simp [spR]
    · obtain ⟨h1, h2⟩ := idx_spR l (cur ++ [b])
      have hge := index_ge l [32]
      rw [if_neg hb]
      refine ⟨fun h => ?_, fun i h => ?_⟩
      · have : index l [32] = -1 := by
          by_cases hc : index l [32] = -1
          · exact hc
          · rw [if_neg hc] at h; omega
        rw [spR, if_neg hb, h1 this]
        simp
      · by_cases hc : index l [32] = -1
        · rw [if_pos hc] at h; omega
        · rw [if_neg hc] at h
          obtain ⟨k, rfl⟩ : ∃ k : Nat, i = k + 1 := ⟨i - 1, by omega⟩
          rw [spR, if_neg hb, h2 k (by omega)]
          simp
theorem count_spR : ∀ (fuel : Nat) (s : List UInt8), s.length < fuel → splitK [32] 0 (countFrom [32] fuel s) s = spR s []
  | 0, s, h => by omega
  | fuel + 1, s, h => by
    obtain ⟨h1, h2⟩ := idx_spR s []
    rw [countFrom]
    by_cases hc : index s [32] = -1
    · rw [if_pos (by simp [hc]), h1 hc]; rfl
    · have hge := index_ge s [32]
      obtain ⟨i, hi⟩ := Int.eq_ofNat_of_zero_le (show 0 ≤ index s [32] by omega)
      rw [if_neg (by simpa using hc), Nat.add_comm, splitK, if_neg (by simpa using hc), h2 i hi, hi]
      simp only [Int.toNat_natCast, List.length_singleton, Nat.add_zero, List.nil_append]
      have hl : (s.drop (i + 1)).length < fuel := by
        rw [List.length_drop]
        cases s with
        | nil => simp [index] at hc
        | cons b r => simp at h ⊢; omega
      rw [count_spR fuel _ hl]
theorem split_spR (s : ByteArray) : (splitB ⟨#[32]⟩ 0 (count s.data.toList [32]) s).map (·.data.toList) = spR s.data.toList [] := by
  rw [splitB_data]
  exact count_spR _ _ (Nat.lt_succ_self _)
/-- A line's edge: three numbers, a space between. -/
def edgeN (l : List UInt8) : Option Ed :=
  match spR l [] with
  | [a, b, c] => if 0 ≤ cntN a ∧ 0 ≤ cntN b ∧ 0 ≤ cntN c then some ⟨cntN a, cntN b, cntN c⟩ else none
  | _ => none
/-- The edges of a text and the error; 'l': what is read already. -/
def edgesN : Nat → List UInt8 → List Ed → Int × List Ed
  | 0, _, l => (0, l)
  | fuel + 1, s, l =>
    if s = [] then (0, l)
    else if index s [10] = -1 then (5, [])
    else match edgeN (s.take (index s [10]).toNat) with
      | none => (4, [])
      | some e => edgesN fuel (s.drop ((index s [10]).toNat + 1)) (l ++ [e])
/-- P5.1. -/
def tallyN (s : List UInt8) : Int × List Ed := if 4000 < s.length then (1, []) else edgesN (s.length + 1) s []
end Go.Proofs.YtjcackcimofcmaaDoor
