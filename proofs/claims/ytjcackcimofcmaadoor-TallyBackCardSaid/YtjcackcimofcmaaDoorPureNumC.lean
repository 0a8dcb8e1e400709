/-
  A tally's numbers, plain: what the chapter's reckoning (P5.1) and the library's (Atoi, then Itoa back) say of a word. No program.
-/
import Derived.Lib.Atoi
import Derived.Lib.AtoiAllCases
import Derived.Lib.ItoaMem
import Derived.Lib.ItoaLen
namespace Go.Proofs.YtjcackcimofcmaaDoor
open Go.Lib
/-- P5.1's number: digits, ten at most, no needless zero, 2^30 at most; -1: none. -/
def cntN (l : List UInt8) : Int :=
  if l.length = 0 ∨ 10 < l.length ∨ (l.head? = some 48 ∧ l ≠ [48]) then -1
  else match decFrom 0 l with
    | some n => if 1073741824 < n then -1 else n
    | none => -1
/-- Atoi, and Itoa back. -/
def libN (l : List UInt8) : Int :=
  match atoiAll l with
  | .ok v => if v < 0 ∨ 1073741824 < v ∨ itoa v ≠ l then -1 else v
  | _ => -1
theorem cntN_ge (l : List UInt8) : -1 ≤ cntN l := by
  unfold cntN; split
  · decide
  · split
    · split <;> omega
    · decide
theorem cntN_le (l : List UInt8) : cntN l ≤ 1073741824 := by
  unfold cntN; split
  · decide
  · split
    · split <;> omega
    · decide
theorem decFrom_app (l : List UInt8) (c : UInt8) : ∀ acc, decFrom acc (l ++ [c]) = (decFrom acc l).bind fun m => (digitVal c).map fun d => m * 10 + d := by
  induction l with
  | nil => intro acc; simp only [List.nil_append, decFrom]; cases digitVal c <;> rfl
  | cons b r ih =>
    intro acc
    simp only [List.cons_append, decFrom]
    cases digitVal b with
    | none => rfl
    | some d => exact ih _
theorem digit_byte {c : UInt8} {d : Nat} (h : digitVal c = some d) : c = UInt8.ofNat (48 + d) ∧ d < 10 := by
  obtain ⟨h1, h2, rfl⟩ := digitVal_eq h
  refine ⟨?_, by omega⟩
  rw [show 48 + (c.toNat - 48) = c.toNat by omega]
  exact (UInt8.ofNat_toNat).symm
theorem digit_of (d : Nat) (h : d < 10) : digitVal (UInt8.ofNat (48 + d)) = some d := by
  unfold digitVal
  have : (UInt8.ofNat (48 + d)).toNat = 48 + d := by rw [UInt8.toNat_ofNat']; omega
  rw [this, if_pos (by omega)]
  congr 1; omega
theorem decFrom_digits (u : Nat) : decFrom 0 (decDigits u) = some u := by
  induction u using Nat.strongRecOn with
  | _ u ih =>
    by_cases h : u < 10
    · rw [decDigits_one h]; simp only [decFrom, digit_of u h]; simp
    · rw [decDigits, dif_neg h, decFrom_app, ih (u / 10) (by omega), digit_of _ (by omega)]
      simp only [Option.bind_some, Option.map_some]
      congr 1; omega
theorem head_app {α : Type} (l : List α) (c : α) (h : l ≠ []) : (l ++ [c]).head? = l.head? := by
  cases l with
  | nil => exact absurd rfl h
  | cons => rfl
theorem digits_ne (u : Nat) : decDigits u ≠ [] := fun h => by
  have := decDigits_length u; rw [h] at this; have := nDigits_pos u; simp at *; omega
theorem digits_head (u : Nat) (h : (decDigits u).head? = some 48) : decDigits u = [48] := by
  induction u using Nat.strongRecOn with
  | _ u ih =>
    by_cases hu : u < 10
    · rw [decDigits_one hu] at h ⊢
      have h' : UInt8.ofNat (48 + u) = 48 := Option.some.inj h
      rw [h']
    · rw [decDigits, dif_neg hu] at h
      rw [head_app _ _ (digits_ne _)] at h
      have h2 := ih (u / 10) (by omega) h
      have h3 := decFrom_digits (u / 10)
      rw [h2] at h3
      have h4 : decFrom 0 [48] = some 0 := by decide
      rw [h4] at h3
      simp at h3
      omega
/-- A numeral without needless zeros is the number's own. -/
theorem digits_of (n : Nat) : ∀ (l : List UInt8), l.length = n → l ≠ [] → (l.head? = some 48 → l = [48]) → ∀ u, decFrom 0 l = some u → decDigits u = l := by
  induction n with
  | zero => intro l hl h; exact absurd (List.length_eq_zero_iff.1 hl) h
  | succ n ih =>
    intro l hl h hz u hu
    have hs : l = l.dropLast ++ [l.getLast h] := (List.dropLast_concat_getLast h).symm
    generalize l.getLast h = c at hs
    generalize hp : l.dropLast = p at hs
    subst hs
    rw [decFrom_app] at hu
    obtain ⟨m, hm, hu⟩ := Option.bind_eq_some_iff.1 hu
    obtain ⟨d, hd, rfl⟩ := Option.map_eq_some_iff.1 hu
    obtain ⟨rfl, hd10⟩ := digit_byte hd
    cases p with
    | nil => simp only [decFrom, Option.some.injEq] at hm; subst hm; rw [decDigits, dif_pos (by omega)]; simp
    | cons b r =>
      have e := ih (b :: r) (by simpa using hl) (by simp) (fun hb => by
        exfalso
        have := hz (by simpa using hb)
        have := congrArg List.length this
        simp at this) m hm
      have hm1 : 1 ≤ m := by
        rcases Nat.eq_zero_or_pos m with rfl | hm1
        · exfalso
          rw [decDigits_one (by decide)] at e
          injection e with e1 e2
          subst e1
          have := hz (by simp)
          have := congrArg List.length this
          simp at this
        · exact hm1
      rw [decDigits, dif_neg (by omega), show (m * 10 + d) / 10 = m by omega, show (m * 10 + d) % 10 = d by omega, e]
theorem decFrom_ge : ∀ (l : List UInt8) (acc u : Nat), decFrom acc l = some u → acc ≤ u
  | [], acc, u, h => by simp only [decFrom, Option.some.injEq] at h; omega
  | b :: r, acc, u, h => by
    simp only [decFrom] at h
    split at h
    · have := decFrom_ge r _ _ h; omega
    · cases h
theorem parse_dec : ∀ (l : List UInt8) (acc u : Nat), decFrom acc l = some u → u < 1000000000000 → parseUint10 acc l = .ok u
  | [], acc, u, h, _ => by simp only [decFrom, Option.some.injEq] at h; subst h; rfl
  | b :: r, acc, u, h, hu => by
    simp only [decFrom] at h
    split at h
    · rename_i d hd
      obtain ⟨h1, h2, rfl⟩ := digitVal_eq hd
      have := decFrom_ge r _ _ h
      simp only [parseUint10]
      rw [if_pos ⟨h1, h2⟩, if_neg (by omega), if_neg (by omega)]
      exact parse_dec r _ u h hu
    · cases h
theorem digits_len {u : Nat} (h : u ≤ 1073741824) : (decDigits u).length ≤ 10 := by
  rw [decDigits_length]
  rcases Nat.lt_or_ge 10 (nDigits u) with hc | hc
  · exfalso
    have : ∀ k, 1 ≤ k → ∀ u, nDigits u = k → 10 ^ (k - 1) ≤ u ∨ k = 1 := by
      intro k
      induction k with
      | zero => intro h; omega
      | succ k ih =>
        intro _ u hu
        by_cases h10 : u < 10
        · rw [nDigits_small h10] at hu; exact Or.inr hu.symm
        · rw [nDigits_big h10] at hu
          left
          rcases Nat.eq_zero_or_pos k with rfl | hk
          · simp; omega
          · rcases ih hk (u / 10) (by omega) with h1 | rfl
            · have e : 10 ^ k = 10 ^ (k - 1) * 10 := by rw [← Nat.pow_succ]; congr 1; omega
              simp only [Nat.add_sub_cancel]; omega
            · simp; omega
    rcases this _ (nDigits_pos u) u rfl with h1 | h1
    · have : (10 : Nat) ^ 10 ≤ 10 ^ (nDigits u - 1) := Nat.pow_le_pow_right (by decide) (by omega)
      have h3 : (10 : Nat) ^ 10 = 10000000000 := by decide
      omega
    · omega
  · exact hc
/-- Both say the same of every word. -/
theorem libN_eq (l : List UInt8) : libN l = cntN l := by
  by_cases hA : l.length = 0 ∨ 10 < l.length ∨ (l.head? = some 48 ∧ l ≠ [48])
  · have e : cntN l = -1 := by unfold cntN; rw [if_pos hA]
    rw [e]; unfold libN
    split
    · rename_i v hv
      rw [if_pos]
      rcases Int.lt_or_le v 0 with h0 | h0
      · exact Or.inl h0
      · rcases Int.lt_or_le 1073741824 v with h1 | h1
        · exact Or.inr (Or.inl h1)
        · refine Or.inr (Or.inr fun hi => ?_)
          obtain ⟨u, rfl⟩ := Int.eq_ofNat_of_zero_le h0
          rw [itoa_nonneg] at hi
          rcases hA with h | h | ⟨h, h'⟩
          · exact digits_ne u (hi.trans (List.length_eq_zero_iff.1 h))
          · have := digits_len (u := u) (by omega); rw [hi] at this; omega
          · rw [← hi] at h h'; exact h' (digits_head u h)
    · rfl
  · have hne : l ≠ [] := fun h => hA (Or.inl (by simp [h]))
    have hz : l.head? = some 48 → l = [48] := fun h => Classical.byContradiction fun h' => hA (Or.inr (Or.inr ⟨h, h'⟩))
    unfold cntN; rw [if_neg hA]
    cases hd : decFrom 0 l with
    | some u =>
      simp only
      split
      · rename_i hu
        unfold libN
        split
        · rename_i v hv
          rw [if_pos]
          rcases Int.lt_or_le v 0 with h0 | h0
          · exact Or.inl h0
          · rcases Int.lt_or_le 1073741824 v with h1 | h1
            · exact Or.inr (Or.inl h1)
            · refine Or.inr (Or.inr fun hi => ?_)
              obtain ⟨x, rfl⟩ := Int.eq_ofNat_of_zero_le h0
              rw [itoa_nonneg] at hi
              have := decFrom_digits x
              rw [hi, hd] at this
              simp at this; omega
        · rfl
      · rename_i hu
        cases l with
        | nil => exact absurd rfl hne
        | cons b r =>
          have hb : ∃ d, digitVal b = some d := digit_of_decFrom (b :: r) 0 u hd 0 b rfl
          obtain ⟨d, hb⟩ := hb
          obtain ⟨h1, h2, _⟩ := digitVal_eq hb
          have hp := parse_dec (b :: r) 0 u hd (by omega)
          have ha : atoiAll (b :: r) = .ok (u : Int) := by
            rw [atoiAll_plain b r (by omega) (by omega)]
            unfold parseMag
            rw [if_neg (by simp), hp]
            unfold signless
            simp
            try omega
          have hi : itoa (u : Int) = b :: r := by rw [itoa_nonneg]; exact digits_of _ (b :: r) rfl hne hz u hd
          unfold libN
          rw [ha]
          simp only
          rw [if_neg (by rw [hi]; simp; omega)]
    | none =>
      simp only
      unfold libN
      split
      · rename_i v hv
        rw [if_pos]
        rcases Int.lt_or_le v 0 with h0 | h0
        · exact Or.inl h0
        · refine Or.inr (Or.inr fun hi => ?_)
          obtain ⟨x, rfl⟩ := Int.eq_ofNat_of_zero_le h0
          rw [itoa_nonneg] at hi
          have := decFrom_digits x
          rw [hi, hd] at this
          cases this
      · rfl
end Go.Proofs.YtjcackcimofcmaaDoor
