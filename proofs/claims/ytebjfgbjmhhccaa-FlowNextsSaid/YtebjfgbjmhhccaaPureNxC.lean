/-
  The numbers of a list, each once, rising: as slices.Sort and slices.Compact make it, and as a search for the least one beyond the last does.
-/
import Derived.Test.YtebjfgbjmhhccaaProg
import Derived.Lib.SlicesCompact
namespace Go.Proofs.Ytebjfgbjmhhccaa
open Go.Lib
/-- Strictly rising. -/
def Up (l : List Int) : Prop := ∀ (i j : Nat) (x y : Int), i < j → l[i]? = some x → l[j]? = some y → x < y
theorem up_snoc {l : List Int} {x : Int} (h : Up l) (hx : ∀ y ∈ l, y < x) : Up (l ++ [x]) := by
  intro i j a b hij ha hb
  have hj : j < l.length + 1 := by have := (List.getElem?_eq_some_iff.1 hb).1; simpa using this
  rcases Nat.lt_or_ge j l.length with q | q
  · rw [List.getElem?_append_left q] at hb
    rw [List.getElem?_append_left (by omega)] at ha
    exact h i j a b hij ha hb
  · obtain rfl : j = l.length := by omega
    rw [List.getElem?_append_right (Nat.le_refl _), Nat.sub_self] at hb
    rw [List.getElem?_append_left (by omega)] at ha
    simp at hb
    subst hb
    exact hx a (List.mem_of_getElem? ha)
theorem comp_up (zs : List Int) (hs : zs.Pairwise (· ≤ ·)) : ∀ m, m ≤ zs.length → Up (compactUpTo zs.toArray m) ∧ (∀ x, x ∈ compactUpTo zs.toArray m ↔ x ∈ zs.take m) ∧ ∀ x ∈ compactUpTo zs.toArray m, ∀ y, zs[m - 1]? = some y → x ≤ y
  | 0, _ => by
    refine ⟨?_, ?_, ?_⟩
    · intro i j x y _ h; simp [compactUpTo] at h
    · intro x; simp [compactUpTo]
    · intro x hx; simp [compactUpTo] at hx
  | m + 1, hm => by
    obtain ⟨i1, i2, i3⟩ := comp_up zs hs m (by omega)
    obtain ⟨z, hz⟩ : ∃ z, zs[m]? = some z := ⟨_, List.getElem?_eq_getElem (by omega)⟩
    have hz' : zs.toArray[m]! = z := by rw [getElem!_pos _ m (by simp; omega)]; simp; exact (List.getElem?_eq_some_iff.1 hz).2
    have htk : zs.take (m + 1) = zs.take m ++ [z] := by rw [List.take_add_one, hz]; rfl
    have hle : ∀ x ∈ zs.take m, x ≤ z := by
      intro x hx
      obtain ⟨k, hk⟩ := List.mem_iff_getElem?.1 hx
      rw [List.getElem?_take] at hk
      split at hk
      · rename_i hkm
        obtain ⟨h1, rfl⟩ := List.getElem?_eq_some_iff.1 hk
        obtain ⟨h2, rfl⟩ := List.getElem?_eq_some_iff.1 hz
        exact (List.pairwise_iff_getElem.1 hs) k m h1 h2 hkm
      · cases hk
    rw [compactUpTo_succ, hz']
    by_cases hk : keeps zs.toArray m = true
    · rw [if_pos hk]
      have hlt : ∀ x ∈ compactUpTo zs.toArray m, x < z := by
        intro x hx
        rcases Nat.eq_zero_or_pos m with q | q
        · subst q; simp [compactUpTo] at hx
        · obtain ⟨p, hp⟩ : ∃ p, zs[m - 1]? = some p := ⟨_, List.getElem?_eq_getElem (by omega)⟩
          have h1 := i3 x hx p hp
          have hp' : zs.toArray[m - 1]! = p := by rw [getElem!_pos _ (m - 1) (by simp; omega)]; simp; exact (List.getElem?_eq_some_iff.1 hp).2
          have hne : p ≠ z := by
            rintro rfl
            unfold keeps at hk
            rw [hz', hp'] at hk
            simp at hk
            omega
          have h2 : p ≤ z := by
            obtain ⟨g1, e1⟩ := List.getElem?_eq_some_iff.1 hp
            obtain ⟨g2, e2⟩ := List.getElem?_eq_some_iff.1 hz
            have := (List.pairwise_iff_getElem.1 hs) (m - 1) m g1 g2 (by omega)
            rwa [e1, e2] at this
          omega
      refine ⟨up_snoc i1 hlt, ?_, ?_⟩
      · intro x; rw [htk, List.mem_append, List.mem_append, i2]
      · intro x hx y hy
        rw [Nat.add_sub_cancel, hz] at hy
        cases hy
        rcases List.mem_append.1 hx with h | h
        · exact Int.le_of_lt (hlt x h)
        · simp at h; omega
    · rw [if_neg hk, List.append_nil]
      have hm0 : 0 < m := by
        rcases Nat.eq_zero_or_pos m with q | q
        · subst q; simp [keeps] at hk
        · exact q
      obtain ⟨p, hp⟩ : ∃ p, zs[m - 1]? = some p := ⟨_, List.getElem?_eq_getElem (by omega)⟩
      have hp' : zs.toArray[m - 1]! = p := by rw [getElem!_pos _ (m - 1) (by simp; omega)]; simp; exact (List.getElem?_eq_some_iff.1 hp).2
      have hpz : p = z := by
        unfold keeps at hk
        rw [hz', hp'] at hk
        simp at hk
        exact hk.2.symm
      subst hpz
      have hmem : p ∈ zs.take m := by
        rw [List.mem_iff_getElem?]
        exact ⟨m - 1, by rw [List.getElem?_take_of_lt (by omega)]; exact hp⟩
      refine ⟨i1, ?_, ?_⟩
      · intro x; rw [i2, htk, List.mem_append]
        constructor
        · exact Or.inl
        · rintro (h | h)
          · exact h
          · simp at h; subst h; exact hmem
      · intro x hx y hy
        rw [Nat.add_sub_cancel, hz] at hy
        cases hy
        exact hle x ((i2 x).1 hx)
/-- The numbers of a list, each once, rising. -/
def risen (l : List Int) : List Int := compact (l.mergeSort fun x y => decide (x ≤ y))
theorem risen_up (l : List Int) : Up (risen l) ∧ ∀ x, x ∈ risen l ↔ x ∈ l := by
  have hs : (l.mergeSort fun x y => decide (x ≤ y)).Pairwise (· ≤ ·) := by
    have := List.pairwise_mergeSort (le := fun x y : Int => decide (x ≤ y)) (fun a b c => by simp; omega) (fun a b => by simp; omega) l
    exact this.imp fun h => by simpa using h
  obtain ⟨h1, h2, _⟩ := comp_up _ hs _ (Nat.le_refl _)
  refine ⟨h1, fun x => ?_⟩
  unfold risen compact
  rw [h2 x, List.take_of_length_le (Nat.le_refl _)]
  exact (List.mergeSort_perm l _).mem_iff
/-- The least number that is let by, if there is one; as a loop finds it. -/
def least (p : Int → Bool) (l : List Int) : Option Int := l.foldl (fun b x => if p x && (match b with | none => true | some y => decide (x < y)) then some x else b) none
theorem least_snoc (p : Int → Bool) (l : List Int) (x : Int) : least p (l ++ [x]) = if p x && (match least p l with | none => true | some y => decide (x < y)) then some x else least p l := by
  unfold least; rw [List.foldl_append]; rfl
theorem least_is (p : Int → Bool) (l : List Int) : match least p l with | none => ∀ x ∈ l, p x = false | some v => v ∈ l ∧ p v = true ∧ ∀ x ∈ l, p x = true → v ≤ x := by
  generalize hn : l.length = n
  induction n generalizing l with
  | zero => obtain rfl := List.length_eq_zero_iff.1 hn; intro x hx; cases hx
  | succ n ih =>
    obtain ⟨l', x, rfl⟩ : ∃ l' x, l = l' ++ [x] := by
      have hne : l ≠ [] := by rintro rfl; simp at hn
      exact ⟨l.dropLast, l.getLast hne, (List.dropLast_concat_getLast hne).symm⟩
    have := ih l' (by simpa using hn)
    rw [least_snoc]
    cases hp : p x
    · simp only [Bool.false_and, Bool.false_eq_true, if_false]
      cases hl : least p l'
      · rw [hl] at this
        intro y hy
        rcases List.mem_append.1 hy with h | h
        · exact this y h
        · simp at h; subst h; exact hp
      · rw [hl] at this
        refine ⟨List.mem_append_left _ this.1, this.2.1, fun y hy hpy => ?_⟩
        rcases List.mem_append.1 hy with h | h
        · exact this.2.2 y h hpy
        · simp at h; subst h; rw [hp] at hpy; cases hpy
    · cases hl : least p l'
      · rw [hl] at this
        simp only [Bool.true_and, if_true]
        refine ⟨by simp, hp, fun y hy hpy => ?_⟩
        rcases List.mem_append.1 hy with h | h
        · rw [this y h] at hpy; cases hpy
        · simp at h; omega
      · rename_i v
        rw [hl] at this
        by_cases hxv : x < v
        · simp only [hxv, decide_true, Bool.true_and, if_true]
          refine ⟨by simp, hp, fun y hy hpy => ?_⟩
          rcases List.mem_append.1 hy with h | h
          · have := this.2.2 y h hpy; omega
          · simp at h; omega
        · simp only [hxv, decide_false, Bool.and_false, Bool.false_eq_true, if_false]
          refine ⟨List.mem_append_left _ this.1, this.2.1, fun y hy hpy => ?_⟩
          rcases List.mem_append.1 hy with h | h
          · exact this.2.2 y h hpy
          · simp at h; omega
/-- Beyond the last one of what is there. -/
def beyond (out : List Int) (x : Int) : Bool := match out.getLast? with | none => true | some y => decide (y < x)
theorem least_next {l S : List Int} (hu : Up S) (hm : ∀ x, x ∈ S ↔ x ∈ l) {k : Nat} (hk : k ≤ S.length) : least (beyond (S.take k)) l = S[k]? := by
  have h := least_is (beyond (S.take k)) l
  have hb : ∀ (j : Nat) (x : Int), S[j]? = some x → (beyond (S.take k) x = true ↔ k ≤ j) := by
    intro j x hj
    unfold beyond
    rcases Nat.eq_zero_or_pos k with q | q
    · subst q; simp
    · obtain ⟨y, hy⟩ : ∃ y, S[k - 1]? = some y := ⟨_, List.getElem?_eq_getElem (by omega)⟩
      have hl : (S.take k).getLast? = some y := by rw [List.getLast?_eq_getElem?, List.length_take, show min k S.length - 1 = k - 1 by omega, List.getElem?_take_of_lt (by omega)]; exact hy
      rw [hl]
      simp only [decide_eq_true_eq]
      constructor
      · intro hyx
        rcases Nat.lt_or_ge j k with g | g
        · rcases Nat.lt_or_ge j (k - 1) with g2 | g2
          · have := hu j (k - 1) x y g2 hj hy; omega
          · obtain rfl : j = k - 1 := by omega
            rw [hy] at hj; cases hj; omega
        · exact g
      · intro g
        exact hu (k - 1) j y x (by omega) hy hj
  cases hl : least (beyond (S.take k)) l
  · rw [hl] at h
    rcases Nat.lt_or_ge k S.length with g | g
    · obtain ⟨x, hx⟩ : ∃ x, S[k]? = some x := ⟨_, List.getElem?_eq_getElem g⟩
      have h1 := h x ((hm x).1 (List.mem_of_getElem? hx))
      have h2 := (hb k x hx).2 (Nat.le_refl _)
      rw [h1] at h2; cases h2
    · rw [List.getElem?_eq_none g]
  · rename_i v
    rw [hl] at h
    obtain ⟨h1, h2, h3⟩ := h
    obtain ⟨j, hj⟩ := List.mem_iff_getElem?.1 ((hm v).2 h1)
    have hkj := (hb j v hj).1 h2
    have hjl := (List.getElem?_eq_some_iff.1 hj).1
    obtain ⟨x, hx⟩ : ∃ x, S[k]? = some x := ⟨_, List.getElem?_eq_getElem (by omega)⟩
    have h4 := h3 x ((hm x).1 (List.mem_of_getElem? hx)) ((hb k x hx).2 (Nat.le_refl _))
    rcases Nat.lt_or_ge k j with g | g
    · have := hu k j x v g hx hj; omega
    · obtain rfl : j = k := by omega
      exact hj.symm
theorem up_len {S l : List Int} (hu : Up S) (hm : ∀ x, x ∈ S ↔ x ∈ l) : S.length ≤ l.length := by
  have hn : S.Nodup := by
    rw [List.nodup_iff_pairwise_ne, List.pairwise_iff_getElem]
    intro i j hi hj hij he
    have := hu i j _ _ hij (List.getElem?_eq_getElem hi) (List.getElem?_eq_getElem hj)
    omega
  exact hn.length_le_of_subset fun x hx => (hm x).1 hx
end Go.Proofs.Ytebjfgbjmhhccaa
