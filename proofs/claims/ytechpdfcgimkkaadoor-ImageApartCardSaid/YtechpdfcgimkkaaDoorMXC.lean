/-
  Plain: a round of putting a plan together, spot by spot: what is written so far, which spots are made long.
-/
import Derived.Test.YtechpdfcgimkkaaDoorPureAsC
import Derived.Test.YtechpdfcgimkkaaDoorPgMoreC
namespace Go.Proofs.YtechpdfcgimkkaaDoor
open Go.RowKit Isa
theorem em_snoc (ats fs : List Int) (xs : List Sp) (x : Sp) : emUpTo ats fs (xs ++ [x]) = emS ats fs (emUpTo ats fs xs) x := by simp [emUpTo]
theorem longB_len (ats fs : List Int) (pre b : List Sp) (n : Nat) : (longB ats fs pre b n).length = b.length := by simp [longB]
theorem longB_at {ats fs : List Int} {pre b : List Sp} {j : Nat} {x : Sp} (n : Nat) (h : b[j]? = some x) :
    (longB ats fs pre b n)[j]? = some (if j < n then longS ats fs (emUpTo ats fs (pre ++ b.take j)).text.length x else x) := by
  have hj : j < b.length := (List.getElem?_eq_some_iff.1 h).1
  unfold longB
  rw [List.getElem?_map, List.getElem?_range hj, Option.map_some, List.getD_eq_getElem?_getD, h]
  rfl
theorem longB_zero (ats fs : List Int) (pre b : List Sp) : longB ats fs pre b 0 = b := by
  apply List.ext_getElem?
  intro j
  cases h : b[j]? with
  | none => rw [List.getElem?_eq_none_iff] at h ⊢; rw [longB_len]; exact h
  | some x => rw [longB_at 0 h, if_neg (by omega)]
theorem longB_succ {ats fs : List Int} {pre b : List Sp} {j : Nat} {x : Sp} (h : b[j]? = some x) :
    longB ats fs pre b (j + 1) = (longB ats fs pre b j).set j (longS ats fs (emUpTo ats fs (pre ++ b.take j)).text.length x) := by
  have hj : j < b.length := (List.getElem?_eq_some_iff.1 h).1
  apply List.ext_getElem?
  intro i
  by_cases e : i = j
  · subst e
    rw [longB_at (i + 1) h, if_pos (by omega), List.getElem?_set_self (by rw [longB_len]; exact hj)]
  · rw [List.getElem?_set_ne (fun q => e q.symm)]
    cases hi : b[i]? with
    | none => rw [List.getElem?_eq_none_iff] at hi; rw [List.getElem?_eq_none (by rw [longB_len]; exact hi), List.getElem?_eq_none (by rw [longB_len]; exact hi)]
    | some y =>
      rw [longB_at _ hi, longB_at _ hi]
      by_cases q : i < j
      · rw [if_pos q, if_pos (by omega)]
      · rw [if_neg q, if_neg (by omega)]
/-- The blocks of a round, made long where they must. -/
def markFrom (ats fs : List Int) : List Sp → List (List Sp) → List (List Sp)
  | _, [] => []
  | pre, b :: r => longB ats fs pre b b.length :: markFrom ats fs (pre ++ b) r
theorem markFrom_len (ats fs : List Int) : ∀ (pre : List Sp) (bs : List (List Sp)), (markFrom ats fs pre bs).length = bs.length
  | _, [] => rfl
  | pre, b :: r => by rw [markFrom, List.length_cons, List.length_cons, markFrom_len ats fs _ r]
theorem markFrom_snoc (ats fs : List Int) : ∀ (pre : List Sp) (bs : List (List Sp)) (b : List Sp), markFrom ats fs pre (bs ++ [b]) = markFrom ats fs pre bs ++ [longB ats fs (pre ++ bs.flatten) b b.length]
  | pre, [], b => by simp [markFrom]
  | pre, c :: r, b => by
    rw [List.cons_append, markFrom, markFrom, markFrom_snoc ats fs _ r b, List.cons_append, List.flatten_cons, List.append_assoc]
/-- A plan's blocks in the midst of a round: k blocks done, and so many spots of the next one. -/
def midOf (ats fs : List Int) (cs : List (List Sp)) (k : Nat) : List (List Sp) := markFrom ats fs [] (cs.take k) ++ cs.drop k
theorem mid_zero (ats fs : List Int) (cs : List (List Sp)) : midOf ats fs cs 0 = cs := by simp [midOf, markFrom]
theorem mid_succ {ats fs : List Int} {cs : List (List Sp)} {k : Nat} {b : List Sp} (h : cs[k]? = some b) :
    midOf ats fs cs (k + 1) = (midOf ats fs cs k).set k (longB ats fs (cs.take k).flatten b b.length) := by
  have hk : k < cs.length := (List.getElem?_eq_some_iff.1 h).1
  have hl : (markFrom ats fs [] (cs.take k)).length = k := by rw [markFrom_len, List.length_take]; omega
  have hd : cs.drop k = b :: cs.drop (k + 1) := by rw [List.drop_eq_getElem_cons hk]; congr 1; rw [List.getElem?_eq_getElem hk] at h; exact Option.some.inj h
  unfold midOf
  rw [List.take_add_one, h, Option.toList_some, markFrom_snoc, List.nil_append, hd, List.set_append_right _ _ (by omega), hl, Nat.sub_self, List.set_cons_zero, List.append_assoc]
  rfl
theorem mid_at {ats fs : List Int} {cs : List (List Sp)} {k : Nat} {b : List Sp} (h : cs[k]? = some b) : (midOf ats fs cs k)[k]? = some b := by
  have hk : k < cs.length := (List.getElem?_eq_some_iff.1 h).1
  have hl : (markFrom ats fs [] (cs.take k)).length = k := by rw [markFrom_len, List.length_take]; omega
  unfold midOf
  rw [List.getElem?_append_right (by omega), hl, Nat.sub_self, List.getElem?_drop, Nat.add_zero, h]
end Go.Proofs.YtechpdfcgimkkaaDoor
/-
  Plain: a round makes spots long and does nothing else; where one must be made long, there are fewer short ones behind it.
-/
namespace Go.Proofs.YtechpdfcgimkkaaDoor
open Go.RowKit Isa
/-- Is the spot one that may still be made long? -/
def shortS (x : Sp) : Nat := if x.i.l = false ∧ 0 ≤ x.blk then 1 else 0
def nShort (bs : List (List Sp)) : Nat := (bs.map fun b => (b.map shortS).sum).sum
/-- Made long here and there, else the same. -/
def LngS (x y : Sp) : Prop := y = x ∨ (x.i.l = false ∧ 0 ≤ x.blk ∧ y = { x with i := { x.i with l := true } })
theorem LngS.trans {x y z : Sp} (h1 : LngS x y) (h2 : LngS y z) : LngS x z := by
  rcases h1 with rfl | ⟨a, b, rfl⟩
  · exact h2
  · rcases h2 with rfl | ⟨c, _, _⟩
    · exact Or.inr ⟨a, b, rfl⟩
    · simp at c
theorem must_short {ats fs : List Int} {here : Int} {x : Sp} (h : mustS ats fs here x = true) : x.i.l = false ∧ 0 ≤ x.blk := by
  unfold mustS at h
  simp at h
  exact ⟨h.1.2, h.2⟩
theorem longS_lng (ats fs : List Int) (here : Int) (x : Sp) : LngS x (longS ats fs here x) := by
  unfold longS
  split
  · rename_i h
    obtain ⟨a, b⟩ := must_short h
    exact Or.inr ⟨a, b, rfl⟩
  · exact Or.inl rfl
theorem longS_short (ats fs : List Int) (here : Int) (x : Sp) : shortS (longS ats fs here x) + (if mustS ats fs here x = true then 1 else 0) = shortS x := by
  unfold longS
  split
  · rename_i h
    obtain ⟨a, b⟩ := must_short h
    unfold shortS
    simp [a, b]
  · omega
structure Lng (bs cs : List (List Sp)) : Prop where
  len : bs.length = cs.length
  each : ∀ (k : Nat) (b c : List Sp), bs[k]? = some b → cs[k]? = some c → b.length = c.length ∧ ∀ (j : Nat) (x y : Sp), b[j]? = some x → c[j]? = some y → LngS x y
theorem Lng.trans {bs cs ds : List (List Sp)} (h1 : Lng bs cs) (h2 : Lng cs ds) : Lng bs ds := by
  refine ⟨h1.len.trans h2.len, fun k b d hb hd => ?_⟩
  have hk : k < cs.length := by have := (List.getElem?_eq_some_iff.1 hd).1; have := h2.len; omega
  obtain ⟨a1, a2⟩ := h1.each k b _ hb (List.getElem?_eq_getElem hk)
  obtain ⟨b1, b2⟩ := h2.each k _ d (List.getElem?_eq_getElem hk) hd
  refine ⟨a1.trans b1, fun j x z hx hz => ?_⟩
  have hj : j < cs[k].length := by have := (List.getElem?_eq_some_iff.1 hz).1; omega
  exact (a2 j x _ hx (List.getElem?_eq_getElem hj)).trans (b2 j _ z (List.getElem?_eq_getElem hj) hz)
theorem mark_at (ats fs : List Int) : ∀ (bs : List (List Sp)) (pre : List Sp) (k : Nat) (b : List Sp), bs[k]? = some b → (markFrom ats fs pre bs)[k]? = some (longB ats fs (pre ++ (bs.take k).flatten) b b.length)
  | [], _, k, b, h => by simp at h
  | c :: r, pre, 0, b, h => by
    simp at h
    subst h
    simp [markFrom]
  | c :: r, pre, k + 1, b, h => by
    have := mark_at ats fs r (pre ++ c) k b (by simpa using h)
    rw [markFrom, List.getElem?_cons_succ, this]
    simp
theorem mark_lng (ats fs : List Int) (pre : List Sp) (bs : List (List Sp)) : Lng bs (markFrom ats fs pre bs) := by
  refine ⟨(markFrom_len ats fs pre bs).symm, fun k b c hb hc => ?_⟩
  rw [mark_at ats fs bs pre k b hb] at hc
  cases hc
  refine ⟨(longB_len ..).symm, fun j x y hx hy => ?_⟩
  rw [longB_at _ hx] at hy
  cases hy
  split
  · exact longS_lng ..
  · exact Or.inl rfl
end Go.Proofs.YtechpdfcgimkkaaDoor
/-
  Plain: where a round must go on, fewer spots are short behind it.
-/
namespace Go.Proofs.YtechpdfcgimkkaaDoor
open Go.RowKit Isa
def markL (ats fs : List Int) : List Sp → List Sp → List Sp
  | _, [] => []
  | pre, x :: r => longS ats fs (emUpTo ats fs pre).text.length x :: markL ats fs (pre ++ [x]) r
theorem markL_at (ats fs : List Int) : ∀ (xs pre : List Sp) (j : Nat), (markL ats fs pre xs)[j]? = (xs[j]?).map fun x => longS ats fs (emUpTo ats fs (pre ++ xs.take j)).text.length x
  | [], _, j => by simp [markL]
  | x :: r, pre, 0 => by simp [markL]
  | x :: r, pre, j + 1 => by
    rw [markL, List.getElem?_cons_succ, List.getElem?_cons_succ, markL_at ats fs r _ j, List.take_succ_cons, List.append_assoc]
    rfl
theorem longB_markL (ats fs : List Int) (pre b : List Sp) : longB ats fs pre b b.length = markL ats fs pre b := by
  apply List.ext_getElem?
  intro j
  rw [markL_at]
  cases h : b[j]? with
  | none => rw [Option.map_none, List.getElem?_eq_none_iff, longB_len]; exact List.getElem?_eq_none_iff.1 h
  | some x => rw [longB_at _ h, if_pos (List.getElem?_eq_some_iff.1 h).1]; rfl
theorem markL_app (ats fs : List Int) : ∀ (xs ys pre : List Sp), markL ats fs pre (xs ++ ys) = markL ats fs pre xs ++ markL ats fs (pre ++ xs) ys
  | [], ys, pre => by simp [markL]
  | x :: r, ys, pre => by
    rw [List.cons_append, markL, markL, markL_app ats fs r ys, List.cons_append, List.append_assoc]
    rfl
theorem mark_flat (ats fs : List Int) : ∀ (bs : List (List Sp)) (pre : List Sp), (markFrom ats fs pre bs).flatten = markL ats fs pre bs.flatten
  | [], _ => rfl
  | b :: r, pre => by rw [markFrom, List.flatten_cons, List.flatten_cons, markL_app, mark_flat ats fs r, longB_markL]
def nS (xs : List Sp) : Nat := (xs.map shortS).sum
theorem nShort_flat (bs : List (List Sp)) : nShort bs = nS bs.flatten := by
  induction bs with
  | nil => rfl
  | cons b r ih =>
    have e1 : nShort (b :: r) = nS b + nShort r := by simp [nShort, nS]
    rw [e1, ih]
    simp [nS]
theorem nS_mark (ats fs : List Int) : ∀ (xs pre : List Sp), nS (markL ats fs pre xs) ≤ nS xs ∧ ((emUpTo ats fs (pre ++ xs)).again = true → (emUpTo ats fs pre).again = true ∨ nS (markL ats fs pre xs) < nS xs)
  | [], pre => ⟨by simp [markL], fun h => Or.inl (by rwa [List.append_nil] at h)⟩
  | x :: r, pre => by
    obtain ⟨h1, h2⟩ := nS_mark ats fs r (pre ++ [x])
    have hs := longS_short ats fs (emUpTo ats fs pre).text.length x
    have e1 : nS (markL ats fs pre (x :: r)) = shortS (longS ats fs (emUpTo ats fs pre).text.length x) + nS (markL ats fs (pre ++ [x]) r) := by simp [nS, markL]
    have e2 : nS (x :: r) = shortS x + nS r := by simp [nS]
    have e3 : pre ++ x :: r = (pre ++ [x]) ++ r := by simp
    have e4 : (emUpTo ats fs (pre ++ [x])).again = ((emUpTo ats fs pre).again || mustS ats fs (emUpTo ats fs pre).text.length x) := by rw [em_snoc]; rfl
    rw [e1, e2, e3]
    refine ⟨by split at hs <;> omega, fun h => ?_⟩
    rcases h2 h with q | q
    · rw [e4, Bool.or_eq_true] at q
      rcases q with q | q
      · exact Or.inl q
      · rw [if_pos q] at hs
        exact Or.inr (by omega)
    · exact Or.inr (by split at hs <;> omega)
/-- A round that must go on leaves fewer short spots. -/
theorem round_less (ats fs : List Int) (bs : List (List Sp)) (h : (emUpTo ats fs bs.flatten).again = true) : nShort (markFrom ats fs [] bs) < nShort bs := by
  rw [nShort_flat, nShort_flat, mark_flat]
  rcases (nS_mark ats fs bs.flatten []).2 (by rw [List.nil_append]; exact h) with q | q
  · cases q
  · exact q
end Go.Proofs.YtechpdfcgimkkaaDoor
/-
  Plain: what boltholekeep.Program's plan is: its functions begin where blocks are; its blocks are short.
-/
namespace Go.Proofs.YtechpdfcgimkkaaDoor
open Go.RowKit Isa
theorem many_pos (l : List Rw) (f q : Nat) : 1 ≤ manyOf l f q := by unfold manyOf; omega
theorem plan_step (l : List Rw) (q f : Nat) : (planUpTo l q (f + 1)).1.length = (planUpTo l q f).1.length + manyOf l f q := by simp only [planUpTo, List.length_append, blocksUpTo_len]
theorem plan_fs (l : List Rw) (q : Nat) : ∀ f i, i < f → (planUpTo l q f).2[i]? = some ((planUpTo l q i).1.length : Int)
  | 0, i, h => by omega
  | f + 1, i, h => by
    have hl : (planUpTo l q f).2.length = f := by
      clear h
      induction f with
      | zero => rfl
      | succ f ih => simp only [planUpTo, List.length_append, List.length_cons, List.length_nil, ih]
    simp only [planUpTo]
    by_cases e : i = f
    · subst e
      rw [List.getElem?_append_right (by omega), hl, Nat.sub_self]; rfl
    · rw [List.getElem?_append_left (by omega)]
      exact plan_fs l q f i (by omega)
theorem plan_mono (l : List Rw) (q : Nat) : ∀ f i, i ≤ f → (planUpTo l q i).1.length ≤ (planUpTo l q f).1.length
  | 0, i, h => by
    obtain rfl : i = 0 := by omega
    exact Nat.le_refl _
  | f + 1, i, h => by
    by_cases e : i = f + 1
    · subst e; exact Nat.le_refl _
    · have := plan_mono l q f i (by omega)
      rw [plan_step]; omega
theorem fit_plan (l : List Rw) (q : Nat) (hq : q ≤ 3) (hl : l.length ≤ 150) : Fit (planUpTo l q q).1 (planUpTo l q q).2 := by
  obtain ⟨h1, h2⟩ := planUpTo_len l q hl q (Nat.le_refl _)
  refine ⟨by omega, by omega, fun f hf => ?_⟩
  rw [h2] at hf
  refine ⟨(planUpTo l q f).1.length, (planUpTo l q (f + 1)).1.length, plan_fs l q q f hf, ?_, ?_, plan_mono l q q (f + 1) (by omega)⟩
  · unfold lastOf
    by_cases e : f + 1 < q
    · rw [plan_fs l q q (f + 1) e]; rfl
    · rw [List.getElem?_eq_none (by omega), show f + 1 = q by omega]; rfl
  · rw [plan_step]
    have := many_pos l f q
    omega
theorem end_len (l : List Rw) (n a b : Int) : (endOf l n a b).length ≤ 1 := by
  unfold endOf
  repeat' split
  all_goals simp
theorem block_len (l : List Rw) (n a b q : Int) : (blockOf l n a b q).length ≤ l.length + 1 := by
  unfold blockOf bodyOf
  rw [List.length_append, List.length_map, List.length_take]
  have := end_len l n a b
  omega
theorem blocks_len (l : List Rw) (f q first n : Nat) (hf : f < q) (hn : n ≤ manyOf l f q) : ∀ b ∈ blocksUpTo l f q first n, b.length ≤ l.length + 1 := by
  intro b hb
  unfold blocksUpTo at hb
  obtain ⟨k, hk, rfl⟩ := List.mem_map.1 hb
  have hk' := List.mem_range.1 hk
  refine Nat.le_trans (block_len _ _ _ _ _) ?_
  have h1 := share_len (share l f q) k (manyOf l f q) (by omega)
  have h2 := share_len l f q hf
  omega
theorem plan_len (l : List Rw) (q : Nat) : ∀ f, f ≤ q → ∀ b ∈ (planUpTo l q f).1, b.length ≤ l.length + 1
  | 0, _, b, hb => by simp [planUpTo] at hb
  | f + 1, h, b, hb => by
    simp only [planUpTo, List.mem_append] at hb
    rcases hb with hb | hb
    · exact plan_len l q f (by omega) b hb
    · exact blocks_len l f q _ _ (by omega) (Nat.le_refl _) b hb
end Go.Proofs.YtechpdfcgimkkaaDoor
/-
  Plain: the spots of boltholekeep.Program's plan lead to blocks and functions that are there.
-/
namespace Go.Proofs.YtechpdfcgimkkaaDoor
open Go.RowKit Isa
/-- A spot leads to a block that is there, or calls a function that is there, or neither. -/
def SpIn (nb nf : Int) (x : Sp) : Prop := (x.blk = -1 ∨ (0 ≤ x.blk ∧ x.blk < nb)) ∧ (x.fn = -1 ∨ (0 ≤ x.fn ∧ x.fn < nf)) ∧ (x.blk = -1 ∨ x.fn = -1)
theorem SpIn.more {nb nb' nf : Int} {x : Sp} (h : SpIn nb nf x) (hb : nb ≤ nb') : SpIn nb' nf x := ⟨h.1.imp id fun q => ⟨q.1, by omega⟩, h.2⟩
theorem spOf_in (nb q : Int) (r : Rw) (hq : 0 < q) : SpIn nb q (spOf q r) := by
  unfold spOf
  split
  · exact ⟨Or.inl rfl, Or.inr (pk_bd r.A q hq), Or.inl rfl⟩
  · exact ⟨Or.inl rfl, Or.inl rfl, Or.inl rfl⟩
theorem end_in (l : List Rw) (n a b q : Int) (h0 : 0 ≤ a) (h1 : a ≤ b) : ∀ x ∈ endOf l n a b, SpIn (b + 1) q x := by
  intro x hx
  have hp := pk_bd (lastRw l).B (b - a + 1) (by omega)
  unfold endOf at hx
  split at hx
  · simp only [List.mem_singleton] at hx
    subst hx
    exact ⟨Or.inr ⟨by show 0 ≤ a + pk (lastRw l).B (b - a + 1); omega, by show a + pk (lastRw l).B (b - a + 1) < b + 1; omega⟩, Or.inl rfl, Or.inr rfl⟩
  split at hx
  · simp only [List.mem_singleton] at hx
    subst hx
    exact ⟨Or.inr ⟨by show 0 ≤ a + pk (lastRw l).B (b - a + 1); omega, by show a + pk (lastRw l).B (b - a + 1) < b + 1; omega⟩, Or.inl rfl, Or.inr rfl⟩
  split at hx
  · simp at hx
  split at hx
  · simp only [List.mem_singleton] at hx
    subst hx
    exact ⟨Or.inl rfl, Or.inl rfl, Or.inl rfl⟩
  split at hx
  · simp only [List.mem_singleton] at hx
    subst hx
    exact ⟨Or.inl rfl, Or.inl rfl, Or.inl rfl⟩
  · simp only [List.mem_singleton] at hx
    subst hx
    exact ⟨Or.inl rfl, Or.inl rfl, Or.inl rfl⟩
theorem blocks_in (l : List Rw) (f q first : Nat) (hq : 0 < q) : ∀ b ∈ blocksUpTo l f q first (manyOf l f q), ∀ x ∈ b, SpIn ((first + manyOf l f q : Nat) : Int) q x := by
  intro b hb x hx
  have hm := many_pos l f q
  unfold blocksUpTo at hb
  obtain ⟨k, hk, rfl⟩ := List.mem_map.1 hb
  unfold blockOf bodyOf at hx
  rcases List.mem_append.1 hx with hx | hx
  · obtain ⟨r, _, rfl⟩ := List.mem_map.1 hx
    exact spOf_in _ q r (by omega)
  · have := end_in _ _ _ _ q (by omega) (by omega) x hx
    exact this.more (by omega)
theorem plan_in (l : List Rw) (q : Nat) (hq : 0 < q) : ∀ f, ∀ b ∈ (planUpTo l q f).1, ∀ x ∈ b, SpIn ((planUpTo l q f).1.length : Int) q x
  | 0, b, hb => by simp [planUpTo] at hb
  | f + 1, b, hb => by
    intro x hx
    have hs := plan_step l q f
    simp only [planUpTo, List.mem_append] at hb
    rcases hb with hb | hb
    · exact (plan_in l q hq f b hb x hx).more (by omega)
    · rw [hs]; exact blocks_in l f q _ hq b hb x hx
end Go.Proofs.YtechpdfcgimkkaaDoor
/-
  Plain: a plan made long leads where it led.
-/
namespace Go.Proofs.YtechpdfcgimkkaaDoor
open Go.RowKit Isa
theorem LngS.spin {x y : Sp} {nb nf : Int} (h : LngS x y) (hx : SpIn nb nf x) : SpIn nb nf y := by
  rcases h with rfl | ⟨_, _, rfl⟩
  · exact hx
  · exact hx
theorem Lng.spin {bs cs : List (List Sp)} {nb nf : Int} (h : Lng bs cs) (hs : ∀ b ∈ bs, ∀ x ∈ b, SpIn nb nf x) : ∀ c ∈ cs, ∀ x ∈ c, SpIn nb nf x := by
  intro c hc y hy
  obtain ⟨k, hk, rfl⟩ := List.mem_iff_getElem.1 hc
  obtain ⟨j, hj, rfl⟩ := List.mem_iff_getElem.1 hy
  have hkb : k < bs.length := by have := h.len; omega
  obtain ⟨h1, h2⟩ := h.each k _ _ (List.getElem?_eq_getElem hkb) (List.getElem?_eq_getElem hk)
  have hjb : j < bs[k].length := by omega
  exact (h2 j _ _ (List.getElem?_eq_getElem hjb) (List.getElem?_eq_getElem hj)).spin (hs _ (List.getElem_mem hkb) _ (List.getElem_mem hjb))
theorem Lng.short {bs cs : List (List Sp)} {m : Nat} (h : Lng bs cs) (hs : ∀ b ∈ bs, b.length ≤ m) : ∀ c ∈ cs, c.length ≤ m := by
  intro c hc
  obtain ⟨k, hk, rfl⟩ := List.mem_iff_getElem.1 hc
  have hkb : k < bs.length := by have := h.len; omega
  obtain ⟨h1, _⟩ := h.each k _ _ (List.getElem?_eq_getElem hkb) (List.getElem?_eq_getElem hk)
  have := hs _ (List.getElem_mem hkb)
  omega
theorem Lng.fit {bs cs : List (List Sp)} {fs : List Int} (h : Lng bs cs) (hf : Fit bs fs) : Fit cs fs := by
  have hl := h.len
  refine ⟨hf.few, by rw [← hl]; exact hf.small, fun f hlt => ?_⟩
  obtain ⟨n, m, e1, e2, e3, e4⟩ := hf.seg f hlt
  exact ⟨n, m, e1, by unfold lastOf at e2 ⊢; rw [← hl]; exact e2, e3, by omega⟩
theorem Lng.refl (bs : List (List Sp)) : Lng bs bs := ⟨rfl, fun k b c hb hc => by
  rw [hb] at hc
  cases hc
  exact ⟨rfl, fun j x y hx hy => by rw [hx] at hy; cases hy; exact Or.inl rfl⟩⟩
end Go.Proofs.YtechpdfcgimkkaaDoor
/-
  Plain: the spots of boltholekeep.Program's plan are instructions that may be; how many bytes they have, led wherever they lead.
-/
namespace Go.Proofs.YtechpdfcgimkkaaDoor
open Go.RowKit Isa
/-- A spot is an instruction that may be; who leads to a block is a branch or a Jump, who calls is a Call. -/
structure SpOk (x : Sp) : Prop where
  chk : x.i.chk = 0
  blk : 0 ≤ x.blk → 18 ≤ x.i.k ∧ x.i.k ≤ 22 ∧ x.i.n = 0
  fn : 0 ≤ x.fn → x.i.k = 23
  l0 : 0 ≤ x.line
  l1 : x.line < 5
theorem neg_one : ¬ (0 : Int) ≤ -1 := by decide
theorem wid_lo (k : Int) (l : Bool) : lo k l ≤ 0 ∧ 0 ≤ hi k l := by
  unfold lo hi
  split
  · omega
  · split <;> omega
theorem form_plain {k d a b n : Int} {l : Bool} (h : formB k d a b n l = true) (n' : Int) (hn : n' = 0 ∨ rN k = true) : formB k 0 0 0 n' l = true := by
  unfold formB at h ⊢
  simp only [Bool.and_eq_true, Bool.or_eq_true] at h ⊢
  refine ⟨⟨⟨⟨Or.inl rfl, Or.inl rfl⟩, Or.inl rfl⟩, ?_⟩, h.2⟩
  rcases hn with rfl | hn
  · exact Or.inl rfl
  · exact Or.inr hn
theorem chk_bare {k d a b n : Int} {l : Bool} (h : Isa.chk k d a b n l = 0) : Isa.chk k 0 0 0 0 l = 0 := by
  obtain ⟨h1, h2, hf, _, _, _, _, _⟩ := chk_zero h
  obtain ⟨w1, w2⟩ := wid_lo k l
  exact chk_ok h1 h2 (form_plain hf 0 (Or.inl rfl)) rfl rfl rfl w1 w2
theorem szS_eq {x : Sp} (h : x.i.chk = 0) : szS x = siz x.i.k x.i.l := by
  unfold szS sizeNum
  exact if_pos h
theorem siz_pos {k : Int} {l : Bool} (h1 : 1 ≤ k) (h2 : k ≤ 24) : 1 ≤ siz k l ∧ siz k l ≤ 5 := by
  have := wid_bd k l h1 h2
  unfold siz
  split <;> split <;> omega
theorem szS_pos {x : Sp} (h : x.i.chk = 0) : 1 ≤ szS x ∧ szS x ≤ 5 := by
  obtain ⟨h1, h2, _⟩ := chk_zero h
  rw [szS_eq h]
  exact siz_pos h1 h2
theorem code_len {x : Sp} (h : x.i.chk = 0) (n : Int) : ((codeOf { x.i with n := n }).length : Int) = szS x := by
  obtain ⟨h1, h2, _⟩ := chk_zero h
  rw [szS_eq h]
  unfold codeOf
  split
  · exact encL_len h1 h2
  · show ((List.replicate (sizeNum x.i.k 0 0 0 0 x.i.l).toNat (0 : Int)).length : Int) = _
    have hp := siz_pos (l := x.i.l) h1 h2
    rw [List.length_replicate, sizeNum, if_pos (chk_bare h)]
    omega
theorem code_bytes (i : Ins) : ∀ y ∈ codeOf i, 0 ≤ y ∧ y ≤ 255 := by
  intro y hy
  unfold codeOf at hy
  split at hy
  · rename_i h
    exact enc_bytes h y hy
  · obtain ⟨_, rfl⟩ := List.mem_replicate.1 hy
    omega
theorem insAt_eq (ats fs : List Int) (here : Int) (x : Sp) : ∃ n, insAt ats fs here x = { x.i with n := n } := ⟨_, rfl⟩
theorem szB_cons (x : Sp) (r : List Sp) : szB (x :: r) = szS x + szB r := by simp [szB]
theorem szB_app (a b : List Sp) : szB (a ++ b) = szB a + szB b := by simp [szB]
theorem szAll_flat (bs : List (List Sp)) : szAll bs = szB bs.flatten := by
  induction bs with
  | nil => rfl
  | cons b r ih => rw [List.flatten_cons, szB_app, ← ih]; simp [szAll]
theorem szB_pos (b : List Sp) (h : ∀ x ∈ b, x.i.chk = 0) : (b.length : Int) ≤ szB b ∧ szB b ≤ 5 * b.length := by
  induction b with
  | nil => simp [szB]
  | cons x r ih =>
    have h1 := szS_pos (h x (List.mem_cons_self ..))
    have h2 := ih fun y hy => h y (List.mem_cons_of_mem _ hy)
    rw [szB_cons, List.length_cons]
    omega
theorem em_fold (ats fs : List Int) : ∀ (xs : List Sp) (s : Em), (∀ x ∈ xs, x.i.chk = 0) → ((xs.foldl (emS ats fs) s).text.length : Int) = s.text.length + szB xs
  | [], s, _ => by simp [szB]
  | x :: r, s, h => by
    rw [List.foldl_cons, em_fold ats fs r _ fun y hy => h y (List.mem_cons_of_mem _ hy), szB_cons]
    have e : (emS ats fs s x).text = s.text ++ codeOf (insAt ats fs s.text.length x) := rfl
    obtain ⟨n, hn⟩ := insAt_eq ats fs s.text.length x
    have hc := code_len (h x (List.mem_cons_self ..)) n
    rw [← hn] at hc
    rw [e, List.length_append]
    omega
theorem em_len (ats fs : List Int) (xs : List Sp) (h : ∀ x ∈ xs, x.i.chk = 0) : ((emUpTo ats fs xs).text.length : Int) = szB xs := by
  have := em_fold ats fs xs em0 h
  unfold emUpTo
  rw [this]
  simp [em0]
theorem em_bytes_from (ats fs : List Int) : ∀ (xs : List Sp) (s : Em), (∀ y ∈ s.text, 0 ≤ y ∧ y ≤ 255) → ∀ y ∈ (xs.foldl (emS ats fs) s).text, 0 ≤ y ∧ y ≤ 255
  | [], s, h => h
  | x :: r, s, h => by
    rw [List.foldl_cons]
    refine em_bytes_from ats fs r _ fun y hy => ?_
    rcases List.mem_append.1 (show y ∈ s.text ++ codeOf (insAt ats fs s.text.length x) from hy) with q | q
    · exact h y q
    · exact code_bytes _ y q
theorem em_bytes (ats fs : List Int) (xs : List Sp) : ∀ y ∈ (emUpTo ats fs xs).text, 0 ≤ y ∧ y ≤ 255 := em_bytes_from ats fs xs em0 (by intro y hy; simp [em0] at hy)
/-- Made long it may be still. -/
theorem LngS.spok {x y : Sp} (h : LngS x y) (hx : SpOk x) : SpOk y := by
  rcases h with rfl | ⟨hl, hb, rfl⟩
  · exact hx
  · obtain ⟨k1, k2, hn⟩ := hx.blk hb
    refine ⟨?_, hx.blk, hx.fn, hx.l0, hx.l1⟩
    have hc : Isa.chk x.i.k x.i.d x.i.a x.i.b x.i.n x.i.l = 0 := hx.chk
    rw [hl, hn] at hc
    obtain ⟨h1, h2, hf, hd, ha, hb', _, _⟩ := chk_zero hc
    show Isa.chk x.i.k x.i.d x.i.a x.i.b x.i.n true = 0
    rw [hn]
    obtain ⟨w1, w2⟩ := wid_lo x.i.k true
    refine chk_ok h1 h2 ?_ hd ha hb' w1 w2
    have hL : rL x.i.k = true := by
      have : x.i.k = 18 ∨ x.i.k = 19 ∨ x.i.k = 20 ∨ x.i.k = 21 ∨ x.i.k = 22 := by omega
      rcases this with q | q | q | q | q <;> rw [q] <;> rfl
    unfold formB at hf ⊢
    simp only [Bool.and_eq_true, Bool.or_eq_true] at hf ⊢
    exact ⟨hf.1, Or.inr hL⟩
theorem Lng.spok {bs cs : List (List Sp)} (h : Lng bs cs) (hs : ∀ b ∈ bs, ∀ x ∈ b, SpOk x) : ∀ c ∈ cs, ∀ x ∈ c, SpOk x := by
  intro c hc y hy
  obtain ⟨k, hk, rfl⟩ := List.mem_iff_getElem.1 hc
  obtain ⟨j, hj, rfl⟩ := List.mem_iff_getElem.1 hy
  have hkb : k < bs.length := by have := h.len; omega
  obtain ⟨h1, h2⟩ := h.each k _ _ (List.getElem?_eq_getElem hkb) (List.getElem?_eq_getElem hk)
  have hjb : j < bs[k].length := by omega
  exact (h2 j _ _ (List.getElem?_eq_getElem hjb) (List.getElem?_eq_getElem hj)).spok (hs _ (List.getElem_mem hkb) _ (List.getElem_mem hjb))
/-- Each spot of a plan may be. -/
theorem spOf_ok (q : Int) (r : Rw) : SpOk (spOf q r) := by
  obtain ⟨p1, p2⟩ := pk_bd r.A 5 (by decide)
  unfold spOf
  split
  · exact ⟨by (try dsimp only [Ins.chk]); decide, fun h => absurd h neg_one, fun _ => rfl, p1, p2⟩
  · exact ⟨plain_ok _ _ _ _, fun h => absurd h neg_one, fun h => absurd h neg_one, p1, p2⟩
theorem end_ok (l : List Rw) (n a b : Int) : ∀ x ∈ endOf l n a b, SpOk x := by
  intro x hx
  obtain ⟨p1, p2⟩ := pk_bd (lastRw l).A 5 (by decide)
  obtain ⟨a1, a2⟩ := pk_bd (lastRw l).A 7 (by decide)
  obtain ⟨b1, b2⟩ := pk_bd (lastRw l).B 7 (by decide)
  obtain ⟨b3, b4⟩ := pk_bd (lastRw l).B 3 (by decide)
  obtain ⟨c1, c2⟩ := pk_bd (lastRw l).C 4 (by decide)
  unfold endOf at hx
  split at hx
  · simp only [List.mem_singleton] at hx
    subst hx
    refine ⟨okB c1 c2 a1 (by (try dsimp only); omega) b1 (by (try dsimp only); omega) ?_ ?_, fun _ => ⟨by show 18 ≤ 18 + _; omega, by show 18 + _ ≤ (22 : Int); omega, rfl⟩, fun h => absurd h neg_one, p1, p2⟩
    · show (if _ then _ else _) ≤ (0 : Int)
      split <;> decide
    · show (0 : Int) ≤ (if _ then _ else _)
      split <;> decide
  split at hx
  · simp only [List.mem_singleton] at hx
    subst hx
    exact ⟨ok22 (by dsimp only; decide) (by dsimp only; decide), fun _ => ⟨by dsimp only; decide, by dsimp only; decide, rfl⟩, fun h => absurd h neg_one, p1, p2⟩
  split at hx
  · simp at hx
  split at hx
  · simp only [List.mem_singleton] at hx
    subst hx
    exact ⟨ok24 a1 (by (try dsimp only); omega) b3 (by (try dsimp only); omega), fun h => absurd h neg_one, fun h => absurd h neg_one, p1, p2⟩
  split at hx
  · simp only [List.mem_singleton] at hx
    subst hx
    exact ⟨by (try dsimp only [Ins.chk]); decide, fun h => absurd h neg_one, fun h => absurd h neg_one, p1, p2⟩
  · simp only [List.mem_singleton] at hx
    subst hx
    exact ⟨by (try dsimp only [Ins.chk]); decide, fun h => absurd h neg_one, fun h => absurd h neg_one, p1, p2⟩
theorem block_ok (l : List Rw) (n a b q : Int) : ∀ x ∈ blockOf l n a b q, SpOk x := by
  intro x hx
  unfold blockOf bodyOf at hx
  rcases List.mem_append.1 hx with hx | hx
  · obtain ⟨r, _, rfl⟩ := List.mem_map.1 hx
    exact spOf_ok q r
  · exact end_ok _ _ _ _ x hx
theorem plan_ok (l : List Rw) (q : Nat) : ∀ f, ∀ b ∈ (planUpTo l q f).1, ∀ x ∈ b, SpOk x
  | 0, b, hb => by simp [planUpTo] at hb
  | f + 1, b, hb => by
    simp only [planUpTo, List.mem_append] at hb
    rcases hb with hb | hb
    · exact plan_ok l q f b hb
    · unfold blocksUpTo at hb
      obtain ⟨k, _, rfl⟩ := List.mem_map.1 hb
      exact block_ok _ _ _ _ _
theorem block_ne (l : List Rw) (n a b q : Int) : blockOf l n a b q ≠ [] := by
  intro h
  unfold blockOf at h
  obtain ⟨h1, h2⟩ := List.append_eq_nil_iff.1 h
  have hl := congrArg List.length h1
  unfold bodyOf at hl
  rw [List.length_map, List.length_take, List.length_nil] at hl
  unfold endOf at h2
  split at h2
  · cases h2
  split at h2
  · cases h2
  split at h2
  · rename_i h3
    omega
  split at h2
  · cases h2
  split at h2 <;> cases h2
theorem plan_ne (l : List Rw) (q : Nat) : ∀ f, ∀ b ∈ (planUpTo l q f).1, b ≠ []
  | 0, b, hb => by simp [planUpTo] at hb
  | f + 1, b, hb => by
    simp only [planUpTo, List.mem_append] at hb
    rcases hb with hb | hb
    · exact plan_ne l q f b hb
    · unfold blocksUpTo at hb
      obtain ⟨k, _, rfl⟩ := List.mem_map.1 hb
      exact block_ne _ _ _ _ _
/-- How many spots. -/
def nSp (bs : List (List Sp)) : Nat := (bs.map List.length).sum
theorem nSp_flat (bs : List (List Sp)) : bs.flatten.length = nSp bs := by simp [nSp, List.length_flatten]
theorem nSp_app (a b : List (List Sp)) : nSp (a ++ b) = nSp a + nSp b := by simp [nSp]
theorem shares_sum (len many : Nat) : ∀ n, n ≤ many → ((List.range n).map fun k => (k + 1) * len / many - k * len / many).sum = n * len / many
  | 0, _ => by simp
  | n + 1, h => by
    rw [List.range_succ, List.map_append, List.sum_append, shares_sum len many n (by omega)]
    have := (share_bd (n := n) (len := len) (many := many) (by omega)).1
    simp
    omega
theorem sum_le {α : Type} (f g : α → Nat) (l : List α) (h : ∀ x ∈ l, f x ≤ g x) : (l.map f).sum ≤ (l.map g).sum := by
  induction l with
  | nil => simp
  | cons x r ih =>
    have h1 := h x (List.mem_cons_self ..)
    have h2 := ih fun y hy => h y (List.mem_cons_of_mem _ hy)
    simp only [List.map_cons, List.sum_cons]
    omega
theorem sum_succ {α : Type} (f : α → Nat) (l : List α) : (l.map fun x => f x + 1).sum = (l.map f).sum + l.length := by
  induction l with
  | nil => rfl
  | cons x r ih => simp only [List.map_cons, List.sum_cons, ih, List.length_cons]; omega
theorem blocks_sp (l : List Rw) (f q first : Nat) : nSp (blocksUpTo l f q first (manyOf l f q)) ≤ (share l f q).length + manyOf l f q := by
  have hm := many_pos l f q
  generalize hM : manyOf l f q = m at *
  generalize hS : share l f q = S at *
  have e : nSp (blocksUpTo l f q first m) = ((List.range m).map fun k => (blockOf (share S k m) (first + k : Nat) first (first + m - 1 : Nat) q).length).sum := by
    unfold nSp blocksUpTo
    rw [List.map_map, hM, hS]
    rfl
  rw [e]
  refine Nat.le_trans (sum_le _ (fun k => ((k + 1) * S.length / m - k * S.length / m) + 1) _ fun k hk => ?_) ?_
  · refine Nat.le_trans (block_len _ _ _ _ _) ?_
    have hk' := List.mem_range.1 hk
    unfold share
    rw [cut_len _ _ _ (share_bd (len := S.length) hk').2]
    exact Nat.le_refl _
  · rw [sum_succ, shares_sum _ _ m (Nat.le_refl _), List.length_range, Nat.mul_div_cancel_left _ (by omega)]
    exact Nat.le_refl _
theorem plan_sp (l : List Rw) (q : Nat) : ∀ f, f ≤ q → nSp (planUpTo l q f).1 ≤ f * l.length / q + (planUpTo l q f).1.length
  | 0, _ => by simp [planUpTo, nSp]
  | f + 1, h => by
    have ih := plan_sp l q f (by omega)
    have hs := plan_step l q f
    have hb := blocks_sp l f q (planUpTo l q f).1.length
    obtain ⟨s1, s2⟩ := share_bd (n := f) (len := l.length) (many := q) (by omega)
    have hl : (share l f q).length = (f + 1) * l.length / q - f * l.length / q := by unfold share; exact cut_len _ _ _ s2
    have e : nSp (planUpTo l q (f + 1)).1 = nSp (planUpTo l q f).1 + nSp (blocksUpTo l f q (planUpTo l q f).1.length (manyOf l f q)) := by simp only [planUpTo, nSp_app]
    rw [e, hs]
    omega
theorem Lng.sp {bs cs : List (List Sp)} (h : Lng bs cs) : nSp bs = nSp cs := by
  have e : bs.map List.length = cs.map List.length := by
    apply List.ext_getElem?
    intro k
    rw [List.getElem?_map, List.getElem?_map]
    cases hb : bs[k]? with
    | none =>
      have : cs[k]? = none := by rw [List.getElem?_eq_none_iff] at hb ⊢; have := h.len; omega
      rw [this]
    | some b =>
      have hk : k < cs.length := by have := (List.getElem?_eq_some_iff.1 hb).1; have := h.len; omega
      have hc := List.getElem?_eq_getElem hk
      rw [hc, Option.map_some, Option.map_some, (h.each k _ _ hb hc).1]
  unfold nSp
  rw [e]
theorem Lng.ne {bs cs : List (List Sp)} (h : Lng bs cs) (hs : ∀ b ∈ bs, b ≠ []) : ∀ c ∈ cs, c ≠ [] := by
  intro c hc e
  obtain ⟨k, hk, rfl⟩ := List.mem_iff_getElem.1 hc
  have hkb : k < bs.length := by have := h.len; omega
  obtain ⟨h1, _⟩ := h.each k _ _ (List.getElem?_eq_getElem hkb) (List.getElem?_eq_getElem hk)
  rw [e, List.length_nil] at h1
  exact hs _ (List.getElem_mem hkb) (List.length_eq_zero_iff.1 h1)
end Go.Proofs.YtechpdfcgimkkaaDoor
/-
  Plain: the image that boltholekeep makes of a plan; it is one that may be (P2.1).
-/
namespace Go.Proofs.YtechpdfcgimkkaaDoor
open Go.RowKit Isa
/-- The name of the i'th function. -/
def fnName (i : Nat) : ByteArray := ⟨#[102, UInt8.ofNat (48 + i)]⟩
def atOf (ats fs : List Int) (f : Nat) : Int := ats.getD (fs.getD f 0).toNat 0
def endFn (ats fs : List Int) (tot : Int) (f : Nat) : Int := if f + 1 < fs.length then atOf ats fs (f + 1) else tot
def fnOf (ats fs : List Int) (tot : Int) (f : Nat) : Fn := ⟨fnName f, atOf ats fs f, endFn ats fs tot f - atOf ats fs f⟩
def fnsOf (ats fs : List Int) (tot : Int) : List Fn := (List.range fs.length).map (fnOf ats fs tot)
def rawAt (L : List Rw) (k : Nat) : Rw := if L = [] then rwZ else L.getD (k % L.length) rwZ
/-- The i'th address of a table. -/
def tabAt (ats fs : List Int) (bs : List (List Sp)) (L : List Rw) (t i : Nat) : Int :=
  ats.getD (fs.getD (ownerOf bs fs t).toNat 0 + pk (rawAt L (t + i)).A (lastOf bs fs (ownerOf bs fs t).toNat - fs.getD (ownerOf bs fs t).toNat 0)).toNat 0
def tabOf (ats fs : List Int) (bs : List (List Sp)) (L : List Rw) (t : Nat) : List Int := if 0 ≤ ownerOf bs fs t then (List.range 3).map (tabAt ats fs bs L t) else []
def tabsOf (ats fs : List Int) (bs : List (List Sp)) (L : List Rw) : List (List Int) := (List.range 3).map (tabOf ats fs bs L)
def data6 : List Int := [5, -3, 0, 7, 1, 2]
/-- The image of a round: of the blocks as they stood ahead of it, and as they stand behind it. -/
def imgOf (cs ds : List (List Sp)) (fs : List Int) (L : List Rw) : Img :=
  ⟨(emUpTo (startsOf cs) fs cs.flatten).text, fnsOf (startsOf cs) fs (szAll cs), tabsOf (startsOf cs) fs ds L, data6, (emUpTo (startsOf cs) fs cs.flatten).lines, 0⟩
theorem longS_id {ats fs : List Int} {here : Int} {x : Sp} (h : mustS ats fs here x = false) : longS ats fs here x = x := by
  unfold longS
  rw [h]; simp
theorem markL_id (ats fs : List Int) : ∀ (xs pre : List Sp), (emUpTo ats fs (pre ++ xs)).again = false → (emUpTo ats fs pre).again = false ∧ markL ats fs pre xs = xs
  | [], pre, h => ⟨by rwa [List.append_nil] at h, rfl⟩
  | x :: r, pre, h => by
    have e3 : pre ++ x :: r = (pre ++ [x]) ++ r := by simp
    rw [e3] at h
    obtain ⟨h1, h2⟩ := markL_id ats fs r (pre ++ [x]) h
    have e4 : (emUpTo ats fs (pre ++ [x])).again = ((emUpTo ats fs pre).again || mustS ats fs (emUpTo ats fs pre).text.length x) := by rw [em_snoc]; rfl
    rw [e4, Bool.or_eq_false_iff] at h1
    refine ⟨h1.1, ?_⟩
    rw [markL, longS_id h1.2, h2]
/-- A round behind which none is asked for has made no spot long. -/
theorem mark_id {ats fs : List Int} {cs : List (List Sp)} (h : (emUpTo ats fs cs.flatten).again = false) : markFrom ats fs [] cs = cs := by
  have hl : ∀ (bs : List (List Sp)) (pre : List Sp), (emUpTo ats fs (pre ++ bs.flatten)).again = false → (emUpTo ats fs pre).again = false ∧ markFrom ats fs pre bs = bs := by
    intro bs
    induction bs with
    | nil => intro pre h; exact ⟨by simpa using h, rfl⟩
    | cons b r ih =>
      intro pre h
      rw [List.flatten_cons, ← List.append_assoc] at h
      obtain ⟨h1, h2⟩ := ih (pre ++ b) h
      obtain ⟨h3, h4⟩ := markL_id ats fs b pre h1
      exact ⟨h3, by rw [markFrom, longB_markL, h4, h2]⟩
  exact (hl cs [] (by simpa using h)).2
/-- Line by line. -/
theorem lchk_snoc (size : Int) : ∀ (ls : List Ln) (ah : Int) (l : Ln), lchk size ls ah = 0 → 0 ≤ l.n → l.n ≤ 10000 → (∀ y ∈ ls, y.a < l.a) → ah < l.a → l.a < size → lchk size (ls ++ [l]) ah = 0
  | [], ah, l, _, h1, h2, _, h4, h5 => by
    simp only [List.nil_append, lchk]
    rw [if_neg (by omega), if_neg (by omega)]
  | y :: r, ah, l, h, h1, h2, h3, h4, h5 => by
    simp only [lchk] at h
    rw [List.cons_append]
    simp only [lchk]
    split at h
    · cases h
    · rename_i q1
      split at h
      · cases h
      · rename_i q2
        rw [if_neg q1, if_neg q2]
        exact lchk_snoc size r y.a l h h1 h2 (fun z hz => h3 z (List.mem_cons_of_mem _ hz)) (h3 y (List.mem_cons_self ..)) h5
structure LnsOk (size : Int) (s : Em) : Prop where
  chk : lchk size s.lines (-1) = 0
  lt : ∀ y ∈ s.lines, y.a < s.text.length
  ok : ∀ y ∈ s.lines, 0 ≤ y.a ∧ 0 ≤ y.n ∧ y.n ≤ 10000
theorem em_lines_from (ats fs : List Int) (size : Int) : ∀ (xs : List Sp) (s : Em), (∀ x ∈ xs, SpOk x) → (s.text.length : Int) + szB xs ≤ size → LnsOk size s → LnsOk size (xs.foldl (emS ats fs) s) ∧ (xs.foldl (emS ats fs) s).lines.length ≤ s.lines.length + xs.length
  | [], s, _, _, h => ⟨h, by simp⟩
  | x :: r, s, hx, hs, h => by
    have hx0 := hx x (List.mem_cons_self ..)
    obtain ⟨p1, p2⟩ := szS_pos hx0.chk
    have hr := (szB_pos r fun y hy => (hx y (List.mem_cons_of_mem _ hy)).chk).1
    rw [szB_cons] at hs
    have ht : ((emS ats fs s x).text.length : Int) = s.text.length + szS x := by
      obtain ⟨n, hn⟩ := insAt_eq ats fs s.text.length x
      have hc := code_len hx0.chk n
      rw [← hn] at hc
      have e : (emS ats fs s x).text = s.text ++ codeOf (insAt ats fs s.text.length x) := rfl
      rw [e, List.length_append]
      omega
    have hl : (emS ats fs s x).lines = if x.line = s.line then s.lines else s.lines ++ [⟨s.text.length, x.line⟩] := rfl
    have hn : LnsOk size (emS ats fs s x) ∧ (emS ats fs s x).lines.length ≤ s.lines.length + 1 := by
      by_cases q : x.line = s.line
      · rw [if_pos q] at hl
        exact ⟨⟨by rw [hl]; exact h.chk, fun y hy => by rw [hl] at hy; have := h.lt y hy; omega, fun y hy => by rw [hl] at hy; exact h.ok y hy⟩, by rw [hl]; omega⟩
      · rw [if_neg q] at hl
        refine ⟨⟨?_, fun y hy => ?_, fun y hy => ?_⟩, by rw [hl, List.length_append]; simp⟩
        · rw [hl]
          exact lchk_snoc size _ _ _ h.chk hx0.l0 (by show x.line ≤ 10000; have := hx0.l1; omega) h.lt (by show (-1 : Int) < (s.text.length : Int); omega) (by show (s.text.length : Int) < size; omega)
        · rw [hl] at hy
          rcases List.mem_append.1 hy with hy | hy
          · have := h.lt y hy; omega
          · simp only [List.mem_singleton] at hy
            subst hy
            show (s.text.length : Int) < _
            omega
        · rw [hl] at hy
          rcases List.mem_append.1 hy with hy | hy
          · exact h.ok y hy
          · simp only [List.mem_singleton] at hy
            subst hy
            exact ⟨by show (0 : Int) ≤ (s.text.length : Int); omega, hx0.l0, by show x.line ≤ 10000; have := hx0.l1; omega⟩
    obtain ⟨g1, g2⟩ := em_lines_from ats fs size r (emS ats fs s x) (fun y hy => hx y (List.mem_cons_of_mem _ hy)) (by rw [ht]; omega) hn.1
    rw [List.foldl_cons, List.length_cons]
    exact ⟨g1, by omega⟩
theorem em_lines (ats fs : List Int) (xs : List Sp) (hx : ∀ x ∈ xs, SpOk x) : LnsOk (szB xs) (emUpTo ats fs xs) ∧ (emUpTo ats fs xs).lines.length ≤ xs.length := by
  obtain ⟨h1, h2⟩ := em_lines_from ats fs (szB xs) xs em0 hx (by simp [em0]) ⟨rfl, fun y hy => (by simp [em0] at hy), fun y hy => (by simp [em0] at hy)⟩
  exact ⟨h1, by simpa [em0, emUpTo] using h2⟩
/-- Where blocks begin. -/
theorem starts_at (bs : List (List Sp)) (k : Nat) (h : k < bs.length) : (startsOf bs).getD k 0 = szAll (bs.take k) := by
  unfold startsOf
  rw [List.getD_eq_getElem?_getD, List.getElem?_map, List.getElem?_range h]
  rfl
theorem szAll_step (bs : List (List Sp)) (k : Nat) (b : List Sp) (h : bs[k]? = some b) : szAll (bs.take (k + 1)) = szAll (bs.take k) + szB b := by
  rw [List.take_add_one, h]
  simp [szAll]
theorem szAll_mono (bs : List (List Sp)) (hb : ∀ b ∈ bs, b ≠ []) (hx : ∀ b ∈ bs, ∀ x ∈ b, SpOk x) (k : Nat) : ∀ d, k + d ≤ bs.length → szAll (bs.take k) + d ≤ szAll (bs.take (k + d))
  | 0, _ => by simp
  | d + 1, h => by
    have ih := szAll_mono bs hb hx k d (by omega)
    have hk : k + d < bs.length := by omega
    have hm := List.getElem_mem hk
    have hs := szAll_step bs (k + d) _ (List.getElem?_eq_getElem hk)
    have hp := (szB_pos bs[k + d] fun x q => (hx _ hm x q).chk).1
    have hn := List.length_pos_iff.2 (hb _ hm)
    rw [← Nat.add_assoc, hs]
    omega
/-- A plan that may be. -/
structure PlGood (bs : List (List Sp)) (fs : List Int) : Prop where
  fit : Fit bs fs
  pos : 0 < fs.length
  f0 : fs.getD 0 0 = 0
  ok : ∀ b ∈ bs, ∀ x ∈ b, SpOk x
  ins : ∀ b ∈ bs, ∀ x ∈ b, SpIn bs.length fs.length x
  ne : ∀ b ∈ bs, b ≠ []
  sp : nSp bs ≤ 264
theorem funcsOf_bd (l : List Rw) : 1 ≤ funcsOf l ∧ funcsOf l ≤ 3 := by unfold funcsOf; omega
theorem plan_good (l : List Rw) : PlGood (planOf l).1 (planOf l).2 := by
  unfold planOf
  generalize hL : l.take 150 = L
  have hl : L.length ≤ 150 := by rw [← hL, List.length_take]; omega
  obtain ⟨q1, q2⟩ := funcsOf_bd L
  generalize funcsOf L = q at *
  obtain ⟨n1, n2⟩ := planUpTo_len L q hl q (Nat.le_refl _)
  refine ⟨fit_plan L q q2 hl, by omega, ?_, plan_ok L q q, ?_, plan_ne L q q, ?_⟩
  · rw [List.getD_eq_getElem?_getD, plan_fs L q q 0 (by omega)]
    rfl
  · rw [n2]
    exact plan_in L q (by omega) q
  · have := plan_sp L q q (Nat.le_refl _)
    rw [Nat.mul_div_cancel_left _ (by omega)] at this
    omega
theorem PlGood.lng {bs cs : List (List Sp)} {fs : List Int} (h : PlGood bs fs) (hl : Lng bs cs) : PlGood cs fs :=
  ⟨hl.fit h.fit, h.pos, h.f0, hl.spok h.ok, by rw [← hl.len]; exact hl.spin h.ins, hl.ne h.ne, by rw [← hl.sp]; exact h.sp⟩
theorem PlGood.flat {bs : List (List Sp)} {fs : List Int} (h : PlGood bs fs) : ∀ x ∈ bs.flatten, SpOk x := fun x hx => by
  obtain ⟨b, hb, hxb⟩ := List.mem_flatten.1 hx
  exact h.ok b hb x hxb
theorem PlGood.size {bs : List (List Sp)} {fs : List Int} (h : PlGood bs fs) : 1 ≤ szAll bs ∧ szAll bs ≤ 1320 := by
  have h1 := szB_pos bs.flatten fun x hx => (h.flat x hx).chk
  have h2 := h.sp
  rw [nSp_flat] at h1
  obtain ⟨n, m, _, _, h5, h6⟩ := h.fit.seg 0 h.pos
  have h3 := szAll_mono bs h.ne h.ok 0 bs.length (by omega)
  rw [Nat.zero_add, List.take_length, List.take_zero] at h3
  have h4 : szAll [] = 0 := rfl
  have h5 := szAll_flat bs
  omega
theorem PlGood.text {bs : List (List Sp)} {fs : List Int} (h : PlGood bs fs) (ats : List Int) : ((emUpTo ats fs bs.flatten).text.length : Int) = szAll bs := by
  rw [szAll_flat]
  exact em_len ats fs _ fun x hx => (h.flat x hx).chk
/-- Where functions begin. -/
theorem PlGood.at {bs : List (List Sp)} {fs : List Int} (h : PlGood bs fs) (f : Nat) (hf : f < fs.length) :
    ∃ n : Nat, fs[f]? = some (n : Int) ∧ n < bs.length ∧ atOf (startsOf bs) fs f = szAll (bs.take n) := by
  obtain ⟨n, m, h1, h2, h3, h4⟩ := h.fit.seg f hf
  refine ⟨n, h1, by omega, ?_⟩
  unfold atOf
  rw [List.getD_eq_getElem?_getD (l := fs), h1]
  exact starts_at bs n (by omega)
theorem PlGood.step {bs : List (List Sp)} {fs : List Int} (h : PlGood bs fs) (f : Nat) (hf : f < fs.length) : 0 ≤ atOf (startsOf bs) fs f ∧ atOf (startsOf bs) fs f + 1 ≤ endFn (startsOf bs) fs (szAll bs) f ∧ endFn (startsOf bs) fs (szAll bs) f ≤ szAll bs := by
  obtain ⟨n, m, h1, h2, h3, h4⟩ := h.fit.seg f hf
  obtain ⟨n', e1, _, e3⟩ := h.at f hf
  rw [h1] at e1
  have en : n = n' := by have := Option.some.inj e1; omega
  subst en
  have hlo := szAll_mono bs h.ne h.ok 0 n (by omega)
  rw [Nat.zero_add, List.take_zero] at hlo
  have hz : szAll [] = 0 := rfl
  rw [hz] at hlo
  have hmid := szAll_mono bs h.ne h.ok n (m - n) (by omega)
  have htop := szAll_mono bs h.ne h.ok m (bs.length - m) (by omega)
  rw [show n + (m - n) = m by omega] at hmid
  rw [show m + (bs.length - m) = bs.length by omega, List.take_length] at htop
  have hend : endFn (startsOf bs) fs (szAll bs) f = szAll (bs.take m) := by
    unfold endFn
    unfold lastOf at h2
    split
    · rename_i q
      obtain ⟨n2, g1, g2, g3⟩ := h.at (f + 1) q
      rw [g1] at h2
      have : n2 = m := by have : (n2 : Int) = (m : Int) := h2; omega
      rw [g3, this]
    · rename_i q
      rw [List.getElem?_eq_none (by omega)] at h2
      have : bs.length = m := by have : (bs.length : Int) = (m : Int) := h2; omega
      rw [← this, List.take_length]
  rw [e3, hend]
  omega
theorem PlGood.zero {bs : List (List Sp)} {fs : List Int} (h : PlGood bs fs) : atOf (startsOf bs) fs 0 = 0 := by
  obtain ⟨n, e1, e2, e3⟩ := h.at 0 h.pos
  have := h.f0
  rw [List.getD_eq_getElem?_getD, e1] at this
  have hn : n = 0 := by simpa using this
  subst hn
  rw [e3]; rfl
theorem fchk_step {size e : Int} {pre r : List Fn} {f : Fn} (hn : nameMay f.name = true) (hp : ∀ g ∈ pre, g.name ≠ f.name) (hs : f.start = e) (h1 : 1 ≤ f.size) (h2 : f.size ≤ size - e) : fchk size pre (f :: r) e = fchk size (pre ++ [f]) r (e + f.size) := by
  have hq : ¬ ∃ g ∈ pre, g.name = f.name := fun ⟨g, hg, he⟩ => hp g hg he
  rw [fchk, hn, if_neg (by simp), if_neg hq, if_neg (by omega)]
theorem name_may : nameMay (fnName 0) = true ∧ nameMay (fnName 1) = true ∧ nameMay (fnName 2) = true := ⟨rfl, rfl, rfl⟩
theorem name_ne : fnName 0 ≠ fnName 1 ∧ fnName 0 ≠ fnName 2 ∧ fnName 1 ≠ fnName 2 := by
  refine ⟨?_, ?_, ?_⟩ <;> (intro h; have := congrArg (fun b : ByteArray => b.data.toList) h; revert this; decide)
theorem PlGood.fchk {bs : List (List Sp)} {fs : List Int} (h : PlGood bs fs) : Proofs.YtechpdfcgimkkaaDoor.fchk (szAll bs) [] (fnsOf (startsOf bs) fs (szAll bs)) 0 = 0 := by
  have few := h.fit.few
  have pos := h.pos
  obtain ⟨m0, m1, m2⟩ := name_may
  obtain ⟨d0, d1, d2⟩ := name_ne
  have hz := h.zero
  have st := h.step
  have hen : ∀ f, f + 1 < fs.length → endFn (startsOf bs) fs (szAll bs) f = atOf (startsOf bs) fs (f + 1) := fun f q => if_pos q
  have hlast : ∀ f, f + 1 = fs.length → endFn (startsOf bs) fs (szAll bs) f = szAll bs := fun f q => if_neg (by omega)
  have h3 : fs.length = 1 ∨ fs.length = 2 ∨ fs.length = 3 := by omega
  have hfn : ∀ n, fnsOf (startsOf bs) fs (szAll bs) = (List.range n).map (fnOf (startsOf bs) fs (szAll bs)) ∨ n ≠ fs.length := fun n => by
    by_cases q : n = fs.length
    · exact Or.inl (by rw [q]; rfl)
    · exact Or.inr q
  rcases h3 with q | q | q
  · have e := (hfn 1).resolve_right (by omega)
    have s0 := st 0 (by omega)
    have l0 := hlast 0 (by omega)
    rw [e]
    show Proofs.YtechpdfcgimkkaaDoor.fchk (szAll bs) [] [fnOf (startsOf bs) fs (szAll bs) 0] 0 = 0
    rw [fchk_step m0 (by simp) hz (by show 1 ≤ _ - _; omega) (by show _ - _ ≤ _ - _; omega)]
    show (if (0 : Int) + (_ - _) = _ then (0 : Int) else 8) = 0
    rw [if_pos (by omega)]
  · have e := (hfn 2).resolve_right (by omega)
    have s0 := st 0 (by omega)
    have s1 := st 1 (by omega)
    have e0 : endFn (startsOf bs) fs (szAll bs) 0 = atOf (startsOf bs) fs 1 := hen 0 (by omega)
    have l1 := hlast 1 (by omega)
    rw [e]
    show Proofs.YtechpdfcgimkkaaDoor.fchk (szAll bs) [] [fnOf (startsOf bs) fs (szAll bs) 0, fnOf (startsOf bs) fs (szAll bs) 1] 0 = 0
    rw [fchk_step m0 (by simp) hz (by show 1 ≤ _ - _; omega) (by show _ - _ ≤ _ - _; omega), fchk_step m1 (by intro g hg; simp at hg; subst hg; exact d0) (by show atOf _ _ 1 = 0 + (_ - _); omega) (by show 1 ≤ _ - _; omega) (by show _ - _ ≤ _ - (0 + (_ - _)); omega)]
    show (if (0 : Int) + (_ - _) + (_ - _) = _ then (0 : Int) else 8) = 0
    rw [if_pos (by omega)]
  · have e := (hfn 3).resolve_right (by omega)
    have s0 := st 0 (by omega)
    have s1 := st 1 (by omega)
    have s2 := st 2 (by omega)
    have e0 : endFn (startsOf bs) fs (szAll bs) 0 = atOf (startsOf bs) fs 1 := hen 0 (by omega)
    have e1 : endFn (startsOf bs) fs (szAll bs) 1 = atOf (startsOf bs) fs 2 := hen 1 (by omega)
    have l2 := hlast 2 (by omega)
    rw [e]
    show Proofs.YtechpdfcgimkkaaDoor.fchk (szAll bs) [] [fnOf (startsOf bs) fs (szAll bs) 0, fnOf (startsOf bs) fs (szAll bs) 1, fnOf (startsOf bs) fs (szAll bs) 2] 0 = 0
    rw [fchk_step m0 (by simp) hz (by show 1 ≤ _ - _; omega) (by show _ - _ ≤ _ - _; omega), fchk_step m1 (by intro g hg; simp at hg; subst hg; exact d0) (by show atOf _ _ 1 = 0 + (_ - _); omega) (by show 1 ≤ _ - _; omega) (by show _ - _ ≤ _ - (0 + (_ - _)); omega),
      fchk_step m2 (by intro g hg; simp at hg; rcases hg with rfl | rfl; exact d1; exact d2) (by show atOf _ _ 2 = 0 + (_ - _) + (_ - _); omega) (by show 1 ≤ _ - _; omega) (by show _ - _ ≤ _ - (0 + (_ - _) + (_ - _)); omega)]
    show (if (0 : Int) + (_ - _) + (_ - _) + (_ - _) = _ then (0 : Int) else 8) = 0
    rw [if_pos (by omega)]
/-- The addresses of tables. -/
theorem PlGood.tab {cs ds : List (List Sp)} {fs : List Int} (hc : PlGood cs fs) (hl : cs.length = ds.length) (hd : Fit ds fs) (L : List Rw) (t i : Nat) (ho : 0 ≤ ownerOf ds fs t) :
    ∃ k : Nat, k < cs.length ∧ fs.getD (ownerOf ds fs t).toNat 0 + pk (rawAt L (t + i)).A (lastOf ds fs (ownerOf ds fs t).toNat - fs.getD (ownerOf ds fs t).toNat 0) = (k : Int) ∧ 0 ≤ tabAt (startsOf cs) fs ds L t i ∧ tabAt (startsOf cs) fs ds L t i < szAll cs := by
  have hb := (owner_bd ds fs t).2
  obtain ⟨n, m, h1, h2, h3, h4⟩ := hd.seg (ownerOf ds fs t).toNat (by omega)
  have hf : fs.getD (ownerOf ds fs t).toNat 0 = (n : Int) := by rw [List.getD_eq_getElem?_getD, h1]; rfl
  unfold tabAt
  rw [hf, h2]
  obtain ⟨p1, p2⟩ := pk_bd (rawAt L (t + i)).A ((m : Int) - n) (by omega)
  obtain ⟨k, hk⟩ : ∃ k : Nat, (n : Int) + pk (rawAt L (t + i)).A ((m : Int) - n) = (k : Int) := ⟨((n : Int) + pk (rawAt L (t + i)).A ((m : Int) - n)).toNat, by omega⟩
  have hkc : k < cs.length := by omega
  refine ⟨k, hkc, hk, ?_⟩
  rw [hk, Int.toNat_natCast, starts_at cs k hkc]
  have hlo := szAll_mono cs hc.ne hc.ok 0 k (by omega)
  have htop := szAll_mono cs hc.ne hc.ok k (cs.length - k) (by omega)
  rw [Nat.zero_add, List.take_zero] at hlo
  have hz : szAll [] = 0 := rfl
  rw [hz] at hlo
  rw [show k + (cs.length - k) = cs.length by omega, List.take_length] at htop
  omega
theorem PlGood.tchk {cs ds : List (List Sp)} {fs : List Int} (hc : PlGood cs fs) (hl : cs.length = ds.length) (hd : Fit ds fs) (L : List Rw) : Proofs.YtechpdfcgimkkaaDoor.tchk (szAll cs) (tabsOf (startsOf cs) fs ds L) = 0 := by
  have one : ∀ t : Nat, (tabOf (startsOf cs) fs ds L t).length ≤ 20 ∧ ¬ ∃ x ∈ tabOf (startsOf cs) fs ds L t, x < 0 ∨ szAll cs ≤ x := by
    intro t
    unfold tabOf
    split
    · rename_i ho
      refine ⟨by simp, ?_⟩
      rintro ⟨x, hx, hq⟩
      obtain ⟨i, _, rfl⟩ := List.mem_map.1 hx
      obtain ⟨_, _, _, p1, p2⟩ := hc.tab hl hd L t i ho
      omega
    · exact ⟨by simp, by simp⟩
  show Proofs.YtechpdfcgimkkaaDoor.tchk (szAll cs) [tabOf (startsOf cs) fs ds L 0, tabOf (startsOf cs) fs ds L 1, tabOf (startsOf cs) fs ds L 2] = 0
  rw [Proofs.YtechpdfcgimkkaaDoor.tchk, if_neg (Nat.not_lt.2 (one 0).1), if_neg (one 0).2, Proofs.YtechpdfcgimkkaaDoor.tchk, if_neg (Nat.not_lt.2 (one 1).1), if_neg (one 1).2, Proofs.YtechpdfcgimkkaaDoor.tchk, if_neg (Nat.not_lt.2 (one 2).1), if_neg (one 2).2]
  rfl
/-- The image may be. -/
theorem img_may {cs ds : List (List Sp)} {fs : List Int} (hc : PlGood cs fs) (hl : cs.length = ds.length) (hd : Fit ds fs) (L : List Rw) : imgChk (imgOf cs ds fs L) = 0 := by
  have ht := hc.text (startsOf cs)
  obtain ⟨z1, z2⟩ := hc.size
  have few := hc.fit.few
  have pos := hc.pos
  have hf := hc.fchk
  have htb := hc.tchk hl hd L
  obtain ⟨hL, hL2⟩ := em_lines (startsOf cs) fs cs.flatten hc.flat
  rw [nSp_flat] at hL2
  have hsp := hc.sp
  have hfl : (fnsOf (startsOf cs) fs (szAll cs)).length = fs.length := by simp [fnsOf]
  have hlc := hL.chk
  rw [← szAll_flat] at hlc
  unfold imgChk imgOf
  dsimp only
  rw [ht, hfl, if_neg (by omega), if_neg (by rw [hf]; simp), if_neg (by omega), if_neg (by simp [tabsOf, data6]), if_neg (by rw [htb]; simp), if_neg (by simp [data6]), if_neg (by omega)]
  exact hlc
theorem img_ok {cs ds : List (List Sp)} {fs : List Int} (hc : PlGood cs fs) (hl : cs.length = ds.length) (hd : Fit ds fs) (L : List Rw) : (imgOf cs ds fs L).ok := by
  obtain ⟨z1, z2⟩ := hc.size
  obtain ⟨hL, _⟩ := em_lines (startsOf cs) fs cs.flatten hc.flat
  rw [← szAll_flat] at hL
  have ht := hc.text (startsOf cs)
  have few := hc.fit.few
  refine ⟨em_bytes _ _ _, fun f hf => ?_, fun t htt x hx => ?_, fun x hx => ?_, fun l hl' => ?_, by show _ ≤ (0 : Int) ∧ (0 : Int) ≤ _; decide⟩
  · obtain ⟨i, hi, rfl⟩ := List.mem_map.1 (show f ∈ (List.range fs.length).map _ from hf)
    have hi' := List.mem_range.1 hi
    have s := hc.step i hi'
    refine ⟨?_, ⟨by show _ ≤ atOf _ _ _; omega, by show atOf _ _ _ ≤ _; omega⟩, ⟨by show _ ≤ _ - atOf _ _ _; omega, by show _ - atOf _ _ _ ≤ _; omega⟩⟩
    show (2 : Nat) ≤ maxLen
    unfold maxLen; decide
  · obtain ⟨i, hi, rfl⟩ := List.mem_map.1 (show t ∈ (List.range 3).map _ from htt)
    unfold tabOf at hx
    split at hx
    · rename_i ho
      obtain ⟨j, _, rfl⟩ := List.mem_map.1 hx
      obtain ⟨_, _, _, p1, p2⟩ := hc.tab hl hd L i j ho
      exact ⟨by omega, by omega⟩
    · cases hx
  · have : x = 5 ∨ x = -3 ∨ x = 0 ∨ x = 7 ∨ x = 1 ∨ x = 2 := by simpa [imgOf, data6] using hx
    unfold i64
    omega
  · have h1 := hL.lt l hl'
    obtain ⟨h2, h3, h4⟩ := hL.ok l hl'
    exact ⟨⟨by omega, by omega⟩, ⟨by omega, by omega⟩⟩
/-- What boltholekeep.Program answers. -/
def ProgI (l : List Rw) (m : Img) : Prop := ∃ cs, Lng (planOf l).1 cs ∧ PlGood cs (planOf l).2 ∧ (emUpTo (startsOf cs) (planOf l).2 cs.flatten).again = false ∧ m = imgOf cs cs (planOf l).2 (l.take 150)
theorem ProgI.chk {l : List Rw} {m : Img} (h : ProgI l m) : imgChk m = 0 ∧ m.ok ∧ 1 ≤ m.text.length ∧ m.text.length ≤ 1320 := by
  obtain ⟨cs, hl, hg, ha, rfl⟩ := h
  have ht := hg.text (startsOf cs)
  obtain ⟨z1, z2⟩ := hg.size
  refine ⟨img_may hg rfl hg.fit _, img_ok hg rfl hg.fit _, ?_, ?_⟩
  · show 1 ≤ (emUpTo _ _ _).text.length
    omega
  · show (emUpTo _ _ _).text.length ≤ 1320
    omega
end Go.Proofs.YtechpdfcgimkkaaDoor
