/-
  Edges as a plain list, and what P6.1 says of them.
-/
import Derived.Test.YtjcackcimofcmaaDoorMCC
namespace Go.Proofs.YtjcackcimofcmaaDoor
open Go.RowKit Go.Joins
structure Ed where
  f : Int
  t : Int
  c : Int
def Ed.cells (e : Ed) : List Value := [.int .i64 e.f, .int .i64 e.t, .int .i64 e.c]
def Ed.ok (e : Ed) : Prop := i64 e.f ∧ i64 e.t ∧ i64 e.c
theorem ecell_len (e : Ed) : (Ed.cells e).length = 3 := rfl
theorem ecell_one (e : Ed) : ∀ u ∈ Ed.cells e, u.oneCell' = true := by intro u hu; simp [Ed.cells] at hu; rcases hu with rfl | rfl | rfl <;> rfl
def edBad (n : Int) (e : Ed) : Bool := decide (e.f < 0) || decide (e.t < 0) || decide (n ≤ e.f) || decide (n ≤ e.t) || decide (e.c < 1) || decide (1073741824 < e.c)
/-- The second one stands behind the first by right. -/
def edAft (a b : Ed) : Bool := decide (a.f < b.f) || (decide (a.f = b.f) && decide (a.t < b.t))
/-- P6.1. -/
def edChk (n : Int) : Option Ed → List Ed → Int
  | _, [] => 0
  | p, e :: r => if edBad n e = true then 2 else if (p.any fun q => !edAft q e) = true then 8 else edChk n (some e) r
def edPrev (xs : List Ed) : Nat → Option Ed
  | 0 => none
  | j + 1 => xs[j]?
theorem ed_step (n : Int) (xs : List Ed) (j : Nat) (y : Ed) (h : xs[j]? = some y) :
    edChk n (edPrev xs j) (xs.drop j) = if edBad n y = true then 2 else if ((edPrev xs j).any fun q => !edAft q y) = true then 8 else edChk n (edPrev xs (j + 1)) (xs.drop (j + 1)) := by
  obtain ⟨hj, rfl⟩ := List.getElem?_eq_some_iff.1 h
  have e : edPrev xs (j + 1) = some xs[j] := h
  rw [List.drop_eq_getElem_cons hj, e]
  rfl
theorem ed_end (n : Int) (xs : List Ed) (j : Nat) (h : xs.length ≤ j) : edChk n (edPrev xs j) (xs.drop j) = 0 := by
  rw [List.drop_of_length_le h]; rfl
/-- What stands at a place that is bad. -/
theorem ed_bad (n : Int) (xs : List Ed) (j : Nat) (y : Ed) (h : xs[j]? = some y) (hi : edChk n (edPrev xs j) (xs.drop j) = edChk n none xs) (hb : edBad n y = true) : edChk n none xs = 2 := by
  rw [← hi, ed_step n xs j y h, if_pos hb]
theorem ed_first (n : Int) (xs : List Ed) (y : Ed) (h : xs[0]? = some y) (hi : edChk n (edPrev xs 0) (xs.drop 0) = edChk n none xs) (hb : edBad n y = false) : edChk n (edPrev xs (0 + 1)) (xs.drop (0 + 1)) = edChk n none xs := by
  rw [← hi, ed_step n xs 0 y h, if_neg (by rw [hb]; decide)]; rfl
theorem ed_next (n : Int) (xs : List Ed) (j : Nat) (q y : Ed) (hq : xs[j]? = some q) (h : xs[j + 1]? = some y) (hi : edChk n (edPrev xs (j + 1)) (xs.drop (j + 1)) = edChk n none xs) (hb : edBad n y = false) (ha : edAft q y = true) :
    edChk n (edPrev xs (j + 1 + 1)) (xs.drop (j + 1 + 1)) = edChk n none xs := by
  rw [← hi, ed_step n xs (j + 1) y h, if_neg (by rw [hb]; decide), if_neg (by simp [edPrev, hq, ha])]
theorem ed_order (n : Int) (xs : List Ed) (j : Nat) (q y : Ed) (hq : xs[j]? = some q) (h : xs[j + 1]? = some y) (hi : edChk n (edPrev xs (j + 1)) (xs.drop (j + 1)) = edChk n none xs) (hb : edBad n y = false) (ha : edAft q y = false) : edChk n none xs = 8 := by
  rw [← hi, ed_step n xs (j + 1) y h, if_neg (by rw [hb]; decide), if_pos (by simp [edPrev, hq, ha])]
theorem ed_good {n : Int} {e : Ed} (h : edBad n e = false) : 0 ≤ e.f ∧ 0 ≤ e.t ∧ e.f < n ∧ e.t < n ∧ 1 ≤ e.c ∧ e.c ≤ 1073741824 := by
  simp [edBad] at h; omega
end Go.Proofs.YtjcackcimofcmaaDoor
