/-
  Plain functions: which one of a plan's functions owns a table.
-/
import Derived.Test.YtechpdfcgimkkaaDoorMUC
namespace Go.Proofs.YtechpdfcgimkkaaDoor
open Go.RowKit Isa
/-- Does a block end with this table? -/
def lastT (t : Int) (b : List Sp) : Bool := match b.getLast? with | some x => x.i.k == 24 && x.i.n == t | none => false
def ownRun (t f : Int) : List (List Sp) → Int → Option Int
  | [], o => some o
  | b :: r, o => if lastT t b = true then (if 0 ≤ o ∧ o ≠ f then none else ownRun t f r f) else ownRun t f r o
/-- Where the blocks of a function end. -/
def lastOf (bs : List (List Sp)) (fs : List Int) (f : Nat) : Int := (fs[f + 1]?).getD (bs.length : Int)
def segOf (bs : List (List Sp)) (fs : List Int) (f : Nat) : List (List Sp) := cut bs ((fs[f]?).getD 0).toNat (lastOf bs fs f).toNat
def ownFrom (bs : List (List Sp)) (fs : List Int) (t : Int) : Nat → Nat → Int → Int
  | 0, _, o => o
  | k + 1, f, o => match ownRun t f (segOf bs fs f) o with | none => -1 | some o' => ownFrom bs fs t k (f + 1) o'
/-- The one function that names a table; -1: none does, or several. -/
def ownerOf (bs : List (List Sp)) (fs : List Int) (t : Int) : Int := ownFrom bs fs t fs.length 0 (-1)
/-- A plan's functions begin where blocks are, one behind the other. -/
structure Fit (bs : List (List Sp)) (fs : List Int) : Prop where
  few : fs.length ≤ 3
  small : bs.length ≤ 114
  seg : ∀ f, f < fs.length → ∃ n m : Nat, fs[f]? = some (n : Int) ∧ lastOf bs fs f = (m : Int) ∧ n < m ∧ m ≤ bs.length
def ownNext (bs : List (List Sp)) (fs : List Int) (t : Int) (k f : Nat) : Option Int → Int
  | none => -1
  | some o => ownFrom bs fs t k f o
theorem own_step {bs : List (List Sp)} {fs : List Int} {t o : Int} {f : Nat} (h : f < fs.length) :
    ownFrom bs fs t (fs.length - f) f o = ownNext bs fs t (fs.length - (f + 1)) (f + 1) (ownRun t f (segOf bs fs f) o) := by
  obtain ⟨k, hk⟩ : ∃ k, fs.length - f = k + 1 := ⟨fs.length - f - 1, by omega⟩
  rw [hk, show fs.length - (f + 1) = k by omega]; rfl
theorem own_bd (t f : Int) : ∀ (l : List (List Sp)) (o o' : Int), ownRun t f l o = some o' → o' = o ∨ o' = f
  | [], o, o', h => by simp [ownRun] at h; exact Or.inl h.symm
  | b :: r, o, o', h => by
    rw [ownRun] at h
    split at h
    · split at h
      · cases h
      · rcases own_bd t f r f o' h with q | q <;> exact Or.inr q
    · exact own_bd t f r o o' h
theorem ownFrom_bd (bs : List (List Sp)) (fs : List Int) (t : Int) : ∀ (k f : Nat) (o : Int), -1 ≤ o → o < f ∨ o < 0 → f + k = fs.length → -1 ≤ ownFrom bs fs t k f o ∧ (ownFrom bs fs t k f o < fs.length ∨ ownFrom bs fs t k f o < 0)
  | 0, f, o, h1, h2, h3 => by unfold ownFrom; omega
  | k + 1, f, o, h1, h2, h3 => by
    rw [ownFrom]
    cases hr : ownRun t f (segOf bs fs f) o with
    | none => simp
    | some o' =>
      simp only
      rcases own_bd _ _ _ _ _ hr with rfl | rfl
      · exact ownFrom_bd bs fs t k (f + 1) o' h1 (by omega) (by omega)
      · exact ownFrom_bd bs fs t k (f + 1) f (by omega) (by omega) (by omega)
theorem owner_bd (bs : List (List Sp)) (fs : List Int) (t : Int) : -1 ≤ ownerOf bs fs t ∧ (ownerOf bs fs t < fs.length ∨ ownerOf bs fs t < 0) := ownFrom_bd bs fs t fs.length 0 (-1) (by decide) (by omega) (by omega)
end Go.Proofs.YtechpdfcgimkkaaDoor
