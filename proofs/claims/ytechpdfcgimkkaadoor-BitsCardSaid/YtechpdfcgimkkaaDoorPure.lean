/-
  Plain functions on numbers: the tables of package isa, and what an instruction of these numbers comes to. Nothing of the program stands here.
-/
namespace Go.Proofs.YtechpdfcgimkkaaDoor
namespace Isa
def opF (k : Int) : Int := ([0, 0, 1, 2, 3, 16, 17, 32, 33, 34, 35, 36, 37, 38, 48, 49, 64, 65, 80, 81, 82, 83, 96, 98, 99] : List Int).getD k.toNat 0
def opL (k : Int) : Int := ([0, 0, 0, 0, 0, 0, 0, 0, 0, 0, 0, 0, 0, 0, 0, 0, 0, 0, 84, 85, 86, 87, 97, 0, 0] : List Int).getD k.toNat 0
def opS (k : Int) : Int := ([0, 0, 0, 0, 0, 1, 2, 3, 3, 3, 3, 3, 3, 3, 2, 4, 5, 6, 7, 7, 7, 7, 8, 9, 10] : List Int).getD k.toNat 0
def shU (s : Int) : Int := ([0, 0, 1, 1, 3, 0, 0, 2, 0, 0, 0] : List Int).getD s.toNat 0
def shL (s : Int) : Int := ([0, 1, 2, 2, 2, 1, 2, 3, 0, 0, 2] : List Int).getD s.toNat 0
def shT (s : Int) : Int := ([0, 0, 0, 3, 0, 0, 0, 0, 0, 0, 0] : List Int).getD s.toNat 0
def shW (s : Int) : Int := ([0, 2, 1, 0, 1, 0, 0, 1, 1, 2, 1] : List Int).getD s.toNat 0
def kU (k : Int) : Int := shU (opS k)
def kL (k : Int) : Int := shL (opS k)
def kT (k : Int) : Int := shT (opS k)
def kW (k : Int) : Int := shW (opS k)
def hasB (u l t x : Int) : Bool := u == x || l == x || t == x
/-- Has the kind a D, an A, a B, an N, a long form? -/
def rD (k : Int) : Bool := hasB (kU k) (kL k) (kT k) 1
def rA (k : Int) : Bool := hasB (kU k) (kL k) (kT k) 2
def rB (k : Int) : Bool := hasB (kU k) (kL k) (kT k) 3
def rN (k : Int) : Bool := decide (0 < kW k)
def rL (k : Int) : Bool := decide (0 < opL k)
def formB (k d a b n : Int) (l : Bool) : Bool := (d == 0 || rD k) && (a == 0 || rA k) && (b == 0 || rB k) && (n == 0 || rN k) && (!l || rL k)
def regB (x : Int) : Bool := decide (0 ≤ x) && decide (x < 8)
def wid (k : Int) (l : Bool) : Int := if l then 2 else kW k
def lo (k : Int) (l : Bool) : Int := if k = 24 then 0 else if wid k l = 2 then -32768 else -128
def hi (k : Int) (l : Bool) : Int := if k = 24 then 19 else if wid k l = 2 then 32767 else 127
def inB (x y z : Int) : Bool := decide (y ≤ x) && decide (x ≤ z)
/-- What is wrong with an instruction: P1.1's number; 0: nothing. -/
def chk (k d a b n : Int) (l : Bool) : Int :=
  if k < 1 ∨ 24 < k then 3 else if formB k d a b n l = false then 4 else if (regB d && regB a && regB b) = false then 2 else if n < lo k l ∨ hi k l < n then 2 else 0
/-- How many bytes. -/
def siz (k : Int) (l : Bool) : Int := 1 + wid k l + (if kL k = 0 then 0 else 1) + (if kT k = 0 then 0 else 1)
theorem kinds {k : Int} (h1 : 1 ≤ k) (h2 : k ≤ 24) : k = 1 ∨ k = 2 ∨ k = 3 ∨ k = 4 ∨ k = 5 ∨ k = 6 ∨ k = 7 ∨ k = 8 ∨ k = 9 ∨ k = 10 ∨ k = 11 ∨ k = 12 ∨ k = 13 ∨ k = 14 ∨ k = 15 ∨ k = 16 ∨ k = 17 ∨ k = 18 ∨ k = 19 ∨ k = 20 ∨ k = 21 ∨ k = 22 ∨ k = 23 ∨ k = 24 := by omega
theorem opS_lo {k : Int} (h1 : 1 ≤ k) (h2 : k ≤ 24) : 0 ≤ opS k := by rcases kinds h1 h2 with rfl | rfl | rfl | rfl | rfl | rfl | rfl | rfl | rfl | rfl | rfl | rfl | rfl | rfl | rfl | rfl | rfl | rfl | rfl | rfl | rfl | rfl | rfl | rfl <;> decide
theorem opS_hi {k : Int} (h1 : 1 ≤ k) (h2 : k ≤ 24) : opS k ≤ 10 := by rcases kinds h1 h2 with rfl | rfl | rfl | rfl | rfl | rfl | rfl | rfl | rfl | rfl | rfl | rfl | rfl | rfl | rfl | rfl | rfl | rfl | rfl | rfl | rfl | rfl | rfl | rfl <;> decide
theorem kW_02 {k : Int} (h1 : 1 ≤ k) (h2 : k ≤ 24) : kW k = 0 ∨ kW k = 1 ∨ kW k = 2 := by rcases kinds h1 h2 with rfl | rfl | rfl | rfl | rfl | rfl | rfl | rfl | rfl | rfl | rfl | rfl | rfl | rfl | rfl | rfl | rfl | rfl | rfl | rfl | rfl | rfl | rfl | rfl <;> decide
theorem rL_eq {k : Int} (h1 : 1 ≤ k) (h2 : k ≤ 24) : rL k = !(opL k == 0) := by rcases kinds h1 h2 with rfl | rfl | rfl | rfl | rfl | rfl | rfl | rfl | rfl | rfl | rfl | rfl | rfl | rfl | rfl | rfl | rfl | rfl | rfl | rfl | rfl | rfl | rfl | rfl <;> decide
end Isa
end Go.Proofs.YtechpdfcgimkkaaDoor
