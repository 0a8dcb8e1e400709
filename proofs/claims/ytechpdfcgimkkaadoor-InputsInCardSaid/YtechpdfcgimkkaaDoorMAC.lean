/-
  Plain functions on numbers: the tables of package isa, and what an instruction of these numbers comes to. Nothing of the program stands here.
-/
import Derived.Test.YtechpdfcgimkkaaDoorProg
import Derived.WalkKit
import Derived.WalkSpells
import Derived.WalkLawsBesides
import Derived.Handy
import Derived.Deep.Light
import Derived.Lib.SmallJoins
import Derived.Deep.RegionHeld3
import Derived.Deep.DeepCutAuto
import Derived.Outline
namespace Go.Proofs.YtechpdfcgimkkaaDoor
namespace Isa
def opF (k : Int) : Int := ([0, 0, 1, 2, 3, 16, 17, 32, 33, 34, 35, 36, 37, 38, 48, 49, 64, 65, 80, 81, 82, 83, 96, 98, 99] : List Int).getD k.toNat 0
def opL (k : Int) : Int := ([0, 0, 0, 0, 0, 0, 0, 0, 0, 0, 0, 0, 0, 0, 0, 0, 0, 0, 84, 85, 86, 87, 97, 0, 0] : List Int).getD k.toNat 0
def opS (k : Int) : Int := ([0, 0, 0, 0, 0, 1, 2, 3, 3, 3, 3, 3, 3, 3, 2, 4, 5, 6, 7, 7, 7, 7, 8, 9, 10] : List Int).getD k.toNat 0
def shU (s : Int) : Int := ([0, 0, 1, 1, 3, 0, 0, 2, 0, 0, 0] : List Int).getD s.toNat 0
def shL (s : Int) : Int := ([0, 1, 2, 2, 2, 1, 2, 3, 0, 0, 2] : List Int).getD s.toNat 0
def shT (s : Int) : Int := ([0, 0, 0, 3, 0, 0, 0, 0, 0, 0, 0] : List Int).getD s.toNat 0
def shW (s : Int) : Int := ([0, 2, 1, 0, 1, 0, 0, 1, 1, 2, 1] : List Int).getD s.toNat 0
def kU (k : Int) : Int := shU (opS k)
def kL (k : Int) : Int := shL (opS k)
def kT (k : Int) : Int := shT (opS k)
def kW (k : Int) : Int := shW (opS k)
def hasB (u l t x : Int) : Bool := u == x || l == x || t == x
/-- Has the kind a D, an A, a B, an N, a long form? -/
def rD (k : Int) : Bool := hasB (kU k) (kL k) (kT k) 1
def rA (k : Int) : Bool := hasB (kU k) (kL k) (kT k) 2
def rB (k : Int) : Bool := hasB (kU k) (kL k) (kT k) 3
def rN (k : Int) : Bool := decide (0 < kW k)
def rL (k : Int) : Bool := decide (0 < opL k)
def formB (k d a b n : Int) (l : Bool) : Bool := (d == 0 || rD k) && (a == 0 || rA k) && (b == 0 || rB k) && (n == 0 || rN k) && (!l || rL k)
def regB (x : Int) : Bool := decide (0 ≤ x) && decide (x < 8)
def wid (k : Int) (l : Bool) : Int := if l then 2 else kW k
def lo (k : Int) (l : Bool) : Int := if k = 24 then 0 else if wid k l = 2 then -32768 else -128
def hi (k : Int) (l : Bool) : Int := if k = 24 then 19 else if wid k l = 2 then 32767 else 127
def inB (x y z : Int) : Bool := decide (y ≤ x) && decide (x ≤ z)
/-- What is wrong with an instruction: P1.1's number; 0: nothing. -/
def chk (k d a b n : Int) (l : Bool) : Int :=
  if k < 1 ∨ 24 < k then 3 else if formB k d a b n l = false then 4 else if (regB d && regB a && regB b) = false then 2 else if n < lo k l ∨ hi k l < n then 2 else 0
/-- How many bytes. -/
def siz (k : Int) (l : Bool) : Int := 1 + wid k l + (if kL k = 0 then 0 else 1) + (if kT k = 0 then 0 else 1)
theorem kinds {k : Int} (h1 : 1 ≤ k) (h2 : k ≤ 24) : k = 1 ∨ k = 2 ∨ k = 3 ∨ k = 4 ∨ k = 5 ∨ k = 6 ∨ k = 7 ∨ k = 8 ∨ k = 9 ∨ k = 10 ∨ k = 11 ∨ k = 12 ∨ k = 13 ∨ k = 14 ∨ k = 15 ∨ k = 16 ∨ k = 17 ∨ k = 18 ∨ k = 19 ∨ k = 20 ∨ k = 21 ∨ k = 22 ∨ k = 23 ∨ k = 24 := by omega
theorem opS_lo {k : Int} (h1 : 1 ≤ k) (h2 : k ≤ 24) : 0 ≤ opS k := by rcases kinds h1 h2 with rfl | rfl | rfl | rfl | rfl | rfl | rfl | rfl | rfl | rfl | rfl | rfl | rfl | rfl | rfl | rfl | rfl | rfl | rfl | rfl | rfl | rfl | rfl | rfl <;> decide
theorem opS_hi {k : Int} (h1 : 1 ≤ k) (h2 : k ≤ 24) : opS k ≤ 10 := by rcases kinds h1 h2 with rfl | rfl | rfl | rfl | rfl | rfl | rfl | rfl | rfl | rfl | rfl | rfl | rfl | rfl | rfl | rfl | rfl | rfl | rfl | rfl | rfl | rfl | rfl | rfl <;> decide
theorem kW_02 {k : Int} (h1 : 1 ≤ k) (h2 : k ≤ 24) : kW k = 0 ∨ kW k = 1 ∨ kW k = 2 := by rcases kinds h1 h2 with rfl | rfl | rfl | rfl | rfl | rfl | rfl | rfl | rfl | rfl | rfl | rfl | rfl | rfl | rfl | rfl | rfl | rfl | rfl | rfl | rfl | rfl | rfl | rfl <;> decide
theorem rL_eq {k : Int} (h1 : 1 ≤ k) (h2 : k ≤ 24) : rL k = !(opL k == 0) := by rcases kinds h1 h2 with rfl | rfl | rfl | rfl | rfl | rfl | rfl | rfl | rfl | rfl | rfl | rfl | rfl | rfl | rfl | rfl | rfl | rfl | rfl | rfl | rfl | rfl | rfl | rfl <;> decide
end Isa
end Go.Proofs.YtechpdfcgimkkaaDoor
/-
  What the walks ask of a world: the two tables of package isa lie in it as the program's text lays them.
-/
namespace Go.Proofs.YtechpdfcgimkkaaDoor
open Go.RowKit Isa
/-- The tables, read by the kind. -/
structure Tabs (w : World) : Prop where
  sz : 1 < w.heap.size
  op : ∀ k : Int, 0 ≤ k → k ≤ 24 → w.cell? ⟨1, k.toNat * 3, none⟩ = some (.int .u8 (opF k)) ∧ w.cell? ⟨1, k.toNat * 3 + 1, none⟩ = some (.int .u8 (opL k)) ∧ w.cell? ⟨1, k.toNat * 3 + 2, none⟩ = some (.int .i64 (opS k))
  sh : ∀ k : Int, 0 ≤ k → k ≤ 24 → w.cell? ⟨0, (opS k).toNat * 4, none⟩ = some (.int .i64 (kU k)) ∧ w.cell? ⟨0, (opS k).toNat * 4 + 1, none⟩ = some (.int .i64 (kL k)) ∧ w.cell? ⟨0, (opS k).toNat * 4 + 2, none⟩ = some (.int .i64 (kT k)) ∧ w.cell? ⟨0, (opS k).toNat * 4 + 3, none⟩ = some (.int .i64 (kW k))
theorem Tabs.below {B : Nat} {w w' : World} (h : Tabs w) (hB : 1 < B) (hb : Below B w w') : Tabs w' := by
  refine ⟨Nat.lt_of_lt_of_le h.sz hb.size, fun k h0 h1 => ?_, fun k h0 h1 => ?_⟩
  · obtain ⟨a, b, c⟩ := h.op k h0 h1
    exact ⟨(hb.cell (p := ⟨_, _, none⟩) (by show (1 : Nat) < B; omega)).trans a, (hb.cell (p := ⟨_, _, none⟩) (by show (1 : Nat) < B; omega)).trans b, (hb.cell (p := ⟨_, _, none⟩) (by show (1 : Nat) < B; omega)).trans c⟩
  · obtain ⟨a, b, c, d⟩ := h.sh k h0 h1
    exact ⟨(hb.cell (p := ⟨_, _, none⟩) (by show (0 : Nat) < B; omega)).trans a, (hb.cell (p := ⟨_, _, none⟩) (by show (0 : Nat) < B; omega)).trans b, (hb.cell (p := ⟨_, _, none⟩) (by show (0 : Nat) < B; omega)).trans c, (hb.cell (p := ⟨_, _, none⟩) (by show (0 : Nat) < B; omega)).trans d⟩
theorem bcell {B : Nat} {W w1 : World} (hb : Below B W w1) : (∀ b o, b < B → w1.cell? ⟨b, o, none⟩ = W.cell? ⟨b, o, none⟩) ∧ (∀ b o, b < B → w1.frozen? ⟨b, o, none⟩ = W.frozen? ⟨b, o, none⟩) :=
  ⟨fun b o h => hb.cell (p := ⟨b, o, none⟩) h, fun b o h => hb.frozen (p := ⟨b, o, none⟩) h⟩
end Go.Proofs.YtechpdfcgimkkaaDoor
/-
  Plain functions on numbers: the instructions that boltholekeep makes of raw numbers; each may be (P1.1).
-/
namespace Go.Proofs.YtechpdfcgimkkaaDoor
namespace Isa
/-- picked. -/
def pk (x m : Int) : Int := (if x < 0 then -(x + 1) else x) % m
theorem pk_bd (x m : Int) (h : 0 < m) : 0 ≤ pk x m ∧ pk x m < m := ⟨Int.emod_nonneg _ (by omega), Int.emod_lt_of_pos _ h⟩
/-- An instruction's numbers. -/
structure Ins where
  k : Int
  d : Int
  a : Int
  b : Int
  n : Int
  l : Bool
/-- Plain. -/
def plainF (K A B C : Int) : Ins :=
  if pk K 20 < 4 then ⟨5, pk A 7, 0, 0, pk C 40 - 10, false⟩
  else if pk K 20 < 7 then ⟨6, pk A 7, pk B 7, 0, pk C 12 - 3, false⟩
  else if pk K 20 < 12 then ⟨7 + pk C 7, pk A 7, pk B 7, pk C 7, 0, false⟩
  else if pk K 20 = 12 then ⟨14, pk A 7, 0, 0, pk C 6, false⟩
  else if pk K 20 = 13 then ⟨15, 0, 0, pk C 7, pk C 6, false⟩
  else if pk K 20 = 14 then ⟨16, pk A 7, 0, 0, 0, false⟩
  else if pk K 20 = 15 then ⟨4, 0, 0, 0, 0, false⟩
  else ⟨17, 0, pk B 7, 0, 0, false⟩
/-- anyInstr. -/
def anyF (K A B C : Int) (long : Bool) : Ins :=
  if 0 < pk K 3 then plainF K A B C
  else if pk A 7 = 0 then ⟨22, 0, 0, 0, pk C 250 - 125, long⟩
  else if pk A 7 = 1 then ⟨23, 0, 0, 0, 100 * (pk C 250 - 125), false⟩
  else if pk A 7 = 2 then ⟨24, 0, pk B 8, 0, pk C 20, false⟩
  else if pk A 7 = 3 then ⟨1 + pk B 4, 0, 0, 0, 0, false⟩
  else ⟨18 + pk B 4, 0, pk A 8, pk C 8, if long then (pk C 250 - 125) * 200 else pk C 250 - 125, long⟩
def Ins.chk (x : Ins) : Int := Isa.chk x.k x.d x.a x.b x.n x.l
theorem chk_ok {k d a b n : Int} {l : Bool} (h1 : 1 ≤ k) (h2 : k ≤ 24) (hf : formB k d a b n l = true) (hd : regB d = true) (ha : regB a = true) (hb : regB b = true) (hn : lo k l ≤ n) (hn2 : n ≤ hi k l) : Isa.chk k d a b n l = 0 := by
  unfold Isa.chk
  rw [if_neg (by omega), if_neg (by rw [hf]; simp), if_neg (by rw [hd, ha, hb]; simp), if_neg (by omega)]
theorem reg_ok {x : Int} (h0 : 0 ≤ x) (h1 : x < 8) : regB x = true := by unfold regB; simp; omega
theorem four {x : Int} (h0 : 0 ≤ x) (h1 : x < 4) : x = 0 ∨ x = 1 ∨ x = 2 ∨ x = 3 := by omega
theorem seven {x : Int} (h0 : 0 ≤ x) (h1 : x < 7) : x = 0 ∨ x = 1 ∨ x = 2 ∨ x = 3 ∨ x = 4 ∨ x = 5 ∨ x = 6 := by omega
theorem chk_of {k d a b n : Int} {l : Bool} (h1 : 1 ≤ k) (h2 : k ≤ 24) (hD : d = 0 ∨ rD k = true) (hA : a = 0 ∨ rA k = true) (hB : b = 0 ∨ rB k = true) (hN : n = 0 ∨ rN k = true) (hL : l = false ∨ rL k = true)
    (d0 : 0 ≤ d) (d1 : d < 8) (a0 : 0 ≤ a) (a1 : a < 8) (b0 : 0 ≤ b) (b1 : b < 8) (hn : lo k l ≤ n) (hn2 : n ≤ hi k l) : Isa.chk k d a b n l = 0 := by
  refine chk_ok h1 h2 ?_ (reg_ok d0 d1) (reg_ok a0 a1) (reg_ok b0 b1) hn hn2
  unfold formB
  rcases hD with h | h <;> rcases hA with h' | h' <;> rcases hB with h'' | h'' <;> rcases hN with h3 | h3 <;> rcases hL with h4 | h4 <;> simp [h, h', h'', h3, h4]
theorem ok5 {d n : Int} (d0 : 0 ≤ d) (d1 : d < 8) (n0 : -32768 ≤ n) (n1 : n ≤ 32767) : Isa.chk 5 d 0 0 n false = 0 :=
  chk_of (by decide) (by decide) (Or.inr rfl) (Or.inl rfl) (Or.inl rfl) (Or.inr rfl) (Or.inl rfl) d0 d1 (by decide) (by decide) (by decide) (by decide) n0 n1
theorem ok6 {d a n : Int} (d0 : 0 ≤ d) (d1 : d < 8) (a0 : 0 ≤ a) (a1 : a < 8) (n0 : -128 ≤ n) (n1 : n ≤ 127) : Isa.chk 6 d a 0 n false = 0 :=
  chk_of (by decide) (by decide) (Or.inr rfl) (Or.inr rfl) (Or.inl rfl) (Or.inr rfl) (Or.inl rfl) d0 d1 a0 a1 (by decide) (by decide) n0 n1
theorem ok14 {d a n : Int} (d0 : 0 ≤ d) (d1 : d < 8) (a0 : 0 ≤ a) (a1 : a < 8) (n0 : -128 ≤ n) (n1 : n ≤ 127) : Isa.chk 14 d a 0 n false = 0 :=
  chk_of (by decide) (by decide) (Or.inr rfl) (Or.inr rfl) (Or.inl rfl) (Or.inr rfl) (Or.inl rfl) d0 d1 a0 a1 (by decide) (by decide) n0 n1
theorem ok15 {a b n : Int} (a0 : 0 ≤ a) (a1 : a < 8) (b0 : 0 ≤ b) (b1 : b < 8) (n0 : -128 ≤ n) (n1 : n ≤ 127) : Isa.chk 15 0 a b n false = 0 :=
  chk_of (by decide) (by decide) (Or.inl rfl) (Or.inr rfl) (Or.inr rfl) (Or.inr rfl) (Or.inl rfl) (by decide) (by decide) a0 a1 b0 b1 n0 n1
theorem ok16 {d : Int} (d0 : 0 ≤ d) (d1 : d < 8) : Isa.chk 16 d 0 0 0 false = 0 :=
  chk_of (by decide) (by decide) (Or.inr rfl) (Or.inl rfl) (Or.inl rfl) (Or.inl rfl) (Or.inl rfl) d0 d1 (by decide) (by decide) (by decide) (by decide) (by decide) (by decide)
theorem ok17 {a : Int} (a0 : 0 ≤ a) (a1 : a < 8) : Isa.chk 17 0 a 0 0 false = 0 :=
  chk_of (by decide) (by decide) (Or.inl rfl) (Or.inr rfl) (Or.inl rfl) (Or.inl rfl) (Or.inl rfl) (by decide) (by decide) a0 a1 (by decide) (by decide) (by decide) (by decide)
theorem ok22 {n : Int} {l : Bool} (n0 : -128 ≤ n) (n1 : n ≤ 127) : Isa.chk 22 0 0 0 n l = 0 := by
  cases l
  · exact chk_of (by decide) (by decide) (Or.inl rfl) (Or.inl rfl) (Or.inl rfl) (Or.inr rfl) (Or.inl rfl) (by decide) (by decide) (by decide) (by decide) (by decide) (by decide) n0 n1
  · exact chk_of (by decide) (by decide) (Or.inl rfl) (Or.inl rfl) (Or.inl rfl) (Or.inr rfl) (Or.inr rfl) (by decide) (by decide) (by decide) (by decide) (by decide) (by decide) (show (-32768 : Int) ≤ n by omega) (show n ≤ 32767 by omega)
theorem ok23 {n : Int} (n0 : -32768 ≤ n) (n1 : n ≤ 32767) : Isa.chk 23 0 0 0 n false = 0 :=
  chk_of (by decide) (by decide) (Or.inl rfl) (Or.inl rfl) (Or.inl rfl) (Or.inr rfl) (Or.inl rfl) (by decide) (by decide) (by decide) (by decide) (by decide) (by decide) n0 n1
theorem ok24 {a n : Int} (a0 : 0 ≤ a) (a1 : a < 8) (n0 : 0 ≤ n) (n1 : n ≤ 19) : Isa.chk 24 0 a 0 n false = 0 :=
  chk_of (by decide) (by decide) (Or.inl rfl) (Or.inr rfl) (Or.inl rfl) (Or.inr rfl) (Or.inl rfl) (by decide) (by decide) a0 a1 (by decide) (by decide) n0 n1
theorem okT {z d a b : Int} (z0 : 0 ≤ z) (z1 : z < 7) (d0 : 0 ≤ d) (d1 : d < 8) (a0 : 0 ≤ a) (a1 : a < 8) (b0 : 0 ≤ b) (b1 : b < 8) : Isa.chk (7 + z) d a b 0 false = 0 := by
  have h : rD (7 + z) = true ∧ rA (7 + z) = true ∧ rB (7 + z) = true ∧ lo (7 + z) false = -128 ∧ hi (7 + z) false = 127 := by rcases seven z0 z1 with rfl | rfl | rfl | rfl | rfl | rfl | rfl <;> decide
  obtain ⟨r1, r2, r3, r4, r5⟩ := h
  exact chk_of (by omega) (by omega) (Or.inr r1) (Or.inr r2) (Or.inr r3) (Or.inl rfl) (Or.inl rfl) d0 d1 a0 a1 b0 b1 (by rw [r4]; decide) (by rw [r5]; decide)
theorem okN {z : Int} (z0 : 0 ≤ z) (z1 : z < 4) : Isa.chk (1 + z) 0 0 0 0 false = 0 := by
  rcases four z0 z1 with rfl | rfl | rfl | rfl <;> decide
theorem okB {z a b n : Int} {l : Bool} (z0 : 0 ≤ z) (z1 : z < 4) (a0 : 0 ≤ a) (a1 : a < 8) (b0 : 0 ≤ b) (b1 : b < 8) (n0 : (if l then -32768 else -128) ≤ n) (n1 : n ≤ if l then 32767 else 127) : Isa.chk (18 + z) 0 a b n l = 0 := by
  have h : rA (18 + z) = true ∧ rB (18 + z) = true ∧ rN (18 + z) = true ∧ rL (18 + z) = true ∧ lo (18 + z) l = (if l then -32768 else -128) ∧ hi (18 + z) l = if l then 32767 else 127 := by cases l <;> rcases four z0 z1 with rfl | rfl | rfl | rfl <;> decide
  obtain ⟨r2, r3, r4, r5, r6, r7⟩ := h
  exact chk_of (by omega) (by omega) (Or.inl rfl) (Or.inr r2) (Or.inr r3) (Or.inr r4) (Or.inr r5) (by decide) (by decide) a0 a1 b0 b1 (by rw [r6]; exact n0) (by rw [r7]; exact n1)
theorem plain_ok (K A B C : Int) : (plainF K A B C).chk = 0 := by
  obtain ⟨a1, a2⟩ := pk_bd A 7 (by decide)
  obtain ⟨b1, b2⟩ := pk_bd B 7 (by decide)
  obtain ⟨c1, c2⟩ := pk_bd C 7 (by decide)
  obtain ⟨c3, c4⟩ := pk_bd C 40 (by decide)
  obtain ⟨c5, c6⟩ := pk_bd C 12 (by decide)
  obtain ⟨c7, c8⟩ := pk_bd C 6 (by decide)
  unfold plainF
  split
  · exact ok5 a1 (by (try dsimp only); omega) (by (try dsimp only); omega) (by (try dsimp only); omega)
  split
  · exact ok6 a1 (by (try dsimp only); omega) b1 (by (try dsimp only); omega) (by (try dsimp only); omega) (by (try dsimp only); omega)
  split
  · exact okT c1 c2 a1 (by (try dsimp only); omega) b1 (by (try dsimp only); omega) c1 (by (try dsimp only); omega)
  split
  · exact ok14 a1 (by (try dsimp only); omega) (by (try dsimp only); omega) (by (try dsimp only); omega) (by (try dsimp only); omega) (by (try dsimp only); omega)
  split
  · exact ok15 (by (try dsimp only); omega) (by (try dsimp only); omega) c1 (by (try dsimp only); omega) (by (try dsimp only); omega) (by (try dsimp only); omega)
  split
  · exact ok16 a1 (by (try dsimp only); omega)
  split
  · exact okN (z := 3) (by decide) (by decide)
  · exact ok17 b1 (by (try dsimp only); omega)
theorem any_ok (K A B C : Int) (long : Bool) : (anyF K A B C long).chk = 0 := by
  obtain ⟨a1, a2⟩ := pk_bd A 8 (by decide)
  obtain ⟨b1, b2⟩ := pk_bd B 8 (by decide)
  obtain ⟨b3, b4⟩ := pk_bd B 4 (by decide)
  obtain ⟨c1, c2⟩ := pk_bd C 250 (by decide)
  obtain ⟨c3, c4⟩ := pk_bd C 20 (by decide)
  obtain ⟨c5, c6⟩ := pk_bd C 8 (by decide)
  unfold anyF
  split
  · exact plain_ok K A B C
  split
  · exact ok22 (by (try dsimp only); omega) (by (try dsimp only); omega)
  split
  · exact ok23 (by (try dsimp only); omega) (by (try dsimp only); omega)
  split
  · exact ok24 b1 (by (try dsimp only); omega) c3 (by (try dsimp only); omega)
  split
  · exact okN b3 b4
  · exact okB b3 b4 a1 (by (try dsimp only); omega) c5 (by (try dsimp only); omega) (by cases long <;> simp <;> omega) (by cases long <;> simp <;> omega)
end Isa
end Go.Proofs.YtechpdfcgimkkaaDoor
/-
  boltholekeep.picked.
-/
namespace Go.Proofs.YtechpdfcgimkkaaDoor
open Go.RowKit Go.Joins Isa
set_option maxHeartbeats 400000 in
theorem picked_any (x m : Int) (w : World) (h0 : 0 < m) (_h1 : -9223372036854775808 ≤ x) (_h2 : x ≤ 9223372036854775807) : Calls Tryd.prog 19 #[.int .i64 x, .int .i64 m] w fun e w' => e = .returned (.int .i64 (pk x m)) ∧ w' = w := by
  have hm : (m == 0) = false := by simp; omega
  by_cases hx : x < 0
  · have hp : Hid (pk x m = -((x + 1).tmod m)) := by
      show _ = _
      rw [← Int.neg_tmod, Int.tmod_eq_emod_of_nonneg (by omega)]
      simp [pk, hx]
    go_enter Tryd.func19, Tryd.ntmps19
    go_wp2
    go_ret
    exact ⟨by rw [hp.out]; rfl, rfl⟩
  · have hp : Hid (pk x m = x % m) := by show _ = _; simp [pk, hx]
    go_enter Tryd.func19, Tryd.ntmps19
    go_wp2
    go_ret
    exact ⟨by rw [hp.out]; rfl, rfl⟩
end Go.Proofs.YtechpdfcgimkkaaDoor
