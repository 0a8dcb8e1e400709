/-
  Folded numbers, and numbers' bits, as boltholekeep's Sums and Bits ask of them.
-/
import Derived.Test.YtechpdfcgimkkaaDoorWalkPr
import Derived.Laws.Bits64b
namespace Go.Proofs.YtechpdfcgimkkaaDoor
open Go.RowKit Go.Joins Isa
theorem foldN_ex (n : Int) : ∃ q : Int, n = foldN n + q * 2199023255553 ∧ -1099511627776 ≤ foldN n ∧ foldN n ≤ 1099511627776 := by
  have h := Int.tdiv_mul_add_tmod n 2199023255553
  have h1 : n.tmod 2199023255553 < 2199023255553 := Int.tmod_lt_of_pos _ (by decide)
  have h2 : -2199023255553 < n.tmod 2199023255553 := by
    have := Int.tmod_lt_of_pos (-n) (show (0 : Int) < 2199023255553 by decide)
    rw [Int.neg_tmod] at this; omega
  unfold foldN
  generalize n.tdiv 2199023255553 = d at *
  generalize n.tmod 2199023255553 = m at *
  split
  · exact ⟨d + 1, by omega, by omega, by omega⟩
  · split
    · exact ⟨d - 1, by omega, by omega, by omega⟩
    · exact ⟨d, by omega, by omega, by omega⟩
theorem foldN_one {n m : Int} (h : ∃ q : Int, n = m + q * 2199023255553) (h1 : -1099511627776 ≤ m) (h2 : m ≤ 1099511627776) : foldN n = m := by
  obtain ⟨q, hq⟩ := h
  obtain ⟨q', h', b1, b2⟩ := foldN_ex n
  generalize foldN n = f at *
  omega
theorem sums_a {x y : Int} (x1 : -1099511627776 ≤ x) (x2 : x ≤ 1099511627776) : foldN (foldN (x + y) - y) = x := by
  obtain ⟨q, h, _, _⟩ := foldN_ex (x + y)
  exact foldN_one ⟨-q, by omega⟩ x1 x2
theorem sums_b (x y : Int) : (foldN (x + y) - x - y).tmod 2199023255553 = 0 := by
  obtain ⟨q, h, _, _⟩ := foldN_ex (x + y)
  rw [show foldN (x + y) - x - y = (-q) * 2199023255553 by omega]
  exact Int.mul_tmod_left _ _
theorem sums_c {p q : Int} (p1 : -500 ≤ p) (p2 : p ≤ 500) (q1 : -500 ≤ q) (q2 : q ≤ 500) : foldN (p * q) = p * q := by
  have h : (p * q).natAbs ≤ 500 * 500 := by rw [Int.natAbs_mul]; exact Nat.mul_le_mul (by omega) (by omega)
  exact foldN_one ⟨0, by omega⟩ (by omega) (by omega)
theorem and_add_or (n : Nat) : ∀ x y : Nat, x < 2 ^ n → y < 2 ^ n → (x &&& y) + (x ||| y) = x + y ∧ (x ^^^ y) + (x &&& y) = (x ||| y) := by
  induction n with
  | zero => intro x y hx hy; obtain rfl : x = 0 := by omega
            obtain rfl : y = 0 := by omega
            decide
  | succ n ih =>
    intro x y hx hy
    obtain ⟨i1, i2⟩ := ih (x / 2) (y / 2) (by rw [Nat.pow_succ] at hx; omega) (by rw [Nat.pow_succ] at hy; omega)
    have a1 : (x &&& y) / 2 = (x / 2) &&& (y / 2) := Nat.and_div_two
    have o1 : (x ||| y) / 2 = (x / 2) ||| (y / 2) := Nat.or_div_two
    have e1 : (x ^^^ y) / 2 = (x / 2) ^^^ (y / 2) := Nat.xor_div_two
    have a2 : (x &&& y) % 2 = (x % 2) &&& (y % 2) := by have := Nat.and_mod_two_pow (a := x) (b := y) (n := 1); simpa using this
    have o2 : (x ||| y) % 2 = (x % 2) ||| (y % 2) := by have := Nat.or_mod_two_pow (a := x) (b := y) (n := 1); simpa using this
    have e2 : (x ^^^ y) % 2 = (x % 2) ^^^ (y % 2) := by have := Nat.xor_mod_two_pow (a := x) (b := y) (n := 1); simpa using this
    rw [← a1, ← o1] at i1
    rw [← a1, ← o1, ← e1] at i2
    have hxy : (x % 2 = 0 ∨ x % 2 = 1) ∧ (y % 2 = 0 ∨ y % 2 = 1) := by omega
    clear hx hy ih a1 o1 e1
    obtain ⟨h1 | h1, h2 | h2⟩ := hxy
    · rw [h1, h2] at a2 o2 e2
      have a3 : (x &&& y) % 2 = 0 := a2
      have o3 : (x ||| y) % 2 = 0 := o2
      have e3 : (x ^^^ y) % 2 = 0 := e2
      clear a2 o2 e2
      generalize x &&& y = A at *
      generalize x ||| y = O at *
      generalize x ^^^ y = E at *
      omega
    · rw [h1, h2] at a2 o2 e2
      have a3 : (x &&& y) % 2 = 0 := a2
      have o3 : (x ||| y) % 2 = 1 := o2
      have e3 : (x ^^^ y) % 2 = 1 := e2
      clear a2 o2 e2
      generalize x &&& y = A at *
      generalize x ||| y = O at *
      generalize x ^^^ y = E at *
      omega
    · rw [h1, h2] at a2 o2 e2
      have a3 : (x &&& y) % 2 = 0 := a2
      have o3 : (x ||| y) % 2 = 1 := o2
      have e3 : (x ^^^ y) % 2 = 1 := e2
      clear a2 o2 e2
      generalize x &&& y = A at *
      generalize x ||| y = O at *
      generalize x ^^^ y = E at *
      omega
    · rw [h1, h2] at a2 o2 e2
      have a3 : (x &&& y) % 2 = 1 := a2
      have o3 : (x ||| y) % 2 = 1 := o2
      have e3 : (x ^^^ y) % 2 = 0 := e2
      clear a2 o2 e2
      generalize x &&& y = A at *
      generalize x ||| y = O at *
      generalize x ^^^ y = E at *
      omega
theorem bits_and_i64_nat (a b : Nat) (ha : a < 9223372036854775808) (hb : b < 9223372036854775808) :
    bits .and .i64 (a : Int) (b : Int) = ((a &&& b : Nat) : Int) := by
  have hx : a &&& b < 2 ^ 63 := Nat.and_lt_two_pow _ (by omega)
  have h1 : (BitVec.ofInt 64 (a : Int)).toNat = a := by
    rw [BitVec.ofInt_natCast, BitVec.toNat_ofNat]; exact Nat.mod_eq_of_lt (by omega)
  have h2 : (BitVec.ofInt 64 (b : Int)).toNat = b := by
    rw [BitVec.ofInt_natCast, BitVec.toNat_ofNat]; exact Nat.mod_eq_of_lt (by omega)
  show IntKind.i64.wrap ((BitVec.ofInt 64 (a : Int) &&& BitVec.ofInt 64 (b : Int)).toNat : Int) = _
  rw [BitVec.toNat_and, h1, h2, IntKind.wrap_i64]
  omega
theorem bits_or_i64_nat (a b : Nat) (ha : a < 9223372036854775808) (hb : b < 9223372036854775808) :
    bits .or .i64 (a : Int) (b : Int) = ((a ||| b : Nat) : Int) := by
  have hx : a ||| b < 2 ^ 63 := Nat.or_lt_two_pow (by omega) (by omega)
  have h1 : (BitVec.ofInt 64 (a : Int)).toNat = a := by
    rw [BitVec.ofInt_natCast, BitVec.toNat_ofNat]; exact Nat.mod_eq_of_lt (by omega)
  have h2 : (BitVec.ofInt 64 (b : Int)).toNat = b := by
    rw [BitVec.ofInt_natCast, BitVec.toNat_ofNat]; exact Nat.mod_eq_of_lt (by omega)
  show IntKind.i64.wrap ((BitVec.ofInt 64 (a : Int) ||| BitVec.ofInt 64 (b : Int)).toNat : Int) = _
  rw [BitVec.toNat_or, h1, h2, IntKind.wrap_i64]
  omega
theorem bits_xor_i64_nat (a b : Nat) (ha : a < 9223372036854775808) (hb : b < 9223372036854775808) :
    bits .xor .i64 (a : Int) (b : Int) = ((a ^^^ b : Nat) : Int) := by
  have hx : a ^^^ b < 2 ^ 63 := Nat.xor_lt_two_pow (by omega) (by omega)
  have h1 : (BitVec.ofInt 64 (a : Int)).toNat = a := by
    rw [BitVec.ofInt_natCast, BitVec.toNat_ofNat]; exact Nat.mod_eq_of_lt (by omega)
  have h2 : (BitVec.ofInt 64 (b : Int)).toNat = b := by
    rw [BitVec.ofInt_natCast, BitVec.toNat_ofNat]; exact Nat.mod_eq_of_lt (by omega)
  show IntKind.i64.wrap ((BitVec.ofInt 64 (a : Int) ^^^ BitVec.ofInt 64 (b : Int)).toNat : Int) = _
  rw [BitVec.toNat_xor, h1, h2, IntKind.wrap_i64]
  omega
end Go.Proofs.YtechpdfcgimkkaaDoor
