/-
  The numbers of math/bits.Div64 at step's cycle, plain.
-/
import Derived.Test.YtechpdfcgimkkaaDoorWalkSt
import Derived.Laws.Bits64b
namespace Go.Proofs.YtechpdfcgimkkaaDoor
open Go.RowKit Go.Joins Isa
theorem dv_or (hi lo : Nat) (h : hi ≤ 65536) (hl : lo < 18446744073709551616) : bits BinOp.or IntKind.u64 ((hi : Int) * 4194304) ((lo : Int) / 4398046511104) = ((hi * 4194304 + lo / 4398046511104 : Nat) : Int) := by
  have := bits_or_u64_nat (hi * 4194304) (lo / 4398046511104) (by omega) (by omega)
  rw [show (hi : Int) * 4194304 = ((hi * 4194304 : Nat) : Int) by omega, show (lo : Int) / 4398046511104 = ((lo / 4398046511104 : Nat) : Int) by omega, this]
  congr 1
  have h2 := Nat.two_pow_add_eq_or_of_lt (i := 22) (b := lo / 4398046511104) (by omega) hi
  rw [show (2 : Nat) ^ 22 = 4194304 from rfl, Nat.mul_comm] at h2
  exact h2.symm
theorem dv_and (T : Nat) (h : T < 18446744073709551616) : bits BinOp.and IntKind.u64 (T : Int) 4294967295 = ((T % 4294967296 : Nat) : Int) := by
  have := bits_and_u64_nat T 4294967295 h (by omega)
  rw [Nat.and_two_pow_sub_one_eq_mod T 32] at this
  exact this
theorem dv_and2 : bits BinOp.and IntKind.u64 9223372036858970112 4294967295 = 4194304 := by
  have := dv_and 9223372036858970112 (by omega)
  exact this
theorem dv_sub (a b c : Nat) (h : (a : Int) = (b : Int) + c) (hc : c < 18446744073709551616) : IntKind.u64.wrap ((a : Int) - (b : Int)) = (c : Int) := by rw [IntKind.wrap_u64]; omega
theorem dva1 (lo : Nat) : lo * 4194304 / 18446744073709551616 = lo / 4398046511104 := by
  rw [show (18446744073709551616 : Nat) = 4398046511104 * 4194304 from rfl]
  exact Nat.mul_div_mul_right lo 4398046511104 (by omega)
theorem dva2 (hi lo U T T1 T0 : Nat) (hU : hi * 4194304 + lo / 4398046511104 = U) (hT : lo * 4194304 % 18446744073709551616 = T) (hT1 : T / 4294967296 = T1) (hT0 : T % 4294967296 = T0) : U * 18446744073709551616 + (T1 * 4294967296 + T0) = (hi * 18446744073709551616 + lo) * 4194304 := by
  have h1 : T1 * 4294967296 + T0 = T := by rw [← hT1, ← hT0, Nat.mul_comm]; exact Nat.div_add_mod T 4294967296
  have h2 := Nat.div_add_mod (lo * 4194304) 18446744073709551616
  rw [dva1, hT] at h2
  rw [h1, ← hU, Nat.add_mul, Nat.add_mul, Nat.add_assoc, Nat.mul_comm (lo / 4398046511104), h2, Nat.mul_right_comm]
theorem dva3 (hi lo U : Nat) (h : hi ≤ 65536) (hl : lo < 18446744073709551616) (hU : hi * 4194304 + lo / 4398046511104 = U) : U ≤ 274882101248 := by omega
theorem dva4 (U Q R : Nat) (hQ : U / 2147483648 = Q) (hR : U % 2147483648 = R) : Q * 2147483648 + R = U ∧ R < 2147483648 := by omega
theorem dva5 (lo : Nat) : ((lo : Int) * 4194304) % 18446744073709551616 = ((lo * 4194304 % 18446744073709551616 : Nat) : Int) := by omega
theorem dva6 (U : Nat) (h : U ≤ 274882101248) : ((U : Int) / 2147483648) % 18446744073709551616 = ((U / 2147483648 : Nat) : Int) := by omega
theorem dva7 (Q : Nat) (h : Q ≤ 128) : ((Q : Int) * 2147483648) % 18446744073709551616 = (Q : Int) * 2147483648 := by omega
theorem dva8 (U Q R : Nat) (h : U ≤ 274882101248) (g : Q * 2147483648 + R = U) : ((U : Int) - (Q : Int) * 2147483648) % 18446744073709551616 = (R : Int) := by omega
theorem dvb1 (d Q R : Nat) (hd : d < 9223372036858970112) (g : Q * 2147483648 + R = d) : Q ≤ 4294967296 := by omega
theorem dvb2 (d : Nat) (hd : d < 9223372036858970112) : ((d : Int) / 2147483648) % 18446744073709551616 = ((d / 2147483648 : Nat) : Int) := by omega
theorem dvb3 (Q : Nat) (h : Q ≤ 4294967296) : ((Q : Int) * 2147483648) % 18446744073709551616 = (Q : Int) * 2147483648 := by omega
theorem dvb4 (d Q R : Nat) (g : Q * 2147483648 + R = d) (hR : R < 4294967296) : ((d : Int) - (Q : Int) * 2147483648) % 18446744073709551616 = (R : Int) := by omega
theorem dvc1 (q : Nat) (h : q ≤ 4294967296) : ((q : Int) * 4194304) % 18446744073709551616 = ((q * 4194304 : Nat) : Int) := by omega
theorem dvc2 (r : Nat) (h : r < 4294967296) : (4294967296 * (r : Int)) % 18446744073709551616 = ((4294967296 * r : Nat) : Int) := by omega
theorem dvc3 (r T : Nat) (h : r < 4294967296) (hT : T < 4294967296) : (((4294967296 * r : Nat) : Int) + (T : Int)) % 18446744073709551616 = ((4294967296 * r + T : Nat) : Int) := by omega
theorem dvc4 (q r T d : Nat) (hd : d < 9223372036858970112) (g : q * 2147483648 + r = d) (hr : r < 4294967296) (h : 4294967296 * r + T < q * 4194304) : r < 2147483648 ∧ 1 ≤ q := by omega
theorem dvc5 (q r T d : Nat) (hd : d < 9223372036858970112) (g : q * 2147483648 + r = d) (hT : T < 4294967296) (h : 4294967296 ≤ q) : 4294967296 * r + T < q * 4194304 := by omega
theorem dvc6 (q q' r r' T d : Nat) (hq : q = q' + 1) (hr : r + 2147483648 = r') (h0 : r < 2147483648) (g : q * 2147483648 + r = d) (ht : 4294967296 * r + T < q * 4194304) : q' * 2147483648 + r' = d ∧ r' < 4294967296 ∧ (r' < 2147483648 ∨ (2147483648 ≤ r' ∧ (r' - 2147483648) * 4294967296 + T < (q' + 1) * 4194304)) := by
  refine ⟨by rw [← g, hq, ← hr, Nat.succ_mul, Nat.add_assoc, Nat.add_comm 2147483648 r], by omega, Or.inr ⟨by omega, ?_⟩⟩
  rw [← hr, Nat.add_sub_cancel, ← hq, Nat.mul_comm]
  exact ht
theorem dvc7 (q q' : Nat) (hq : q = q' + 1) (h : q ≤ 4294967296) : ((q : Int) - 1) % 18446744073709551616 = (q' : Int) := by omega
theorem dvc8 (r r' : Nat) (h0 : r < 2147483648) (hr : r + 2147483648 = r') : ((r : Int) + 2147483648) % 18446744073709551616 = (r' : Int) ∧ ¬ (4294967296 : Int) ≤ (r' : Int) := by omega
/-- One digit of the quotient. -/
theorem dv_digit (U V q r : Nat) (g1 : q * 2147483648 + r = U) (h2 : q * 4194304 ≤ 4294967296 * r + V) (h3 : r < 2147483648 ∨ (2147483648 ≤ r ∧ (r - 2147483648) * 4294967296 + V < (q + 1) * 4194304)) (hV : V < 4294967296) :
    ∃ d : Nat, U * 4294967296 + V = q * 9223372036858970112 + d ∧ d < 9223372036858970112 ∧ q * 4194304 + d = 4294967296 * r + V := by
  obtain ⟨d, hd⟩ := Nat.le.dest h2
  refine ⟨d, ?_, ?_, hd⟩
  · subst g1
    rw [Nat.add_mul, Nat.mul_assoc, show 2147483648 * 4294967296 = 9223372036854775808 from rfl, show (9223372036858970112 : Nat) = 9223372036854775808 + 4194304 from rfl, Nat.mul_add, Nat.add_assoc, Nat.add_assoc, hd, Nat.mul_comm 4294967296 r]
  · clear g1 h2
    rcases h3 with h3 | ⟨h3, h4⟩
    · omega
    · obtain ⟨x, rfl⟩ := Nat.le.dest h3
      rw [Nat.add_sub_cancel_left] at h4
      clear h3
      omega
theorem dv_rest (a V q d : Nat) (E : a * 4294967296 + V = q * 9223372036858970112 + d) (hd : d < 9223372036858970112) : IntKind.u64.wrap (IntKind.u64.wrap (IntKind.u64.wrap ((a : Int) * 4294967296) + (V : Int)) - IntKind.u64.wrap ((q : Int) * 9223372036858970112)) = (d : Int) := by
  simp only [IntKind.wrap_u64]
  have E' : (a : Int) * 4294967296 + (V : Int) = (q : Int) * 9223372036858970112 + (d : Int) := by
    have h := congrArg Int.ofNat E
    have h1 : ((a * 4294967296 + V : Nat) : Int) = ((q * 9223372036858970112 + d : Nat) : Int) := h
    rw [Int.natCast_add, Int.natCast_add, Int.natCast_mul, Int.natCast_mul] at h1
    exact h1
  rw [Int.emod_add_emod, ← Int.sub_emod, E', show (q : Int) * 9223372036858970112 + (d : Int) - (q : Int) * 9223372036858970112 = (d : Int) by omega]
  omega
theorem dv_last (hi lo U T1 T0 q1 d1 q0 d0 : Nat) (F : U * 18446744073709551616 + (T1 * 4294967296 + T0) = (hi * 18446744073709551616 + lo) * 4194304) (E1 : U * 4294967296 + T1 = q1 * 9223372036858970112 + d1) (E0 : d1 * 4294967296 + T0 = q0 * 9223372036858970112 + d0) (L : d0 < 9223372036858970112) : d0 / 4194304 = (hi * 18446744073709551616 + lo) % 2199023255553 := by
  omega
end Go.Proofs.YtechpdfcgimkkaaDoor
