/-
  The numbers of math/bits.Div64 at step's cycle, plain.
-/
import Derived.Test.YtechpdfcgimkkaaDoorWalkStC
import Derived.Laws.Bits64b
import Derived.Shelf.Small.Bits
import Derived.Shelf.Bits.Mul64
import Derived.Test.YtechpdfcgimkkaaDoorChecked
import Derived.BigQuiet
import Derived.Deep.QuietTactic
namespace Go.Proofs.YtechpdfcgimkkaaDoor
open Go.RowKit Go.Joins Isa
theorem dv_or (hi lo : Nat) (h : hi ≤ 65536) (hl : lo < 18446744073709551616) : bits BinOp.or IntKind.u64 ((hi : Int) * 4194304) ((lo : Int) / 4398046511104) = ((hi * 4194304 + lo / 4398046511104 : Nat) : Int) := by
  have := bits_or_u64_nat (hi * 4194304) (lo / 4398046511104) (by omega) (by omega)
  rw [show (hi : Int) * 4194304 = ((hi * 4194304 : Nat) : Int) by omega, show (lo : Int) / 4398046511104 = ((lo / 4398046511104 : Nat) : Int) by omega, this]
  congr 1
  have h2 := Nat.two_pow_add_eq_or_of_lt (i := 22) (b := lo / 4398046511104) (by omega) hi
  rw [show (2 : Nat) ^ 22 = 4194304 from rfl, Nat.mul_comm] at h2
  exact h2.symm
theorem dv_and (T : Nat) (h : T < 18446744073709551616) : bits BinOp.and IntKind.u64 (T : Int) 4294967295 = ((T % 4294967296 : Nat) : Int) := by
  have := bits_and_u64_nat T 4294967295 h (by omega)
  rw [Nat.and_two_pow_sub_one_eq_mod T 32] at this
  exact this
theorem dv_and2 : bits BinOp.and IntKind.u64 9223372036858970112 4294967295 = 4194304 := by
  have := dv_and 9223372036858970112 (by omega)
  exact this
theorem dv_sub (a b c : Nat) (h : (a : Int) = (b : Int) + c) (hc : c < 18446744073709551616) : IntKind.u64.wrap ((a : Int) - (b : Int)) = (c : Int) := by rw [IntKind.wrap_u64]; omega
theorem dva1 (lo : Nat) : lo * 4194304 / 18446744073709551616 = lo / 4398046511104 := by
  rw [show (18446744073709551616 : Nat) = 4398046511104 * 4194304 from rfl]
  exact Nat.mul_div_mul_right lo 4398046511104 (by omega)
theorem dva2 (hi lo U T T1 T0 : Nat) (hU : hi * 4194304 + lo / 4398046511104 = U) (hT : lo * 4194304 % 18446744073709551616 = T) (hT1 : T / 4294967296 = T1) (hT0 : T % 4294967296 = T0) : U * 18446744073709551616 + (T1 * 4294967296 + T0) = (hi * 18446744073709551616 + lo) * 4194304 := by
  have h1 : T1 * 4294967296 + T0 = T := by rw [← hT1, ← hT0, Nat.mul_comm]; exact Nat.div_add_mod T 4294967296
  have h2 := Nat.div_add_mod (lo * 4194304) 18446744073709551616
  rw [dva1, hT] at h2
  rw [h1, ← hU, Nat.add_mul, Nat.add_mul, Nat.add_assoc, Nat.mul_comm (lo / 4398046511104), h2, Nat.mul_right_comm]
theorem dva3 (hi lo U : Nat) (h : hi ≤ 65536) (hl : lo < 18446744073709551616) (hU : hi * 4194304 + lo / 4398046511104 = U) : U ≤ 274882101248 := by omega
theorem dva4 (U Q R : Nat) (hQ : U / 2147483648 = Q) (hR : U % 2147483648 = R) : Q * 2147483648 + R = U ∧ R < 2147483648 := by omega
theorem dva5 (lo : Nat) : ((lo : Int) * 4194304) % 18446744073709551616 = ((lo * 4194304 % 18446744073709551616 : Nat) : Int) := by omega
theorem dva6 (U : Nat) (h : U ≤ 274882101248) : ((U : Int) / 2147483648) % 18446744073709551616 = ((U / 2147483648 : Nat) : Int) := by omega
theorem dva7 (Q : Nat) (h : Q ≤ 128) : ((Q : Int) * 2147483648) % 18446744073709551616 = (Q : Int) * 2147483648 := by omega
theorem dva8 (U Q R : Nat) (h : U ≤ 274882101248) (g : Q * 2147483648 + R = U) : ((U : Int) - (Q : Int) * 2147483648) % 18446744073709551616 = (R : Int) := by omega
theorem dvb1 (d Q R : Nat) (hd : d < 9223372036858970112) (g : Q * 2147483648 + R = d) : Q ≤ 4294967296 := by omega
theorem dvb2 (d : Nat) (hd : d < 9223372036858970112) : ((d : Int) / 2147483648) % 18446744073709551616 = ((d / 2147483648 : Nat) : Int) := by omega
theorem dvb3 (Q : Nat) (h : Q ≤ 4294967296) : ((Q : Int) * 2147483648) % 18446744073709551616 = (Q : Int) * 2147483648 := by omega
theorem dvb4 (d Q R : Nat) (g : Q * 2147483648 + R = d) (hR : R < 4294967296) : ((d : Int) - (Q : Int) * 2147483648) % 18446744073709551616 = (R : Int) := by omega
theorem dvc1 (q : Nat) (h : q ≤ 4294967296) : ((q : Int) * 4194304) % 18446744073709551616 = ((q * 4194304 : Nat) : Int) := by omega
theorem dvc2 (r : Nat) (h : r < 4294967296) : (4294967296 * (r : Int)) % 18446744073709551616 = ((4294967296 * r : Nat) : Int) := by omega
theorem dvc3 (r T : Nat) (h : r < 4294967296) (hT : T < 4294967296) : (((4294967296 * r : Nat) : Int) + (T : Int)) % 18446744073709551616 = ((4294967296 * r + T : Nat) : Int) := by omega
theorem dvc4 (q r T d : Nat) (hd : d < 9223372036858970112) (g : q * 2147483648 + r = d) (hr : r < 4294967296) (h : 4294967296 * r + T < q * 4194304) : r < 2147483648 ∧ 1 ≤ q := by omega
theorem dvc5 (q r T d : Nat) (hd : d < 9223372036858970112) (g : q * 2147483648 + r = d) (hT : T < 4294967296) (h : 4294967296 ≤ q) : 4294967296 * r + T < q * 4194304 := by omega
theorem dvc6 (q q' r r' T d : Nat) (hq : q = q' + 1) (hr : r + 2147483648 = r') (h0 : r < 2147483648) (g : q * 2147483648 + r = d) (ht : 4294967296 * r + T < q * 4194304) : q' * 2147483648 + r' = d ∧ r' < 4294967296 ∧ (r' < 2147483648 ∨ (2147483648 ≤ r' ∧ (r' - 2147483648) * 4294967296 + T < (q' + 1) * 4194304)) := by
  refine ⟨by rw [← g, hq, ← hr, Nat.succ_mul, Nat.add_assoc, Nat.add_comm 2147483648 r], by omega, Or.inr ⟨by omega, ?_⟩⟩
  rw [← hr, Nat.add_sub_cancel, ← hq, Nat.mul_comm]
  exact ht
theorem dvc7 (q q' : Nat) (hq : q = q' + 1) (h : q ≤ 4294967296) : ((q : Int) - 1) % 18446744073709551616 = (q' : Int) := by omega
theorem dvc8 (r r' : Nat) (h0 : r < 2147483648) (hr : r + 2147483648 = r') : ((r : Int) + 2147483648) % 18446744073709551616 = (r' : Int) ∧ ¬ (4294967296 : Int) ≤ (r' : Int) := by omega
/-- One digit of the quotient. -/
theorem dv_digit (U V q r : Nat) (g1 : q * 2147483648 + r = U) (h2 : q * 4194304 ≤ 4294967296 * r + V) (h3 : r < 2147483648 ∨ (2147483648 ≤ r ∧ (r - 2147483648) * 4294967296 + V < (q + 1) * 4194304)) (hV : V < 4294967296) :
    ∃ d : Nat, U * 4294967296 + V = q * 9223372036858970112 + d ∧ d < 9223372036858970112 ∧ q * 4194304 + d = 4294967296 * r + V := by
  obtain ⟨d, hd⟩ := Nat.le.dest h2
  refine ⟨d, ?_, ?_, hd⟩
  · subst g1
    rw [Nat.add_mul, Nat.mul_assoc, show 2147483648 * 4294967296 = 9223372036854775808 from rfl, show (9223372036858970112 : Nat) = 9223372036854775808 + 4194304 from rfl, Nat.mul_add, Nat.add_assoc, Nat.add_assoc, hd, Nat.mul_comm 4294967296 r]
  · clear g1 h2
    rcases h3 with h3 | ⟨h3, h4⟩
    · omega
    · obtain ⟨x, rfl⟩ := Nat.le.dest h3
      rw [Nat.add_sub_cancel_left] at h4
      clear h3
      omega
theorem dv_rest (a V q d : Nat) (E : a * 4294967296 + V = q * 9223372036858970112 + d) (hd : d < 9223372036858970112) : IntKind.u64.wrap (IntKind.u64.wrap (IntKind.u64.wrap ((a : Int) * 4294967296) + (V : Int)) - IntKind.u64.wrap ((q : Int) * 9223372036858970112)) = (d : Int) := by
  simp only [IntKind.wrap_u64]
  have E' : (a : Int) * 4294967296 + (V : Int) = (q : Int) * 9223372036858970112 + (d : Int) := by
    have h := congrArg Int.ofNat E
    have h1 : ((a * 4294967296 + V : Nat) : Int) = ((q * 9223372036858970112 + d : Nat) : Int) := h
    rw [Int.natCast_add, Int.natCast_add, Int.natCast_mul, Int.natCast_mul] at h1
    exact h1
  rw [Int.emod_add_emod, ← Int.sub_emod, E', show (q : Int) * 9223372036858970112 + (d : Int) - (q : Int) * 9223372036858970112 = (d : Int) by omega]
  omega
theorem dv_last (hi lo U T1 T0 q1 d1 q0 d0 : Nat) (F : U * 18446744073709551616 + (T1 * 4294967296 + T0) = (hi * 18446744073709551616 + lo) * 4194304) (E1 : U * 4294967296 + T1 = q1 * 9223372036858970112 + d1) (E0 : d1 * 4294967296 + T0 = q0 * 9223372036858970112 + d0) (L : d0 < 9223372036858970112) : d0 / 4194304 = (hi * 18446744073709551616 + lo) % 2199023255553 := by
  omega
end Go.Proofs.YtechpdfcgimkkaaDoor
/-
  Contracts of Go's library off the shelf, laid at this program.
-/
namespace Go.Proofs.YtechpdfcgimkkaaDoor
open Go.Shelf
def sh_lays134_ren : Go.Shelf.Ren := ⟨fun | 134 => 142 | 129 => 138 | n => n, fun | 53 => 154 | 3 => 3 | 4 => 4 | 46 => 155 | 5 => 5 | 9 => 9 | n => n, fun | n => n⟩
theorem sh_lays134 : Go.Proofs.Lays.n134 Tryd.prog sh_lays134_ren := {
  mixed := by kernel_rfl
  f129 := Tryd.func138.trans (congrArg some (by kernel_rfl))
  f134 := Tryd.func142.trans (congrArg some (by kernel_rfl))
  t3 := Tryd.underlying3
  a3 := Tryd.isAgg3
  z3 := Tryd.sizeOf3
  v3 := Tryd.zeroValue3
  t4 := Tryd.underlying4
  a4 := Tryd.isAgg4
  z4 := Tryd.sizeOf4
  v4 := Tryd.zeroValue4
  t5 := Tryd.underlying5
  a5 := Tryd.isAgg5
  z5 := Tryd.sizeOf5
  v5 := Tryd.zeroValue5
  t9 := Tryd.underlying9
  a9 := Tryd.isAgg9
  z9 := Tryd.sizeOf9
  v9 := Tryd.zeroValue9
  t46 := Tryd.underlying155
  a46 := Tryd.isAgg155
  z46 := Tryd.sizeOf155
  v46 := Tryd.zeroValue155
  t53 := Tryd.underlying154
  a53 := Tryd.isAgg154
  z53 := Tryd.sizeOf154
  v53 := Tryd.zeroValue154 }
theorem sh_bits_LeadingZeros64 (x : Int) (w : World) (h0 : 0 ≤ x) (h1 : x ≤ 18446744073709551615) :
    Calls Tryd.prog 142 #[.int .u64 x] w fun e w' => e = .returned (.int .i64 (64 - (Lib.bitLen x.toNat : Int))) ∧ w' = w := Any.bits_LeadingZeros64 sh_lays134 x w h0 h1
def sh_lays264_ren : Go.Shelf.Ren := ⟨fun | 264 => 129 | n => n, fun | 53 => 154 | 46 => 155 | n => n, fun | n => n⟩
theorem sh_lays264 : Go.Proofs.Lays.n264 Tryd.prog sh_lays264_ren := {
  mixed := by kernel_rfl
  f264 := Tryd.func129.trans (congrArg some (by kernel_rfl))
  t46 := Tryd.underlying155
  a46 := Tryd.isAgg155
  z46 := Tryd.sizeOf155
  v46 := Tryd.zeroValue155
  t53 := Tryd.underlying154
  a53 := Tryd.isAgg154
  z53 := Tryd.sizeOf154
  v53 := Tryd.zeroValue154 }
open Go.RowKit Go.Lib in
theorem sh_bits_Mul64 (x y : Nat) (hx : x < 18446744073709551616) (hy : y < 18446744073709551616) (w : World) :
    Calls Tryd.prog 129 #[.int .u64 x, .int .u64 y] w fun e w' => e = .returned (.tuple #[.int .u64 ((x * y / 18446744073709551616 : Nat) : Int), .int .u64 ((x * y % 18446744073709551616 : Nat) : Int)]) ∧ w' = w := Any.bits_Mul64 sh_lays264 x y hx hy w

end Go.Proofs.YtechpdfcgimkkaaDoor
/-
  math/bits.Div64 and Rem64 at step's cycle; step.product.
-/
namespace Go.Proofs.YtechpdfcgimkkaaDoor
open Go.RowKit Go.Joins Isa
theorem lz_cycle (w : World) : Calls Tryd.prog 142 #[.int .u64 2199023255553] w fun e w' => e = .returned (.int .i64 22) ∧ w' = w := by
  have h := sh_bits_LeadingZeros64 2199023255553 w (by decide) (by decide)
  have e : (64 - (Lib.bitLen (2199023255553 : Int).toNat : Int)) = 22 := by decide
  rw [e] at h
  exact h
theorem wrapu (a : Nat) (ha : a < 18446744073709551616) : IntKind.u64.wrap (a : Int) = (a : Int) := by rw [IntKind.wrap_u64]; omega
set_option maxRecDepth 100000 in
set_option maxHeartbeats 4000000 in
theorem div64_any (hi lo : Nat) (w : World) (h1 : 1 ≤ hi) (h : hi ≤ 65536) (hl : lo < 18446744073709551616) :
    Calls Tryd.prog 136 #[.int .u64 hi, .int .u64 lo, .int .u64 2199023255553] w fun e w' => (∃ q : Int, e = .returned (.tuple #[.int .u64 q, .int .u64 (((hi * 18446744073709551616 + lo) % 2199023255553 : Nat) : Int)])) ∧ w' = w := by
  obtain ⟨Z, hZ⟩ : ∃ Z : Nat, (hi * 18446744073709551616 + lo) % 2199023255553 = Z := ⟨_, rfl⟩
  rw [hZ]
  have HZ : Hid _ := hZ
  clear hZ
  have c1 : ¬ (2199023255553 : Int) ≤ (hi : Int) := by omega
  have c2 : ((hi : Int) == 0) = false := by simp; omega
  obtain ⟨U, hU⟩ : ∃ U : Nat, hi * 4194304 + lo / 4398046511104 = U := ⟨_, rfl⟩
  obtain ⟨T, hT⟩ : ∃ T : Nat, lo * 4194304 % 18446744073709551616 = T := ⟨_, rfl⟩
  obtain ⟨T1, hT1⟩ : ∃ T1 : Nat, T / 4294967296 = T1 := ⟨_, rfl⟩
  obtain ⟨T0, hT0⟩ : ∃ T0 : Nat, T % 4294967296 = T0 := ⟨_, rfl⟩
  obtain ⟨Q, hQ⟩ : ∃ Q : Nat, U / 2147483648 = Q := ⟨_, rfl⟩
  obtain ⟨R, hR⟩ : ∃ R : Nat, U % 2147483648 = R := ⟨_, rfl⟩
  have FU := dva3 hi lo U h hl hU
  obtain ⟨FQ, FR⟩ := dva4 U Q R hQ hR
  have hT' : T < 18446744073709551616 := by rw [← hT]; exact Nat.mod_lt _ (by decide)
  have FQ' : Q ≤ 128 := by omega
  have FT1 : T1 < 4294967296 := by omega
  have FT0 : T0 < 4294967296 := by omega
  have FIN : Hid (U * 18446744073709551616 + (T1 * 4294967296 + T0) = (hi * 18446744073709551616 + lo) * 4194304) := dva2 hi lo U T T1 T0 hU hT hT1 hT0
  have e1 : bits BinOp.or IntKind.u64 ((hi : Int) * 4194304) ((lo : Int) / 4398046511104) = (U : Int) := by rw [dv_or hi lo h hl, hU]
  have e2 := dv_and2
  have e3 : IntKind.u64.wrap ((lo : Int) * 4194304) = (T : Int) := by rw [IntKind.wrap_u64, dva5, hT]
  have e4 : (T : Int) / 4294967296 = (T1 : Int) := by rw [← hT1]; rfl
  have e5 : bits BinOp.and IntKind.u64 (T : Int) 4294967295 = (T0 : Int) := by rw [dv_and T hT', hT0]
  have e6 : IntKind.u64.wrap ((U : Int).tdiv 2147483648) = (Q : Int) := by rw [Int.tdiv_eq_ediv_of_nonneg (Int.natCast_nonneg U), IntKind.wrap_u64, dva6 U FU, hQ]
  have e7 : IntKind.u64.wrap ((Q : Int) * 2147483648) = (Q : Int) * 2147483648 := by rw [IntKind.wrap_u64, dva7 Q FQ']
  have e8 : IntKind.u64.wrap ((U : Int) - (Q : Int) * 2147483648) = (R : Int) := by rw [IntKind.wrap_u64, dva8 U Q R FU FQ]
  have e6' : (U : Int) / 2147483648 = (Q : Int) := by rw [← hQ]; rfl
  have e8' : (U : Int) - (Q : Int) * 2147483648 = (R : Int) := by omega
  have e9 : IntKind.u64.wrap (R : Int) = (R : Int) := wrapu R (Nat.lt_trans FR (by decide))
  have FQh : Hid (Q * 2147483648 + R = U) := FQ
  clear hU hT hT1 hT0 hQ hR FQ
  go_enter Tryd.func136, Tryd.ntmps136
  go_wp2_with (first | (go_at_call 142; refine (lz_cycle _).mono ?_; rintro e w' ⟨rfl, rfl⟩))
  clear e1 e2 e3 e4 e5 e6 e7 e8
  go_loop [15, 16] (fun a b => ∃ q r : Nat, a = .int .u64 (q : Int) ∧ b = .int .u64 (r : Int) ∧ q * 2147483648 + r = U ∧ r < 4294967296 ∧ (r < 2147483648 ∨ (2147483648 ≤ r ∧ (r - 2147483648) * 4294967296 + T1 < (q + 1) * 4194304))) (fun a _ => (intOf a).toNat)
  case atStart => exact ⟨Q, R, rfl, rfl, FQh.out, by omega, Or.inl FR⟩
  case round =>
    clear e6' e8' e9
    obtain ⟨q, r, rfl, rfl, g1, g2, g3⟩ := hrel
    have g4 := dvb1 U q r (by omega) g1
    obtain ⟨A, hA⟩ : ∃ A : Nat, q * 4194304 = A := ⟨_, rfl⟩
    obtain ⟨B0, hB0⟩ : ∃ B0 : Nat, 4294967296 * r = B0 := ⟨_, rfl⟩
    obtain ⟨B, hB⟩ : ∃ B : Nat, 4294967296 * r + T1 = B := ⟨_, rfl⟩
    have x1 : IntKind.u64.wrap ((q : Int) * 4194304) = (A : Int) := by rw [IntKind.wrap_u64, dvc1 q g4, hA]
    have x2 : IntKind.u64.wrap (4294967296 * (r : Int)) = (B0 : Int) := by rw [IntKind.wrap_u64, dvc2 r g2, hB0]
    have x3 : IntKind.u64.wrap ((B0 : Int) + (T1 : Int)) = (B : Int) := by rw [← hB0, IntKind.wrap_u64, dvc3 r T1 g2 FT1, hB]
    have X4 : Hid (B < A → r < 2147483648 ∧ 1 ≤ q) := fun hh => dvc4 q r T1 U (by omega) g1 g2 (by rw [hB, hA]; exact hh)
    have X5 : Hid (4294967296 ≤ q → B < A) := fun hh => by rw [← hB, ← hA]; exact dvc5 q r T1 U (by omega) g1 FT1 hh
    have G1 : Hid (q * 2147483648 + r = U) := g1
    have G2 : Hid (r < 4294967296) := g2
    have G3 : Hid (r < 2147483648 ∨ (2147483648 ≤ r ∧ (r - 2147483648) * 4294967296 + T1 < (q + 1) * 4194304)) := g3
    have G4 : Hid (q ≤ 4294967296) := g4
    have HA : Hid (q * 4194304 = A) := hA
    have HB : Hid (4294967296 * r + T1 = B) := hB
    clear g1 g2 g3 g4 hA hB0 hB
    by_cases ht : B < A
    · obtain ⟨g6, g7⟩ := X4.out ht
      obtain ⟨q', hq'⟩ : ∃ q' : Nat, q = q' + 1 := ⟨q - 1, by omega⟩
      obtain ⟨r', hr'⟩ : ∃ r' : Nat, r + 2147483648 = r' := ⟨_, rfl⟩
      have NX : Hid _ := dvc6 q q' r r' T1 U hq' hr' g6 G1.out (by rw [HA.out, HB.out]; exact ht)
      have y1 : IntKind.u64.wrap ((q : Int) - 1) = (q' : Int) := by rw [IntKind.wrap_u64, dvc7 q q' hq' G4.out]
      obtain ⟨y2', y3⟩ := dvc8 r r' g6 hr'
      have y2 : IntKind.u64.wrap ((r : Int) + 2147483648) = (r' : Int) := by rw [IntKind.wrap_u64, y2']
      have QQ : Hid (q' < q) := by show _ < _; omega
      have ht' : (B : Int) < (A : Int) := by omega
      clear hq' hr' g6 g7 y2' ht
      by_cases hq : (4294967296 : Int) ≤ (q : Int)
      all_goals
        go_wp2
        go_round
        case rel => exact ⟨q', r', rfl, rfl, NX.out.1, NX.out.2.1, NX.out.2.2⟩
        case measure => simpa [intOf] using QQ.out
    · have g5 : ¬ (4294967296 : Int) ≤ (q : Int) := fun hh => ht (X5.out (by omega))
      have ht' : ¬ (B : Int) < (A : Int) := by omega
      obtain ⟨d2, E1, hd, -⟩ := dv_digit U T1 q r G1.out (by rw [HA.out, HB.out]; omega) G3.out FT1
      have z1 := dv_rest U T1 q d2 E1 hd
      obtain ⟨q1, hq1⟩ : ∃ q1 : Nat, q1 = q := ⟨_, rfl⟩
      have HE1 : Hid (U * 4294967296 + T1 = q1 * 9223372036858970112 + d2) := by rw [hq1]; exact E1
      clear hq1
      obtain ⟨Q0, hQ0⟩ : ∃ Q0 : Nat, d2 / 2147483648 = Q0 := ⟨_, rfl⟩
      obtain ⟨R0, hR0⟩ : ∃ R0 : Nat, d2 % 2147483648 = R0 := ⟨_, rfl⟩
      obtain ⟨F0, FR0⟩ := dva4 d2 Q0 R0 hQ0 hR0
      have z2 : IntKind.u64.wrap ((d2 : Int).tdiv 2147483648) = (Q0 : Int) := by rw [Int.tdiv_eq_ediv_of_nonneg (Int.natCast_nonneg d2), IntKind.wrap_u64, dvb2 d2 hd, hQ0]
      have z2' : IntKind.u64.wrap ((d2 : Int) / 2147483648) = (Q0 : Int) := by rw [IntKind.wrap_u64, dvb2 d2 hd, hQ0]
      have z3 : IntKind.u64.wrap ((Q0 : Int) * 2147483648) = (Q0 : Int) * 2147483648 := by rw [IntKind.wrap_u64, dvb3 Q0 (dvb1 d2 Q0 R0 hd F0)]
      have z4 : IntKind.u64.wrap ((d2 : Int) - (Q0 : Int) * 2147483648) = (R0 : Int) := by rw [IntKind.wrap_u64, dvb4 d2 Q0 R0 F0 (Nat.lt_trans FR0 (by decide))]
      have HD : Hid (d2 < 9223372036858970112) := hd
      have HF0 : Hid (Q0 * 2147483648 + R0 = d2) := F0
      clear E1 hd hQ0 hR0 F0
      go_wp2
      clear x1 x2 x3 z1 z2 z2' z3 z4 ht' ht g5 X4 X5 G1 G2 G3 G4 HA HB
      go_loop [16, 18] (fun b a => ∃ q r : Nat, a = .int .u64 (q : Int) ∧ b = .int .u64 (r : Int) ∧ q * 2147483648 + r = d2 ∧ r < 4294967296 ∧ (r < 2147483648 ∨ (2147483648 ≤ r ∧ (r - 2147483648) * 4294967296 + T0 < (q + 1) * 4194304))) (fun _ a => (intOf a).toNat)
      case atStart => exact ⟨Q0, R0, rfl, rfl, HF0.out, Nat.lt_trans FR0 (by decide), Or.inl FR0⟩
      case round =>
        obtain ⟨q, r, rfl, rfl, g1, g2, g3⟩ := hrel
        have g4 := dvb1 d2 q r HD.out g1
        obtain ⟨A, hA⟩ : ∃ A : Nat, q * 4194304 = A := ⟨_, rfl⟩
        obtain ⟨B0, hB0⟩ : ∃ B0 : Nat, 4294967296 * r = B0 := ⟨_, rfl⟩
        obtain ⟨B, hB⟩ : ∃ B : Nat, 4294967296 * r + T0 = B := ⟨_, rfl⟩
        have x1 : IntKind.u64.wrap ((q : Int) * 4194304) = (A : Int) := by rw [IntKind.wrap_u64, dvc1 q g4, hA]
        have x2 : IntKind.u64.wrap (4294967296 * (r : Int)) = (B0 : Int) := by rw [IntKind.wrap_u64, dvc2 r g2, hB0]
        have x3 : IntKind.u64.wrap ((B0 : Int) + (T0 : Int)) = (B : Int) := by rw [← hB0, IntKind.wrap_u64, dvc3 r T0 g2 FT0, hB]
        have X4 : Hid (B < A → r < 2147483648 ∧ 1 ≤ q) := fun hh => dvc4 q r T0 d2 HD.out g1 g2 (by rw [hB, hA]; exact hh)
        have X5 : Hid (4294967296 ≤ q → B < A) := fun hh => by rw [← hB, ← hA]; exact dvc5 q r T0 d2 HD.out g1 FT0 hh
        have G1 : Hid (q * 2147483648 + r = d2) := g1
        have G2 : Hid (r < 4294967296) := g2
        have G3 : Hid (r < 2147483648 ∨ (2147483648 ≤ r ∧ (r - 2147483648) * 4294967296 + T0 < (q + 1) * 4194304)) := g3
        have G4 : Hid (q ≤ 4294967296) := g4
        have HA : Hid (q * 4194304 = A) := hA
        have HB : Hid (4294967296 * r + T0 = B) := hB
        clear g1 g2 g3 g4 hA hB0 hB
        by_cases ht : B < A
        · obtain ⟨g6, g7⟩ := X4.out ht
          obtain ⟨q', hq'⟩ : ∃ q' : Nat, q = q' + 1 := ⟨q - 1, by omega⟩
          obtain ⟨r', hr'⟩ : ∃ r' : Nat, r + 2147483648 = r' := ⟨_, rfl⟩
          have NX : Hid _ := dvc6 q q' r r' T0 d2 hq' hr' g6 G1.out (by rw [HA.out, HB.out]; exact ht)
          have y1 : IntKind.u64.wrap ((q : Int) - 1) = (q' : Int) := by rw [IntKind.wrap_u64, dvc7 q q' hq' G4.out]
          obtain ⟨y2', y3⟩ := dvc8 r r' g6 hr'
          have y2 : IntKind.u64.wrap ((r : Int) + 2147483648) = (r' : Int) := by rw [IntKind.wrap_u64, y2']
          have QQ : Hid (q' < q) := by show _ < _; omega
          have ht' : (B : Int) < (A : Int) := by omega
          clear hq' hr' g6 g7 y2' ht
          by_cases hq : (4294967296 : Int) ≤ (q : Int)
          all_goals
            go_wp2
            go_round
            case rel => exact ⟨q', r', rfl, rfl, NX.out.1, NX.out.2.1, NX.out.2.2⟩
            case measure => simpa [intOf] using QQ.out
        · have g5 : ¬ (4294967296 : Int) ≤ (q : Int) := fun hh => ht (X5.out (by omega))
          have ht' : ¬ (B : Int) < (A : Int) := by omega
          obtain ⟨d3, E1, hd, -⟩ := dv_digit d2 T0 q r G1.out (by rw [HA.out, HB.out]; omega) G3.out FT0
          have z1 := dv_rest d2 T0 q d3 E1 hd
          have LAST : Hid _ := dv_last hi lo U T1 T0 q1 d2 q d3 FIN.out HE1.out E1 hd
          clear E1 hd
          go_wp2
          go_ret2
          exact ⟨⟨_, by rw [← HZ.out, ← LAST.out]; rfl⟩, rfl⟩
set_option maxHeartbeats 1000000 in
theorem div64_low (lo : Nat) (w : World) (hl : lo < 18446744073709551616) :
    Calls Tryd.prog 136 #[.int .u64 0, .int .u64 lo, .int .u64 2199023255553] w fun e w' => (∃ q : Int, e = .returned (.tuple #[.int .u64 q, .int .u64 ((lo % 2199023255553 : Nat) : Int)])) ∧ ∃ m, w' = w.drewN m := by
  go_enter Tryd.func136, Tryd.ntmps136
  go_wp2_with fail
  go_quiet (fail)
  go_wp2
  go_ret2
  exact ⟨⟨_, by rfl⟩, _, rfl⟩
end Go.Proofs.YtechpdfcgimkkaaDoor
