/-
  package step: products, operations, the next input.
-/
import Derived.Test.YtechpdfcgimkkaaDoorWalkDv
import Derived.Test.YtechpdfcgimkkaaDoorWalkSm2
import Derived.Deep.RegionWith
namespace Go.Proofs.YtechpdfcgimkkaaDoor
open Go.RowKit Go.Joins Isa
theorem rem64_any (hi lo : Nat) (w : World) (h : hi ≤ 65536) (hl : lo < 18446744073709551616) :
    Calls Tryd.prog 131 #[.int .u64 hi, .int .u64 lo, .int .u64 2199023255553] w fun e w' => e = .returned (.int .u64 (((hi * 18446744073709551616 + lo) % 2199023255553 : Nat) : Int)) ∧ ∃ m, w' = w.drewN m := by
  obtain ⟨Z, hZ⟩ : ∃ Z : Nat, (hi * 18446744073709551616 + lo) % 2199023255553 = Z := ⟨_, rfl⟩
  have DV : Hid (∀ w, Calls Tryd.prog 136 #[.int .u64 hi, .int .u64 lo, .int .u64 2199023255553] w fun e w' => (∃ q : Int, e = .returned (.tuple #[.int .u64 q, .int .u64 (Z : Int)])) ∧ ∃ m, w' = w.drewN m) := by
    intro w
    rcases Nat.eq_zero_or_pos hi with h0 | h0
    · subst h0
      rw [Nat.zero_mul, Nat.zero_add] at hZ
      rw [← hZ]
      exact div64_low lo w hl
    · rw [← hZ]
      exact (div64_any hi lo w h0 h hl).mono fun e w' hh => ⟨hh.1, 0, by rw [hh.2]; rfl⟩
  rw [hZ]
  have r1 : (hi : Int) % 2199023255553 = (hi : Int) := by omega
  have r2 : IntKind.u64.wrap ((hi : Int).tmod 2199023255553) = (hi : Int) := by rw [Int.tmod_eq_emod_of_nonneg (by omega), r1]; exact wrapu hi (by omega)
  clear hZ
  go_enter Tryd.func131, Tryd.ntmps131
  go_wp2_with (first | (go_at_call 136; refine (DV.out _).mono ?_; rintro e w' ⟨⟨q, rfl⟩, m, rfl⟩))
  go_ret
  exact ⟨rfl, _, rfl⟩
theorem mag_any (n : Int) (w : World) (h1 : -1099511627776 ≤ n) (h2 : n ≤ 1099511627776) : Calls Tryd.prog 130 #[.int .i64 n] w fun e w' => e = .returned (.int .u64 (n.natAbs : Int)) ∧ w' = w := by
  have e1 : 0 ≤ n → IntKind.u64.wrap n = (n.natAbs : Int) := fun h => by rw [IntKind.wrap_u64]; omega
  have e2 : n < 0 → IntKind.u64.wrap (-n) = (n.natAbs : Int) := fun h => by rw [IntKind.wrap_u64]; omega
  by_cases h0 : n < 0
  · have e3 := e2 h0
    clear e1 e2
    go_enter Tryd.func130, Tryd.ntmps130
    go_wp2
    go_ret
    exact ⟨by first | rfl | (rw [← e3]; rfl) | (congr 2; omega), rfl⟩
  · have e3 := e1 (by omega)
    clear e1 e2
    go_enter Tryd.func130, Tryd.ntmps130
    go_wp2
    go_ret
    exact ⟨by first | rfl | (rw [← e3]; rfl) | (congr 2; omega), rfl⟩
theorem foldN_mod (x : Nat) : foldN ((x % 2199023255553 : Nat) : Int) = foldN (x : Int) := by
  unfold foldN
  have e : (((x % 2199023255553 : Nat) : Int)).tmod 2199023255553 = (x : Int).tmod 2199023255553 := by
    rw [Int.tmod_eq_emod_of_nonneg (by omega), Int.tmod_eq_emod_of_nonneg (by omega)]; omega
  rw [e]
theorem foldN_neg (x : Int) : foldN (-x) = - foldN x := by
  unfold foldN
  rw [Int.neg_tmod]
  have h1 : x.tmod 2199023255553 < 2199023255553 := Int.tmod_lt_of_pos _ (by decide)
  generalize x.tmod 2199023255553 = y at *
  split <;> split <;> (try split) <;> omega
theorem natAbs_mul_pos (a b : Int) (h : ¬ ((a < 0) ↔ ¬ (b < 0))) : ((a.natAbs * b.natAbs : Nat) : Int) = a * b := by
  rw [Int.natCast_mul]
  by_cases ha : a < 0
  · have hb : b < 0 := by omega
    rw [Int.ofNat_natAbs_of_nonpos (by omega), Int.ofNat_natAbs_of_nonpos (by omega), Int.neg_mul_neg]
  · rw [Int.natAbs_of_nonneg (by omega), Int.natAbs_of_nonneg (by omega)]
theorem natAbs_mul_neg (a b : Int) (h : (a < 0) ↔ ¬ (b < 0)) : ((a.natAbs * b.natAbs : Nat) : Int) = -(a * b) := by
  rw [Int.natCast_mul]
  by_cases ha : a < 0
  · rw [Int.ofNat_natAbs_of_nonpos (by omega), Int.natAbs_of_nonneg (by omega), Int.neg_mul]
  · rw [Int.natAbs_of_nonneg (by omega), Int.ofNat_natAbs_of_nonpos (by omega), Int.mul_neg]
set_option maxHeartbeats 1000000 in
theorem product_any (a b : Int) (w : World) (a1 : -1099511627776 ≤ a) (a2 : a ≤ 1099511627776) (b1 : -1099511627776 ≤ b) (b2 : b ≤ 1099511627776) : Calls Tryd.prog 125 #[.int .i64 a, .int .i64 b] w fun e w' => e = .returned (.int .i64 (foldN (a * b))) ∧ ∃ m, w' = w.drewN m := by
  obtain ⟨A, hA⟩ : ∃ A : Nat, a.natAbs = A := ⟨_, rfl⟩
  obtain ⟨B, hB⟩ : ∃ B : Nat, b.natAbs = B := ⟨_, rfl⟩
  have hA1 : A ≤ 1099511627776 := by omega
  have hB1 : B ≤ 1099511627776 := by omega
  have hx := Nat.mul_le_mul hA1 hB1
  obtain ⟨X, hX⟩ : ∃ X : Nat, A * B = X := ⟨_, rfl⟩
  obtain ⟨Z, hZ⟩ : ∃ Z : Nat, X % 2199023255553 = Z := ⟨_, rfl⟩
  obtain ⟨hi, hhi⟩ : ∃ hi : Nat, X / 18446744073709551616 = hi := ⟨_, rfl⟩
  obtain ⟨lo, hlo⟩ : ∃ lo : Nat, X % 18446744073709551616 = lo := ⟨_, rfl⟩
  have hh : hi ≤ 65536 := by rw [← hhi]; exact Nat.div_le_of_le_mul (by rw [← hX]; exact Nat.le_trans hx (by decide))
  have hl : lo < 18446744073709551616 := by rw [← hlo]; exact Nat.mod_lt _ (by decide)
  have hs : hi * 18446744073709551616 + lo = X := by rw [← hhi, ← hlo, Nat.mul_comm]; exact Nat.div_add_mod X 18446744073709551616
  have MA : Hid (∀ w, Calls Tryd.prog 130 #[.int .i64 a] w fun e w' => e = .returned (.int .u64 (A : Int)) ∧ w' = w) := fun w => by rw [← hA]; exact mag_any a w a1 a2
  have MB : Hid (∀ w, Calls Tryd.prog 130 #[.int .i64 b] w fun e w' => e = .returned (.int .u64 (B : Int)) ∧ w' = w) := fun w => by rw [← hB]; exact mag_any b w b1 b2
  have MU : Hid (∀ w, Calls Tryd.prog 129 #[.int .u64 A, .int .u64 B] w fun e w' => e = .returned (.tuple #[.int .u64 (hi : Int), .int .u64 (lo : Int)]) ∧ w' = w) := fun w => by
    have := sh_bits_Mul64 A B (by omega) (by omega) w
    rw [hX, hhi, hlo] at this
    exact this
  have RE : Hid (∀ w, Calls Tryd.prog 131 #[.int .u64 hi, .int .u64 lo, .int .u64 2199023255553] w fun e w' => e = .returned (.int .u64 (Z : Int)) ∧ ∃ m, w' = w.drewN m) := fun w => by
    have := rem64_any hi lo w hh hl
    rw [hs, hZ] at this
    exact this
  have hZ2 : Z < 2199023255553 := by rw [← hZ]; exact Nat.mod_lt _ (by decide)
  have FP : Hid (¬ ((a < 0) ↔ ¬ (b < 0)) → foldN (Z : Int) = foldN (a * b)) := fun h => by rw [← hZ, foldN_mod, ← hX, ← hA, ← hB, natAbs_mul_pos a b h]
  have FN : Hid (((a < 0) ↔ ¬ (b < 0)) → - foldN (Z : Int) = foldN (a * b)) := fun h => by rw [← hZ, foldN_mod, ← hX, ← hA, ← hB, natAbs_mul_neg a b h, foldN_neg, Int.neg_neg]
  have FF : Hid (∀ w, Calls Tryd.prog 99 #[.int .i64 (Z : Int)] w fun e w' => e = .returned (.int .i64 (foldN (Z : Int))) ∧ w' = w) := fun w => fold_any Z w (by omega) (by omega)
  have fb := foldN_bd (Z : Int)
  obtain ⟨fb1, fb2⟩ := fb
  generalize hab : foldN (a * b) = out at *
  generalize foldN (Z : Int) = f at *
  clear hx hX hZ hhi hlo hs hh hl hA hB hA1 hB1 hab
  have wz : IntKind.i64.wrap (Z : Int) = (Z : Int) := by rw [IntKind.wrap_i64]; omega
  have da : (a < 0 ∧ decide (a < 0) = true) ∨ (¬ a < 0 ∧ decide (a < 0) = false) := by by_cases h : a < 0 <;> simp [h]
  have db : (b < 0 ∧ decide (b < 0) = true) ∨ (¬ b < 0 ∧ decide (b < 0) = false) := by by_cases h : b < 0 <;> simp [h]
  rcases da with ⟨ha, da⟩ | ⟨ha, da⟩ <;> rcases db with ⟨hb, db⟩ | ⟨hb, db⟩
  all_goals
    go_enter Tryd.func125, Tryd.ntmps125
    go_wp2_with (first | (go_at_call_of 130 (Value.int IntKind.i64 a); refine (MA.out _).mono ?_; rintro e w' ⟨rfl, rfl⟩) | (go_at_call 130; refine (MB.out _).mono ?_; rintro e w' ⟨rfl, rfl⟩) | (go_at_call 129; refine (MU.out _).mono ?_; rintro e w' ⟨rfl, rfl⟩) | (go_at_call 131; refine (RE.out _).mono ?_; rintro e w1 ⟨rfl, m, rfl⟩) | (go_at_call 99; refine (FF.out _).mono ?_; rintro e w' ⟨rfl, rfl⟩))
    go_ret
    refine ⟨?_, _, rfl⟩
    first | (rw [← FP.out (by omega)]; rfl) | (rw [← FN.out (by omega)]; rfl)
def operN (k a b : Int) : Int := if k = 7 then foldN (a + b) else if k = 8 then foldN (a - b) else if k = 9 then foldN (a * b) else if k = 10 then foldN (bits .and .i64 a b) else if k = 11 then foldN (bits .or .i64 a b) else if k = 12 then foldN (bits .xor .i64 a b) else if a < b then 1 else 0
end Go.Proofs.YtechpdfcgimkkaaDoor
