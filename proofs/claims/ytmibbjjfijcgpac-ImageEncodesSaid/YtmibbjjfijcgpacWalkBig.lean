/-
  boltholeref.big: a number in so many bytes.
-/
import Derived.Test.YtmibbjjfijcgpacEncKit
namespace Go.Proofs.Ytmibbjjfijcgpac
open Go.RowKit Go.Joins
theorem tmod_two (x m : Int) (h : 0 < m) : (x.tmod m + m).tmod m = x % m := by
  rcases Int.le_total 0 x with hx | hx
  · rw [Int.tmod_eq_emod_of_nonneg hx, Int.tmod_eq_emod_of_nonneg (by have := Int.emod_nonneg x (by omega : m ≠ 0); omega)]
    simp
  · obtain ⟨y, rfl⟩ : ∃ y, x = -y := ⟨-x, by omega⟩
    rw [Int.neg_tmod, Int.tmod_eq_emod_of_nonneg (by omega : 0 ≤ y)]
    have h1 := Int.emod_nonneg y (by omega : m ≠ 0)
    have h2 := Int.emod_lt_of_pos y h
    rw [Int.tmod_eq_emod_of_nonneg (by omega)]
    have e : -(y % m) + m = -y + m * (y / m + 1) := by
      have := Int.mul_ediv_add_emod y m
      rw [Int.mul_add, Int.mul_one]; omega
    rw [e, Int.add_mul_emod_self_left]
theorem jwrap_any (x m : Int) (w : World) (h0 : 0 < m) (h1 : m ≤ 65536) : Calls Try.prog 40 #[.int .i64 x, .int .i64 m] w fun e w' => e = .returned (.int .i64 (x % m)) ∧ w' = w := by
  have t1 : x.tmod m < m := by
    have := Int.tmod_lt_of_pos x h0; exact this
  have t2 : -m < x.tmod m := by
    have := Int.tmod_lt_of_pos (-x) h0
    rw [Int.neg_tmod] at this; omega
  have hm : (m == 0) = false := by simp; omega
  go_enter Try.func40, Try.ntmps40
  go_wp2
  go_ret
  refine ⟨congrArg (fun y => Ending.returned (Value.int .i64 y)) ?_, rfl⟩
  have h2 : 0 ≤ x.tmod m + m := by omega
  exact (Int.tmod_eq_emod_of_nonneg h2).symm.trans (tmod_two x m h0)
def bigRow (k j : Nat) (n : Int) : List Value := ((List.replicate j (0 : Int)) ++ be (k - j) n).map (Value.int .u8)
theorem bigRow_set (k p : Nat) (n : Int) (h : p < k) : (bigRow k (p + 1) n).toArray.setIfInBounds p (.int .u8 (n / 2 ^ (8 * (k - (p + 1))) % 256)) = (bigRow k p n).toArray := by
  apply Array.toList_inj.1
  rw [Array.toList_setIfInBounds]
  show (bigRow k (p + 1) n).set p _ = bigRow k p n
  unfold bigRow
  rw [show k - p = (k - (p + 1)) + 1 by omega]
  simp only [List.map_append, List.map_replicate, be, List.map_cons]
  rw [List.replicate_succ', List.append_assoc, List.set_append_right _ _ (by simp)]
  simp
theorem big_made (n : Nat) : madeCells (Value.int .u8 0).cells (n * 1) = (List.replicate n (Value.int .u8 0)).toArray := by
  apply Array.ext
  · simp [madeCells]
  · intro i h1 h2
    simp [madeCells, Value.cells, Nat.mod_one]
theorem div_step (n : Int) (t : Nat) : (n / 2 ^ (8 * t) - n / 2 ^ (8 * t) % 256).tdiv 256 = n / 2 ^ (8 * (t + 1)) := by
  have e : (2 : Int) ^ (8 * (t + 1)) = 2 ^ (8 * t) * 256 := by rw [show 8 * (t + 1) = 8 * t + 8 by omega, Int.pow_add]; rfl
  have hp : (0 : Int) ≤ 2 ^ (8 * t) := Int.le_of_lt (Int.pow_pos (by decide))
  rw [e, ← Int.ediv_ediv_of_nonneg hp]
  generalize n / 2 ^ (8 * t) = q
  have h1 : q - q % 256 = 256 * (q / 256) := by omega
  rw [h1, Int.mul_tdiv_cancel_left _ (by decide)]
theorem div_bd (n : Int) (h : i64 n) (t : Nat) : -9223372036854775808 ≤ n / 2 ^ (8 * t) ∧ n / 2 ^ (8 * t) ≤ 9223372036854775807 := by
  obtain ⟨h1, h2⟩ := h
  have hp0 : (0 : Int) < 2 ^ (8 * t) := Int.pow_pos (by decide)
  have hp : (1 : Int) ≤ 2 ^ (8 * t) := hp0
  clear hp0
  generalize (2 : Int) ^ (8 * t) = d at hp
  constructor
  · rw [Int.le_ediv_iff_mul_le (by omega)]
    have := Int.mul_le_mul_of_nonneg_left hp (show (0 : Int) ≤ 9223372036854775808 by decide)
    omega
  · have : n / d ≤ 9223372036854775807 / d := Int.ediv_le_ediv (by omega) h2
    exact Int.le_trans this (Int.ediv_le_self _ (by decide))
set_option maxHeartbeats 2000000 in
theorem big_any (n : Int) (k : Nat) (w : World) (hk : k ≤ 8) (hn : i64 n) : Calls Try.prog 28 #[.int .i64 n, .int .i64 k] w fun e w' =>
    e = .returned (.slice (some ⟨w.heap.size, 0, none⟩) k k) ∧ w' = w.alloc (.cells ((be k n).map (Value.int .u8)).toArray 5) := by
  obtain ⟨i, hi, hz, hs, hb⟩ := info_of inByte
  have hmk := make_wide (P := Try.prog) 22 5 i _ Try.underlying22 hi hz k (by rw [hb]; omega) (by omega) w
  rw [hs, big_made] at hmk
  have HM : Hid _ := hmk
  have HN : Hid (i64 n) := hn
  clear hmk hn
  go_enter Try.func28, Try.ntmps28
  go_wp2_with (first | (at_make; refine wpList_make_run _ rfl (.tmp 7) (.tmp 7) 22 rfl _ _ rfl rfl HM.out ?_))
  go_loopw [0, 6] (fun y u wr => ∃ (j : Nat) (x : Int), j ≤ k ∧ u = .int .i64 x ∧ x = (j : Int) - 1 ∧ y = .int .i64 (n / 2 ^ (8 * (k - j))) ∧ wr = w.alloc (.cells (bigRow k j n).toArray 5)) (fun _ u _ => (intOf u + 1).toNat)
  case atStart => exact ⟨k, _, by omega, rfl, by go_num, by rw [Nat.sub_self]; simp, by simp [bigRow, be]⟩
  case round =>
    obtain ⟨j, x, j1, rfl, hx, rfl, rfl⟩ := hrel
    by_cases hj : 1 ≤ j
    · obtain ⟨p, rfl⟩ : ∃ i, j = i + 1 := ⟨j - 1, by omega⟩
      obtain rfl : x = (p : Int) := by omega
      clear hx
      have hd := div_step n (k - (p + 1))
      obtain ⟨q1, q2⟩ := div_bd n HN.out (k - (p + 1))
      have hset := bigRow_set k p n (by omega)
      have hlen : (bigRow k (p + 1) n).toArray.size = k := by simp [bigRow, be_len]; omega
      rw [show k - (p + 1) + 1 = k - p by omega] at hd
      obtain ⟨y, hy⟩ : ∃ y, n / 2 ^ (8 * (k - (p + 1))) = y := ⟨_, rfl⟩
      obtain ⟨A, hA⟩ : ∃ A, (bigRow k (p + 1) n).toArray = A := ⟨_, rfl⟩
      rw [hy] at hd q1 q2 hset ⊢
      rw [hA] at hset hlen ⊢
      have hc : ∃ u, A[p]? = some u := ⟨_, Array.getElem?_eq_getElem (by omega)⟩
      obtain ⟨u, hu⟩ := hc
      have hw8 : IntKind.u8.wrap (y % 256) = y % 256 := by rw [IntKind.wrap_u8]; omega
      have hpk : (p : Int) < (k : Int) := by omega
      have HS : Hid _ := hset
      have HD : Hid _ := hd
      clear hset hd hA hy
      have y1 : 0 ≤ y % 256 := by omega
      have y2 : y % 256 < 256 := by omega
      have y3 : -9223372036854775808 ≤ y - y % 256 := by omega
      go_wp2_with (go_at_call 40; refine (jwrap_any y 256 _ (by decide) (by decide)).mono ?_; rintro e w4 ⟨rfl, hw4⟩; obtain rfl := hw4.symm)
      go_roundw
      case rel => exact ⟨p, _, by omega, rfl, by go_num, by rw [← HD.out], by rw [← HS.out]⟩
      case measure => simp [intOf]
    · obtain rfl : j = 0 := by omega
      obtain rfl : x = -1 := by omega
      clear hx
      go_wp2
      go_ret
      exact ⟨rfl, by simp [bigRow]⟩
end Go.Proofs.Ytmibbjjfijcgpac
