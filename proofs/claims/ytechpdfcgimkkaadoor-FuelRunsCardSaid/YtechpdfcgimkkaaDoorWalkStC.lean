/-
  package step: numbers that are folded, and its small tests.
-/
import Derived.Test.YtechpdfcgimkkaaDoorMAC
import Derived.Outline
namespace Go.Proofs.YtechpdfcgimkkaaDoor
open Go.RowKit Go.Joins Isa
/-- P3.2: folded. -/
def foldN (n : Int) : Int := if 1099511627776 < n.tmod 2199023255553 then n.tmod 2199023255553 - 2199023255553 else if n.tmod 2199023255553 < -1099511627776 then n.tmod 2199023255553 + 2199023255553 else n.tmod 2199023255553
def opB (k : Int) : Bool := decide (7 ≤ k) && decide (k ≤ 13)
def brB (k : Int) : Bool := decide (18 ≤ k) && decide (k ≤ 21)
def needB (k : Int) : Bool := opB k || brB k
def needA (k : Int) : Bool := k == 6 || k == 14 || k == 15 || k == 17 || k == 24 || needB k
def placeB (n size : Int) : Bool := decide (0 ≤ n) && decide (n < size)
def takenB (k a b : Int) : Bool := if k = 18 then a == b else if k = 19 then a != b else if k = 20 then decide (a < b) else decide (b ≤ a)
theorem foldN_bd (n : Int) : -1099511627776 ≤ foldN n ∧ foldN n ≤ 1099511627776 := by
  unfold foldN
  have h1 : n.tmod 2199023255553 < 2199023255553 := Int.tmod_lt_of_pos _ (by decide)
  have h2 : -2199023255553 < n.tmod 2199023255553 := by
    have := Int.tmod_lt_of_pos (-n) (show (0 : Int) < 2199023255553 by decide)
    rw [Int.neg_tmod] at this; omega
  split
  · omega
  · split <;> omega
set_option maxHeartbeats 400000 in
theorem fold_any (n : Int) (w : World) (_h1 : -9223372036854775808 ≤ n) (_h2 : n ≤ 9223372036854775807) : Calls Tryd.prog 99 #[.int .i64 n] w fun e w' => e = .returned (.int .i64 (foldN n)) ∧ w' = w := by
  have b1 : n.tmod 2199023255553 < 2199023255553 := Int.tmod_lt_of_pos _ (by decide)
  have b2 : -2199023255553 < n.tmod 2199023255553 := by
    have := Int.tmod_lt_of_pos (-n) (show (0 : Int) < 2199023255553 by decide)
    rw [Int.neg_tmod] at this; omega
  by_cases c1 : 1099511627776 < n.tmod 2199023255553
  · have hf : Hid (foldN n = n.tmod 2199023255553 - 2199023255553) := by show _ = _; simp [foldN, c1]
    go_enter Tryd.func99, Tryd.ntmps99
    go_wp2
    go_ret
    exact ⟨by rw [hf.out]; rfl, rfl⟩
  · by_cases c2 : n.tmod 2199023255553 < -1099511627776
    · have hf : Hid (foldN n = n.tmod 2199023255553 + 2199023255553) := by show _ = _; simp [foldN, c1, c2]
      go_enter Tryd.func99, Tryd.ntmps99
      go_wp2
      go_ret
      exact ⟨by rw [hf.out]; rfl, rfl⟩
    · have hf : Hid (foldN n = n.tmod 2199023255553) := by show _ = _; simp [foldN, c1, c2]
      go_enter Tryd.func99, Tryd.ntmps99
      go_wp2
      go_ret
      exact ⟨by rw [hf.out]; rfl, rfl⟩
set_option maxHeartbeats 400000 in
theorem isop_any (k : Int) (w : World) : Calls Tryd.prog 100 #[.int .i64 k] w fun e w' => e = .returned (.bool (opB k)) ∧ w' = w := by
  unfold opB
  by_cases h0 : 7 ≤ k
  all_goals
    go_enter Tryd.func100, Tryd.ntmps100
    go_wp2
    go_ret
    exact ⟨by simp <;> omega, rfl⟩
set_option maxHeartbeats 400000 in
theorem isbr_any (k : Int) (w : World) : Calls Tryd.prog 103 #[.int .i64 k] w fun e w' => e = .returned (.bool (brB k)) ∧ w' = w := by
  unfold brB
  by_cases h0 : 18 ≤ k
  all_goals
    go_enter Tryd.func103, Tryd.ntmps103
    go_wp2
    go_ret
    exact ⟨by simp <;> omega, rfl⟩
set_option maxHeartbeats 400000 in
theorem place_any (n size : Int) (w : World) : Calls Tryd.prog 124 #[.int .i64 n, .int .i64 size] w fun e w' => e = .returned (.bool (placeB n size)) ∧ w' = w := by
  unfold placeB
  by_cases h0 : 0 ≤ n
  all_goals
    go_enter Tryd.func124, Tryd.ntmps124
    go_wp2
    go_ret
    exact ⟨by simp <;> omega, rfl⟩
set_option maxHeartbeats 400000 in
theorem number_any (n : Int) (w : World) : Calls Tryd.prog 92 #[.int .i64 n] w fun e w' => e = .returned (.agg #[.int .i64 n, .bool false]) ∧ Below w.heap.size w w' := by
  go_enter Tryd.func92, Tryd.ntmps92
  go_wp2
  go_returns
  exact ⟨rfl, by go_grown⟩
set_option maxHeartbeats 400000 in
theorem address_any (n : Int) (w : World) : Calls Tryd.prog 105 #[.int .i64 n] w fun e w' => e = .returned (.agg #[.int .i64 n, .bool true]) ∧ Below w.heap.size w w' := by
  go_enter Tryd.func105, Tryd.ntmps105
  go_wp2
  go_returns
  exact ⟨rfl, by go_grown⟩
set_option maxHeartbeats 400000 in
theorem needb_any (k : Int) (w : World) : Calls Tryd.prog 123 #[.int .i64 k] w fun e w' => e = .returned (.bool (needB k)) ∧ w' = w := by
  unfold needB
  cases h0 : opB k
  all_goals
    go_enter Tryd.func123, Tryd.ntmps123
    go_wp2_with (first | (go_at_call 100; refine (isop_any k _).mono ?_; rintro e w' ⟨rfl, rfl⟩) | (go_at_call 103; refine (isbr_any k _).mono ?_; rintro e w' ⟨rfl, rfl⟩))
    go_ret
    exact ⟨by simp, rfl⟩
set_option maxHeartbeats 1000000 in
theorem needa_any (k : Int) (w : World) : Calls Tryd.prog 122 #[.int .i64 k] w fun e w' => e = .returned (.bool (needA k)) ∧ w' = w := by
  unfold needA
  by_cases h : k = 6 ∨ k = 14 ∨ k = 15 ∨ k = 17 ∨ k = 24
  · rcases h with rfl | rfl | rfl | rfl | rfl
    all_goals
      go_enter Tryd.func122, Tryd.ntmps122
      go_wp2
      go_ret
      exact ⟨by simp, rfl⟩
  · have d6 : (k == 6) = false := by simp; omega
    have d14 : (k == 14) = false := by simp; omega
    have d15 : (k == 15) = false := by simp; omega
    have d17 : (k == 17) = false := by simp; omega
    have d24 : (k == 24) = false := by simp; omega
    clear h
    go_enter Tryd.func122, Tryd.ntmps122
    go_wp2_with (first | (go_at_call 123; refine (needb_any k _).mono ?_; rintro e w' ⟨rfl, rfl⟩))
    go_ret
    exact ⟨by simp [d6, d14, d15, d17, d24], rfl⟩
set_option maxHeartbeats 400000 in
theorem taken_any (k a b : Int) (w : World) : Calls Tryd.prog 104 #[.int .i64 k, .int .i64 a, .int .i64 b] w fun e w' => e = .returned (.bool (takenB k a b)) ∧ w' = w := by
  unfold takenB
  by_cases h18 : k = 18
  · subst h18
    go_enter Tryd.func104, Tryd.ntmps104
    go_wp2
    go_ret
    exact ⟨by simp, rfl⟩
  have d18 : (k == 18) = false := by simp [h18]
  by_cases h19 : k = 19
  · subst h19
    go_enter Tryd.func104, Tryd.ntmps104
    go_wp2
    go_ret
    exact ⟨by simp, rfl⟩
  have d19 : (k == 19) = false := by simp [h19]
  by_cases h20 : k = 20
  · subst h20
    go_enter Tryd.func104, Tryd.ntmps104
    go_wp2
    go_ret
    exact ⟨by simp, rfl⟩
  have d20 : (k == 20) = false := by simp [h20]
  go_enter Tryd.func104, Tryd.ntmps104
  go_wp2
  go_ret
  exact ⟨by simp, rfl⟩
end Go.Proofs.YtechpdfcgimkkaaDoor
