/-
  The call of boltholekeep.Sums returns true at every two numbers.
-/
import Derived.Test.YtechpdfcgimkkaaDoorMSC
import Derived.BigQuiet
import Derived.Deep.QuietTactic
namespace Go.Proofs.YtechpdfcgimkkaaDoor
open Go.RowKit Go.Joins Isa
theorem sums_nums {x y p q : Int} (x1 : -1099511627776 ≤ x) (x2 : x ≤ 1099511627776) (p1 : -500 ≤ p) (p2 : p ≤ 500) (q1 : -500 ≤ q) (q2 : q ≤ 500) :
    operN 8 (operN 7 x y) y = x ∧ operN 9 x y = operN 9 y x ∧ (operN 7 x y - x - y).tmod 2199023255553 = 0 ∧ operN 9 p q = p * q ∧ -1099511627776 ≤ operN 7 x y ∧ operN 7 x y ≤ 1099511627776 ∧ -250000 ≤ p * q ∧ p * q ≤ 250000 := by
  rw [oper8, oper7, oper9, oper9, oper9, Int.mul_comm y x]
  have h : (p * q).natAbs ≤ 500 * 500 := by rw [Int.natAbs_mul]; exact Nat.mul_le_mul (by omega) (by omega)
  exact ⟨sums_a x1 x2, rfl, sums_b x y, sums_c p1 p2 q1 q2, (foldN_bd _).1, (foldN_bd _).2, by omega, by omega⟩
set_option maxRecDepth 100000 in
set_option maxHeartbeats 4000000 in
theorem sums_law (a b : Int) (w : World) (ht : Tabs w) (_a1 : -9223372036854775808 ≤ a) (_a2 : a ≤ 9223372036854775807) (_b1 : -9223372036854775808 ≤ b) (_b2 : b ≤ 9223372036854775807) :
    Calls Tryd.prog 8 #[.int .i64 a, .int .i64 b] w fun e w' => e = .returned (.bool true) ∧ Below w.heap.size w w' := by
  obtain ⟨x0, x1⟩ := pk_bd a 2199023255553 (by decide)
  obtain ⟨y0, y1⟩ := pk_bd b 2199023255553 (by decide)
  obtain ⟨p0, p1⟩ := pk_bd a 1000 (by decide)
  obtain ⟨q0, q1⟩ := pk_bd b 1000 (by decide)
  have P1 : Hid (∀ w, Calls Tryd.prog 19 #[.int .i64 a, .int .i64 2199023255553] w fun e w' => e = .returned (.int .i64 (pk a 2199023255553)) ∧ w' = w) := fun w => picked_any a _ w (by decide) _a1 _a2
  have P2 : Hid (∀ w, Calls Tryd.prog 19 #[.int .i64 b, .int .i64 2199023255553] w fun e w' => e = .returned (.int .i64 (pk b 2199023255553)) ∧ w' = w) := fun w => picked_any b _ w (by decide) _b1 _b2
  have P3 : Hid (∀ w, Calls Tryd.prog 19 #[.int .i64 a, .int .i64 1000] w fun e w' => e = .returned (.int .i64 (pk a 1000)) ∧ w' = w) := fun w => picked_any a _ w (by decide) _a1 _a2
  have P4 : Hid (∀ w, Calls Tryd.prog 19 #[.int .i64 b, .int .i64 1000] w fun e w' => e = .returned (.int .i64 (pk b 1000)) ∧ w' = w) := fun w => picked_any b _ w (by decide) _b1 _b2
  generalize pk a 2199023255553 = X at *
  generalize pk b 2199023255553 = Y at *
  generalize pk a 1000 = P at *
  generalize pk b 1000 = Q at *
  have HT : Hid _ := ht
  clear ht
  go_enter Tryd.func8, Tryd.ntmps8
  go_upto_region 1 with fail
  go_wp2_with fail
  refine Calls.mono (P1.out _) ?_
  rintro e w1 ⟨rfl, hw⟩
  rw [hw]
  clear hw w1
  go_wp2_with fail
  refine Calls.mono (P2.out _) ?_
  rintro e w1 ⟨rfl, hw⟩
  rw [hw]
  clear hw w1
  go_upto_region 3 with fail
  obtain ⟨x, hx⟩ : ∃ x, X - 1099511627776 = x := ⟨_, rfl⟩
  obtain ⟨y, hy⟩ : ∃ y, Y - 1099511627776 = y := ⟨_, rfl⟩
  rw [hx, hy]
  have x2 : -1099511627776 ≤ x := by omega
  have x3 : x ≤ 1099511627776 := by omega
  have y2 : -1099511627776 ≤ y := by omega
  have y3 : y ≤ 1099511627776 := by omega
  clear hx hy x0 x1 y0 y1 P1 P2
  go_wp2_with (first
    | (go_at_call 32; refine (out_any _ _).mono ?_; rintro e w' ⟨rfl, rfl⟩))
  obtain ⟨s, hrun, htold⟩ := sumsA_run x y
  have hck : runChk (aloneI sumsAL) [x, y] 100 = 0 := told_chk sumsA_ok (by decide) (by simp) (by intro z hz; simp at hz; rcases hz with rfl | rfl <;> omega) (by decide) (by decide)
  have hro := told_out hck hrun
  rw [htold] at hro
  refine Calls.mono (told_call sumsAL [x, y] _ 1 10 _ _ _ _ _ _ _ _ w _ hro hck sumsA_ok (by decide) rfl rfl (by simp) rfl HT.out (by go_grown) (ListAt.stays (ints_new w [x, y] #[.int .i64 x, .int .i64 y] 3 rfl _ _ _ rfl rfl (Nat.le_refl _) (by unfold maxLen; omega)) (Nat.le_refl _) (by refine ((((Below.refl _ _).alloc ?_ _).alloc ?_ _).alloc ?_ _).alloc ?_ _ <;> simp <;> omega))) ?_
  rintro e w2 ⟨a', N, c, rfl, hO, hB⟩
  obtain ⟨bb, oo, rfl, hN, hc, hbb, hx⟩ := list_cells hO (by simp)
  have hN4 : N = 4 := hN
  subst hN4
  have HC1 : Hid _ := hx
  have HB : Hid _ := hB
  have zb : w.heap.size ≤ w2.heap.size := HB.out.size
  clear hx hO hN hro htold hrun hck hB
  go_wp2_with fail
  refine Calls.mono (P3.out _) ?_
  rintro e w1 ⟨rfl, hw⟩
  rw [hw]
  clear hw w1
  go_wp2_with fail
  refine Calls.mono (P4.out _) ?_
  rintro e w1 ⟨rfl, hw⟩
  rw [hw]
  clear hw w1
  go_upto_region 6 with fail
  obtain ⟨p, hp⟩ : ∃ p, P - 500 = p := ⟨_, rfl⟩
  obtain ⟨q, hq⟩ : ∃ q, Q - 500 = q := ⟨_, rfl⟩
  rw [hp, hq]
  have p2 : -500 ≤ p := by omega
  have p3 : p ≤ 500 := by omega
  have q2 : -500 ≤ q := by omega
  have q3 : q ≤ 500 := by omega
  clear hp hq p0 p1 q0 q1 P3 P4
  go_wp2_with (first
    | (go_at_call 32; refine (out_any _ _).mono ?_; rintro e w' ⟨rfl, rfl⟩))
  obtain ⟨s, hrun, htold⟩ := sumsB_run p q
  have hck : runChk (aloneI sumsBL) [p, q] 100 = 0 := told_chk sumsB_ok (by decide) (by simp) (by intro z hz; simp at hz; rcases hz with rfl | rfl <;> omega) (by decide) (by decide)
  have hro := told_out hck hrun
  rw [htold] at hro
  refine Calls.mono (told_call sumsBL [p, q] _ 1 6 _ _ _ _ _ _ _ _ w2 _ hro hck sumsB_ok (by decide) rfl rfl (by simp) rfl (HT.out.below HT.out.sz HB.out) (by go_grown) (ListAt.stays (ints_new w2 [p, q] #[.int .i64 p, .int .i64 q] 3 rfl _ _ _ rfl rfl (Nat.le_refl _) (by unfold maxLen; omega)) (Nat.le_refl _) (by refine ((Below.refl _ _).alloc ?_ _).alloc ?_ _ <;> simp <;> omega))) ?_
  rintro e w3 ⟨a', N, c3, rfl, hO, hB3⟩
  obtain ⟨bb3, oo3, rfl, hN, hc3, hbb3, hx3⟩ := list_cells hO (by simp)
  have hN4 : N = 2 := hN
  subst hN4
  obtain ⟨n1, n2, n3, n4, n5, n6, n7, n8⟩ := sums_nums (y := y) x2 x3 p2 p3 q2 q3
  have hx := HC1.out
  rw [n1, n2] at hx
  rw [n4] at hx3
  have c0 := (hB3.cell (p := ⟨bb, _, none⟩) hbb).trans (hx 0 _ rfl)
  have c1 := (hB3.cell (p := ⟨bb, _, none⟩) hbb).trans (hx 1 _ rfl)
  have c2 := (hB3.cell (p := ⟨bb, _, none⟩) hbb).trans (hx 2 _ rfl)
  have c4 := (hB3.cell (p := ⟨bb, _, none⟩) hbb).trans (hx 3 _ rfl)
  have d0 := hx3 0 _ rfl
  have d1 := hx3 1 _ rfl
  rw [Nat.add_zero] at c0 d0
  have hbb' : bb < w3.heap.size := Nat.lt_of_lt_of_le hbb hB3.size
  generalize operN 7 x y = T at *
  generalize operN 9 y x = M at *
  have HB3 : Hid (Below w.heap.size w w3) := HB.out.trans (hB3.mono zb)
  have zb3 : w.heap.size ≤ w3.heap.size := HB3.out.size
  obtain ⟨R, hR⟩ : ∃ R, p * q = R := ⟨_, rfl⟩
  rw [hR] at d0 n7 n8
  have r1 : IntKind.i64.wrap (p * q) = R := by rw [hR, IntKind.wrap_i64]; omega
  have r2 : wrap64 (p * q) = R := by rw [hR]; unfold wrap64; omega
  clear hx hx3 hO hN hro htold hrun hck hB3 n1 n2 n4 hR
  go_wp2_with fail
  go_quiet (fail)
  go_wp2_with fail
  go_ret
  exact ⟨rfl, HB3.out.trans ((below_drewN (Below.refl _ _) _).mono zb3)⟩
end Go.Proofs.YtechpdfcgimkkaaDoor
