/-
  The call of boltholekeep.Bits returns true at every two numbers.
-/
import Derived.Test.YtechpdfcgimkkaaDoorMSC
import Derived.BigQuiet
import Derived.Deep.QuietTactic
namespace Go.Proofs.YtechpdfcgimkkaaDoor
open Go.RowKit Go.Joins Isa
set_option maxRecDepth 100000 in
set_option maxHeartbeats 4000000 in
theorem bits_law (a b : Int) (w : World) (ht : Tabs w) (_a1 : -9223372036854775808 ≤ a) (_a2 : a ≤ 9223372036854775807) (_b1 : -9223372036854775808 ≤ b) (_b2 : b ≤ 9223372036854775807) :
    Calls Tryd.prog 9 #[.int .i64 a, .int .i64 b] w fun e w' => e = .returned (.bool true) ∧ Below w.heap.size w w' := by
  obtain ⟨x0, x1⟩ := pk_bd a 1073741824 (by decide)
  obtain ⟨y0, y1⟩ := pk_bd b 1073741824 (by decide)
  have P1 : Hid (∀ w, Calls Tryd.prog 19 #[.int .i64 a, .int .i64 1073741824] w fun e w' => e = .returned (.int .i64 (pk a 1073741824)) ∧ w' = w) := fun w => picked_any a _ w (by decide) _a1 _a2
  have P2 : Hid (∀ w, Calls Tryd.prog 19 #[.int .i64 b, .int .i64 1073741824] w fun e w' => e = .returned (.int .i64 (pk b 1073741824)) ∧ w' = w) := fun w => picked_any b _ w (by decide) _b1 _b2
  generalize pk a 1073741824 = x at *
  generalize pk b 1073741824 = y at *
  have HT : Hid _ := ht
  clear ht
  go_enter Tryd.func9, Tryd.ntmps9
  go_upto_region 1 with fail
  go_wp2_with fail
  refine Calls.mono (P1.out _) ?_
  rintro e w1 ⟨rfl, hw⟩
  rw [hw]
  clear hw w1
  go_wp2_with fail
  refine Calls.mono (P2.out _) ?_
  rintro e w1 ⟨rfl, hw⟩
  rw [hw]
  clear hw w1
  go_wp2_with (first
    | (go_at_call 32; refine (out_any _ _).mono ?_; rintro e w' ⟨rfl, rfl⟩))
  obtain ⟨s, hrun, htold⟩ := bits_run x y
  have hck : runChk (aloneI bitsL) [x, y] 100 = 0 := told_chk bits_ok (by decide) (by simp) (by intro z hz; simp at hz; rcases hz with rfl | rfl <;> omega) (by decide) (by decide)
  have hro := told_out hck hrun
  rw [htold] at hro
  obtain ⟨n1, n2, n3, n4, n5, n6⟩ := bits_nums x y x0 x1 y0 y1
  have n7 : operN 13 x y = if x < y then 1 else 0 := oper13 x y
  refine Calls.mono (told_call bitsL [x, y] _ 1 10 _ _ _ _ _ _ _ _ w _ hro hck bits_ok (by decide) rfl rfl (by simp) rfl HT.out (by go_grown) (ListAt.stays (ints_new w [x, y] #[.int .i64 x, .int .i64 y] 3 rfl _ _ _ rfl rfl (Nat.le_refl _) (by unfold maxLen; omega)) (Nat.le_refl _) (by refine ((((Below.refl _ _).alloc ?_ _).alloc ?_ _).alloc ?_ _).alloc ?_ _ <;> simp <;> omega))) ?_
  rintro e w2 ⟨a', N, c, rfl, hO, hB⟩
  obtain ⟨bb, oo, rfl, hN, hc, hbb, hx⟩ := list_cells hO (by simp)
  have hN4 : N = 4 := hN
  subst hN4
  have c0 := hx 0 _ rfl
  have c1 := hx 1 _ rfl
  have c2 := hx 2 _ rfl
  have c3 := hx 3 _ rfl
  rw [Nat.add_zero] at c0
  rw [n7] at c3
  have HB : Hid _ := hB
  clear hx hO hN hro htold hrun hck n7
  generalize operN 10 x y = A at *
  generalize operN 11 x y = O at *
  generalize operN 12 x y = X at *
  have q1 : (A + O == x + y) = true := by simp [n1]
  have q2 : (O - A == X) = true := by simp [n2]
  have zb : w.heap.size ≤ w2.heap.size := HB.out.size
  have hlt : x < y ∨ ¬ x < y := by omega
  rcases hlt with hlt | hlt
  · rw [if_pos hlt] at c3
    go_wp2_with fail
    go_quiet (fail)
    go_wp2_with fail
    go_ret
    exact ⟨rfl, HB.out.trans (by have := zb; exact (below_drewN (Below.refl _ _) _).mono zb)⟩
  · rw [if_neg hlt] at c3
    go_wp2_with fail
    go_quiet (fail)
    go_wp2_with fail
    go_ret
    exact ⟨rfl, HB.out.trans (by have := zb; exact (below_drewN (Below.refl _ _) _).mono zb)⟩
end Go.Proofs.YtechpdfcgimkkaaDoor
