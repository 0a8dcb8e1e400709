/-
  The call of boltholekeep.Branches returns true at every three numbers, long or not.
-/
import Derived.Test.YtechpdfcgimkkaaDoorMSC
import Derived.Test.YtechpdfcgimkkaaDoorPureTold2C
import Derived.Test.YtechpdfcgimkkaaDoorWalkEqC
import Derived.Deep.CutBlock
namespace Go.Proofs.YtechpdfcgimkkaaDoor
open Go.RowKit Go.Joins Isa
theorem taken_at (x y K : Int) (k0 : 0 ≤ K) (k1 : K < 4) : takenB (18 + K) x y = if K = 0 then x == y else if K = 1 then x != y else if K = 2 then decide (x < y) else decide (y ≤ x) := by
  have hk : K = 0 ∨ K = 1 ∨ K = 2 ∨ K = 3 := by omega
  rcases hk with rfl | rfl | rfl | rfl <;> simp [takenB]
set_option maxRecDepth 100000 in
set_option maxHeartbeats 4000000 in
theorem branches_law (a b c : Int) (long : Bool) (w : World) (ht : Tabs w) (_a1 : -9223372036854775808 ≤ a) (_a2 : a ≤ 9223372036854775807) (_b1 : -9223372036854775808 ≤ b) (_b2 : b ≤ 9223372036854775807) (_c1 : -9223372036854775808 ≤ c) (_c2 : c ≤ 9223372036854775807) :
    Calls Tryd.prog 11 #[.int .i64 a, .int .i64 b, .int .i64 c, .bool long] w fun e w' => e = .returned (.bool true) ∧ Below w.heap.size w w' := by
  obtain ⟨x0, x1⟩ := pk_bd a 5 (by decide)
  obtain ⟨y0, y1⟩ := pk_bd b 5 (by decide)
  obtain ⟨k0, k1⟩ := pk_bd c 4 (by decide)
  have P1 : Hid (∀ w, Calls Tryd.prog 19 #[.int .i64 a, .int .i64 5] w fun e w' => e = .returned (.int .i64 (pk a 5)) ∧ w' = w) := fun w => picked_any a _ w (by decide) _a1 _a2
  have P2 : Hid (∀ w, Calls Tryd.prog 19 #[.int .i64 b, .int .i64 5] w fun e w' => e = .returned (.int .i64 (pk b 5)) ∧ w' = w) := fun w => picked_any b _ w (by decide) _b1 _b2
  have P3 : Hid (∀ w, Calls Tryd.prog 19 #[.int .i64 c, .int .i64 4] w fun e w' => e = .returned (.int .i64 (pk c 4)) ∧ w' = w) := fun w => picked_any c _ w (by decide) _c1 _c2
  generalize pk a 5 = x at *
  generalize pk b 5 = y at *
  generalize pk c 4 = K at *
  have HT : Hid _ := ht
  clear ht
  go_enter Tryd.func11, Tryd.ntmps11
  go_upto_region 1 with fail
  go_wp2_with fail
  refine Calls.mono (P1.out _) ?_
  rintro e w1 ⟨rfl, hw⟩
  rw [hw]
  clear hw w1
  go_wp2_with fail
  refine Calls.mono (P2.out _) ?_
  rintro e w1 ⟨rfl, hw⟩
  rw [hw]
  clear hw w1
  go_wp2_with fail
  refine Calls.mono (P3.out _) ?_
  rintro e w1 ⟨rfl, hw⟩
  rw [hw]
  clear hw w1 P1 P2 P3
  have HTK : Hid _ := taken_at x y K k0 k1
  obtain ⟨s, st, hrun, htold⟩ := branch_run (18 + K) x y long (by omega) (by omega)
  have hok := branch_ok (k := 18 + K) (l := long) (by omega) (by omega)
  have HR : Hid _ := hrun
  have HO : Hid _ := htold
  have HK : Hid _ := hok
  clear hrun htold hok
  cases long
  all_goals
    go_upto_region 7 with fail
    go_cut [13] (fun y' wc => y' = .bool (takenB (18 + K) x y) ∧ Hid (Below w.heap.size w wc))
    case first =>
      have hk : K = 0 ∨ K = 1 ∨ K = 2 ∨ K = 3 := by omega
      have hxy : x < y ∨ x = y ∨ y < x := by omega
      clear HR HO HK
      rcases hk with rfl | rfl | rfl | rfl
      all_goals
        rcases hxy with h | rfl | h
        all_goals
          go_wp2
          go_meet
          refine ⟨?_, by show Below _ _ _; go_grown⟩
          rw [HTK.out]
          simp
          first | done | omega
    case rest =>
      obtain ⟨rfl, hbw⟩ := hcut
      have hrun := HR.out
      have hok := HK.out
      have htold := HO.out
      clear HR HO HK
      simp only [if_true, if_false, Bool.false_eq_true] at hrun hok
      have hck := told_chk hok (by simp [branchL]) (ins := [x, y]) (by simp) (by intro z hz; simp at hz; rcases hz with rfl | rfl <;> omega) (fuel := 100) (by decide) (by decide)
      have hro := told_out hck hrun
      have hzw : w.heap.size ≤ wc.heap.size := hbw.out.size
      cases htk : takenB (18 + K) x y
      all_goals
        rw [htk] at htold
        simp only [if_true, if_false, Bool.false_eq_true] at htold
        rw [htold] at hro
        have HTK2 : Hid _ := htk
        have HRO : Hid _ := hro
        have HCK : Hid _ := hck
        have HOK : Hid _ := hok
        clear htk hro htold hck hok hrun HTK
        go_wp2_with (first
          | (go_at_call 32; refine (out_any _ _).mono ?_; rintro e w' ⟨rfl, rfl⟩))
        refine Calls.mono (told_call _ [x, y] _ _ _ _ _ _ _ _ _ _ _ wc _ HRO.out HCK.out HOK.out (by simp [branchL]) rfl rfl (by simp) rfl (HT.out.below HT.out.sz hbw.out) (by go_grown) (ListAt.stays (ints_new wc [x, y] #[.int .i64 x, .int .i64 y] 3 rfl _ _ _ rfl rfl (Nat.le_refl _) (by unfold maxLen; omega)) (Nat.le_refl _) (by refine ((Below.refl _ _).alloc ?_ _).alloc ?_ _ <;> simp <;> omega))) ?_
        rintro e w2 ⟨a', N, c', rfl, hO, hB⟩
        have HL := hO
        have HB : Hid (Below w.heap.size w w2) := hbw.out.trans (hB.mono hzw)
        have zb : w.heap.size ≤ w2.heap.size := HB.out.size
        have HLL : Hid _ := HL
        clear hO hB HL
        go_wp2_with fail
        first
          | refine Calls.mono (equal_any _ _ [x, y] [x, y] _ (ListAt.stays HLL.out (Nat.le_refl _) ((Below.refl _ _).alloc (Nat.le_refl _) _)) (ints_new w2 [x, y] #[.int .i64 x, .int .i64 y] 3 rfl _ _ _ rfl rfl (Nat.le_refl _) (by unfold maxLen; omega))) ?_
          | refine Calls.mono (equal_any _ _ [y] [y] _ (ListAt.stays HLL.out (Nat.le_refl _) (((Below.refl _ _).alloc (Nat.le_refl _) _).alloc (by simp) _)) (ints_new _ [y] #[.int .i64 y] 3 rfl _ _ _ (by simp) rfl (Nat.le_refl _) (by unfold maxLen; omega))) ?_
        rintro e w6 ⟨rfl, nn, rfl⟩
        rw [decide_eq_true rfl]
        go_wp2_with fail
        go_ret
        exact ⟨rfl, HB.out.trans (Below.mono (by first | exact below_drewN ((Below.refl _ _).alloc (Nat.le_refl _) _) _ | exact below_drewN (((Below.refl _ _).alloc (Nat.le_refl _) _).alloc (by simp) _) _) zb)⟩
end Go.Proofs.YtechpdfcgimkkaaDoor
