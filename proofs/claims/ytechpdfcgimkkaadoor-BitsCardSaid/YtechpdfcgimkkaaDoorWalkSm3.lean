/-
  package step: is there the word, or the address, that an instruction asks for? How a run ends ahead of it.
-/
import Derived.Test.YtechpdfcgimkkaaDoorWalkSm2
import Derived.Deep.RegionWith
namespace Go.Proofs.YtechpdfcgimkkaaDoor
open Go.RowKit Go.Joins Isa
/-- isThere: P3.4. -/
def thereB (rs : List Vl) (mem : Int) (tabs : List (List Int)) (k a n : Int) : Bool :=
  if k = 14 ∨ k = 15 then placeB ((rs.getD a.toNat ⟨0, false⟩).n + n) mem else if k = 24 then placeB n tabs.length && placeB (rs.getD a.toNat ⟨0, false⟩).n (tabs.getD n.toNat []).length else true
set_option maxRecDepth 100000 in
set_option maxHeartbeats 2000000 in
theorem there_any (gm : Nat) (rs : List Vl) (aM : Option Addr) (lM cM : Nat) (vT vI vO : Value) (tabs : List (List Int)) (us : List Value) (pc k d a b n : Int) (l : Bool) (w : World) (h : MachAt w gm rs (.slice aM lM cM) vT vI vO pc) (a0 : 0 ≤ a) (a1 : a < 8)
    (hT : ListAt w vcell 1 vT us) (hU' : us.length = tabs.length) (hE : ∀ (j : Nat) (u : Value) (t : List Int), us[j]? = some u → tabs[j]? = some t → ListAt w icell 1 u t)
    (hr : ∀ v ∈ rs, -1099511627776 ≤ v.n ∧ v.n ≤ 1099511627776) (n0 : -32768 ≤ n) (n1 : n ≤ 32767) (_hlM : lM ≤ maxLen) :
    Calls Tryd.prog 98 #[.pointer (some ⟨gm, 0, none⟩), .agg #[.int .i64 k, .int .i64 d, .int .i64 a, .int .i64 b, .int .i64 n, .bool l]] w fun e w' => e = .returned (.bool (thereB rs lM tabs k a n)) ∧ Below w.heap.size w w' := by
  have hU : Hid (us.length = tabs.length) := hU'
  clear hU'
  obtain ⟨A, rfl⟩ := Int.eq_ofNat_of_zero_le a0
  obtain ⟨va, ra, p1, p2, _, _⟩ := h.reg A (by omega)
  obtain ⟨z0, z1, _, _, _, _⟩ := h.rest
  obtain ⟨r0, r1⟩ := hr va (List.mem_of_getElem? ra)
  have hg := h.lt
  have ga : rs.getD ((A : Int)).toNat ⟨0, false⟩ = va := by rw [Int.toNat_natCast, List.getD_eq_getElem?_getD, ra]; rfl
  obtain ⟨aT, cT, hvT, hTl⟩ := hT.form
  subst hvT
  unfold maxLen at _hlM hTl
  have HG : Hid (thereB rs lM tabs k A n = if k = 14 ∨ k = 15 then placeB (va.n + n) lM else if k = 24 then placeB n tabs.length && placeB va.n (tabs.getD n.toNat []).length else true) := by show _ = _; unfold thereB; rw [ga]
  obtain ⟨an, ac⟩ := va
  simp only at p1 p2 r0 r1 HG
  clear ga ra h hr
  have BX : Hid (∀ (wx : World) (m : Nat), (w.alloc (.cells #[.int .i64 k, .int .i64 d, .int .i64 (A : Int), .int .i64 b, .int .i64 n, .bool l] 61)).drewN m = wx → Below w.heap.size w wx) := fun wx m h => by rw [← h]; exact below_drewN ((Below.refl _ _).alloc (Nat.le_refl _) _) _
  have YY : Hid (∀ (wx : World) (m : Nat), (w.alloc (.cells #[.int .i64 k, .int .i64 d, .int .i64 (A : Int), .int .i64 b, .int .i64 n, .bool l] 61)).drewN m = wx → wx.cell? ⟨w.heap.size, 4, none⟩ = some (.int .i64 n)) := fun wx m h => by rw [← h]; exact World.cell?_alloc_new _ _ _ _
  by_cases k14 : k = 14 ∨ k = 15
  · rw [if_pos k14] at HG
    have hw : IntKind.i64.wrap (an + n) = an + n := by rw [IntKind.wrap_i64]; omega
    have PL : Hid (∀ w, Calls Tryd.prog 124 #[.int .i64 (an + n), .int .i64 (lM : Int)] w fun e w' => e = .returned (.bool (placeB (an + n) lM)) ∧ w' = w) := fun w => place_any _ _ w
    have hk : (k == 14) = true ∨ ((k == 14) = false ∧ (k == 15) = true) := by rcases k14 with rfl | rfl <;> simp
    clear k14
    rcases hk with hk | ⟨hk, hk2⟩
    all_goals
      go_enter Tryd.func98, Tryd.ntmps98
      go_wp2_with fail
      go_quiet (fail)
      go_wp2_with fail
      obtain ⟨wx, hwx⟩ : ∃ wx, (w.alloc (.cells #[.int .i64 k, .int .i64 d, .int .i64 (A : Int), .int .i64 b, .int .i64 n, .bool l] 61)).drewN nq = wx := ⟨_, rfl⟩
      have bx := BX.out _ nq hwx
      have y4 := YY.out _ nq hwx
      rw [hwx]
      clear hwx
      have z0' := (bx.cell (p := ⟨gm, 16, none⟩) hg).trans z0
      have z1' := (bx.cell (p := ⟨gm, 17, none⟩) hg).trans z1
      have zz := bx.size
      go_quiet ((go_at_call 124; exact Calls.quiet_of_same (PL.out _)))
      go_wp2
      go_ret
      exact ⟨by rw [HG.out]; rfl, below_drewN bx _⟩
  rw [if_neg k14] at HG
  have d14 : (k == 14) = false := by simp; omega
  have d15 : (k == 15) = false := by simp; omega
  by_cases k24 : k = 24
  · rw [if_pos k24] at HG
    have d24 : (k == 24) = true := by simp [k24]
    clear k14 k24
    by_cases hn : 0 ≤ n ∧ n < (us.length : Int)
    · obtain ⟨hn0, hn1⟩ := hn
      obtain ⟨N, rfl⟩ := Int.eq_ofNat_of_zero_le hn0
      obtain ⟨u, hu⟩ : ∃ u, us[N]? = some u := ⟨_, List.getElem?_eq_getElem (by omega)⟩
      have hU1 := hU.out
      obtain ⟨t, ht⟩ : ∃ t, tabs[N]? = some t := ⟨_, List.getElem?_eq_getElem (by omega)⟩
      clear hU1
      obtain ⟨bb, oo, cap, hv, c1, c2, c3, c4⟩ := hT.resolve_left (by rintro ⟨_, _, _, hh⟩; subst hh; simp at hn1; omega)
      cases hv
      have e0 : w.cell? ⟨bb, oo + N, none⟩ = some u := by have := c4 N u hu 0 u rfl; rwa [Nat.mul_one, Nat.add_zero] at this
      obtain ⟨at', ct, hvt, htl⟩ := (hE N u t hu ht).form
      subst hvt
      unfold maxLen at htl
      have hp1 : placeB (N : Int) us.length = true := by unfold placeB; simp; omega
      have HG' : Hid (thereB rs lM tabs k A N = placeB an t.length) := by
        show _ = _
        rw [HG.out, ← hU.out, hp1, Bool.true_and, Int.toNat_natCast, List.getD_eq_getElem?_getD, ht]; rfl
      have PL : Hid (∀ w, Calls Tryd.prog 124 #[.int .i64 (N : Int), .int .i64 (us.length : Int)] w fun e w' => e = .returned (.bool true) ∧ w' = w) := fun w => by rw [← hp1]; exact place_any _ _ w
      have PL2 : Hid (∀ w, Calls Tryd.prog 124 #[.int .i64 an, .int .i64 (t.length : Int)] w fun e w' => e = .returned (.bool (placeB an t.length)) ∧ w' = w) := fun w => place_any _ _ w
      clear c4 HG hu ht hE PL PL2 hT
      go_enter Tryd.func98, Tryd.ntmps98
      go_wp2_with fail
      go_quiet (fail)
      go_wp2_with fail
      obtain ⟨wx, hwx⟩ : ∃ wx, (w.alloc (.cells #[.int .i64 k, .int .i64 d, .int .i64 (A : Int), .int .i64 b, .int .i64 (N : Int), .bool l] 61)).drewN nq = wx := ⟨_, rfl⟩
      have bx := BX.out _ nq hwx
      have y4 := YY.out _ nq hwx
      rw [hwx]
      clear hwx
      have z0' := (bx.cell (p := ⟨gm, 16, none⟩) hg).trans z0
      have z1' := (bx.cell (p := ⟨gm, 17, none⟩) hg).trans z1
      have zz := bx.size
      have e0' := (bx.cell (p := ⟨bb, oo + N, none⟩) c3).trans e0
      go_quiet ((go_at_call 124; exact Calls.quiet_of_same (place_any _ _ _)))
      go_wp2
      go_ret
      exact ⟨by rw [HG'.out]; rfl, below_drewN bx _⟩
    · have hp1 : placeB n us.length = false := by unfold placeB; simp; omega
      have HG' : Hid (thereB rs lM tabs k A n = false) := by
        show _ = _
        rw [HG.out, ← hU.out, hp1]; rfl
      have PL : Hid (∀ w, Calls Tryd.prog 124 #[.int .i64 n, .int .i64 (us.length : Int)] w fun e w' => e = .returned (.bool false) ∧ w' = w) := fun w => by rw [← hp1]; exact place_any _ _ w
      clear hp1 HG hE
      go_enter Tryd.func98, Tryd.ntmps98
      go_wp2_with fail
      go_quiet (fail)
      go_wp2_with fail
      obtain ⟨wx, hwx⟩ : ∃ wx, (w.alloc (.cells #[.int .i64 k, .int .i64 d, .int .i64 (A : Int), .int .i64 b, .int .i64 n, .bool l] 61)).drewN nq = wx := ⟨_, rfl⟩
      have bx := BX.out _ nq hwx
      have y4 := YY.out _ nq hwx
      rw [hwx]
      clear hwx
      have z0' := (bx.cell (p := ⟨gm, 16, none⟩) hg).trans z0
      have z1' := (bx.cell (p := ⟨gm, 17, none⟩) hg).trans z1
      have zz := bx.size
      go_quiet ((go_at_call 124; exact Calls.quiet_of_same (PL.out _)))
      go_wp2
      go_ret
      exact ⟨by rw [HG'.out]; rfl, below_drewN bx _⟩
  · rw [if_neg k24] at HG
    have d24 : (k == 24) = false := by simp [k24]
    clear k14 k24
    go_enter Tryd.func98, Tryd.ntmps98
    go_wp2_with fail
    go_quiet (fail)
    go_wp2
    go_ret
    exact ⟨by rw [HG.out]; rfl, below_drewN ((Below.refl _ _).alloc (Nat.le_refl _) _) _⟩
end Go.Proofs.YtechpdfcgimkkaaDoor
