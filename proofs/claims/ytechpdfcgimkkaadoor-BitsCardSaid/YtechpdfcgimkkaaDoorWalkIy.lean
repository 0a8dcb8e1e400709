/-
  slices.ContainsFunc at step.check's function value; what a run is made of.
-/
import Derived.Test.YtechpdfcgimkkaaDoorWalkIx
import Derived.Test.YtechpdfcgimkkaaDoorWalkCk2
namespace Go.Proofs.YtechpdfcgimkkaaDoor
open Go.RowKit Go.Joins
theorem sfar_any (n : Int) (w : World) : Calls Tryd.prog 91 #[.int .i64 n] w fun e w' => e = .returned (.bool (farB n)) ∧ w' = w := by
  by_cases h0 : n < -1099511627776
  · have hr : Hid (farB n = true) := by show _ = _; simp [farB, h0]
    go_enter Tryd.func91, Tryd.ntmps91
    go_wp2
    go_ret
    exact ⟨by rw [hr.out]; rfl, rfl⟩
  · by_cases h1 : 1099511627776 < n
    · have hr : Hid (farB n = true) := by show _ = _; simp [farB, h1]
      go_enter Tryd.func91, Tryd.ntmps91
      go_wp2
      go_ret
      exact ⟨by rw [hr.out]; rfl, rfl⟩
    · have hr : Hid (farB n = false) := by show _ = _; simp [farB]; omega
      go_enter Tryd.func91, Tryd.ntmps91
      go_wp2
      go_ret
      exact ⟨by rw [hr.out]; rfl, rfl⟩
set_option maxHeartbeats 1000000 in
theorem sidxFar_any (v : Value) (xs : List Int) (w : World) (h : ListAt w icell 1 v xs) : Calls Tryd.prog 90 #[v, .func (.func 91) #[] #[]] w fun e w' => ∃ r : Int, e = .returned (.int .i64 r) ∧ decide (0 ≤ r) = xs.any farB ∧ w' = w := by
  obtain ⟨aa, cp, rfl, hlen⟩ := h.form
  have HL : Hid (ListAt w icell 1 (.slice aa xs.length cp) xs) := h
  unfold maxLen at hlen
  clear h
  go_enter Tryd.func90, Tryd.ntmps90
  go_wp2_with fail
  go_loopw [8] (fun u wr => ∃ j : Nat, j ≤ xs.length ∧ u = .int .i64 (j : Int) ∧ Hid ((xs.take j).any farB = false) ∧ wr = w) (fun u _ => (xs.length - intOf u).toNat)
  case atStart => exact ⟨0, by omega, rfl, rfl, rfl⟩
  case round =>
    obtain ⟨j, j1, rfl, j2, rfl⟩ := hrel
    by_cases hj : j < xs.length
    · obtain ⟨y, hy⟩ : ∃ y, xs[j]? = some y := ⟨_, List.getElem?_eq_getElem (by omega)⟩
      obtain ⟨bb, oo, cap, hv, c1, c2, c3, c4⟩ := HL.out.resolve_left (by rintro ⟨_, _, _, h⟩; subst h; simp at hj)
      cases hv
      have d0 := c4 j y hy 0 (.int .i64 y) rfl
      rw [Nat.mul_one, Nat.add_zero] at d0
      have HY : Hid _ := hy
      clear c4 hy
      cases hk : farB y
      · go_wp2_with (go_at_call 91; refine (sfar_any _ _).mono ?_; rw [hk]; rintro e w1 ⟨rfl, hw1⟩; obtain rfl := hw1.symm)
        go_roundw
        case rel => exact ⟨j + 1, by omega, by go_num, any_next _ _ _ _ HY.out j2.out hk, trivial⟩
        case measure => simp [intOf]; omega
      · go_wp2_with (go_at_call 91; refine (sfar_any _ _).mono ?_; rw [hk]; rintro e w1 ⟨rfl, hw1⟩; obtain rfl := hw1.symm)
        go_ret
        exact ⟨_, rfl, by rw [any_hit _ _ _ _ HY.out hk]; simp, by first | rfl | trivial⟩
    · have hr : Hid (xs.any farB = false) := by have := j2.out; rwa [List.take_of_length_le (by omega)] at this
      go_wp2
      go_ret
      exact ⟨_, rfl, by rw [hr.out]; rfl, by first | rfl | trivial⟩
theorem shasFar_any (v : Value) (xs : List Int) (w : World) (h : ListAt w icell 1 v xs) : Calls Tryd.prog 46 #[v, .func (.func 91) #[] #[]] w fun e w' => e = .returned (.bool (xs.any farB)) ∧ w' = w := by
  have HH : Hid (ListAt w icell 1 v xs) := h
  clear h
  go_enter Tryd.func46, Tryd.ntmps46
  go_wp2_with (go_at_call 90; refine (sidxFar_any v xs w HH.out).mono ?_; rintro e w1 ⟨r, rfl, hr, hw1⟩; obtain rfl := hw1.symm)
  go_ret
  exact ⟨by rw [← hr]; rfl, rfl⟩
/-- P3.5: what a run is made of. -/
def runChk (m : Img) (ins : List Int) (fuel : Int) : Int := if imgChk m ≠ 0 then imgChk m else if fuel < 0 ∨ 100000 < fuel then 2 else if 100 < ins.length then 1 else if ins.any farB then 2 else 0
set_option maxRecDepth 100000 in
set_option maxHeartbeats 1000000 in
theorem rcheck_any (vT vF vB vD vL vI : Value) (m : Img) (ins : List Int) (fuel : Int) (w : World) (hI : ImgAt w vT vF vB vD vL m) (hok : m.ok) (hin : ListAt w icell 1 vI ins) :
    Calls Tryd.prog 56 #[.agg #[vT, vF, vB, vD, vL, .int .i64 m.entry], vI, .int .i64 fuel] w fun e w' => e = .returned (.int .i64 (runChk m ins fuel)) ∧ Below w.heap.size w w' := by
  obtain ⟨aT, cT, rfl, lT⟩ := hI.text.form
  obtain ⟨aF, cF, rfl, lF⟩ := hI.funcs.form
  obtain ⟨aD, cD, rfl, lD⟩ := hI.data.form
  obtain ⟨aL, cL, rfl, lL⟩ := hI.lines.form
  obtain ⟨vs, hv, -, -⟩ := hI.tables
  obtain ⟨aB, cB, rfl, lB⟩ := hv.form
  obtain ⟨aI, cI, rfl, lI⟩ := hin.form
  clear hv
  have BA : Hid (Below w.heap.size w (w.alloc (.cells #[.slice aT m.text.length cT, .slice aF m.funcs.length cF, .slice aB vs.length cB, .slice aD m.data.length cD, .slice aL m.lines.length cL, .int .i64 m.entry] 29))) := (Below.refl _ _).alloc (Nat.le_refl _) _
  have CK : Hid (Calls Tryd.prog 21 #[.agg #[.slice aT m.text.length cT, .slice aF m.funcs.length cF, .slice aB vs.length cB, .slice aD m.data.length cD, .slice aL m.lines.length cL, .int .i64 m.entry]] (w.alloc (.cells #[.slice aT m.text.length cT, .slice aF m.funcs.length cF, .slice aB vs.length cB, .slice aD m.data.length cD, .slice aL m.lines.length cL, .int .i64 m.entry] 29)) fun e w' => e = .returned (.int .i64 (imgChk m)) ∧ Below w.heap.size w w') :=
    (icheck_any _ _ _ _ _ m _ (hI.stays (Nat.le_refl _) BA.out) hok).mono fun e w' hh => ⟨hh.1, BA.out.trans (hh.2.mono (by simp))⟩
  have CF : Hid (∀ w', Below w.heap.size w w' → Calls Tryd.prog 46 #[.slice aI ins.length cI, .func (.func 91) #[] #[]] w' fun e w2 => e = .returned (.bool (ins.any farB)) ∧ w2 = w') := fun w' hb => shasFar_any _ ins w' (hin.stays (Nat.le_refl _) hb)
  have RC : Hid (runChk m ins fuel = if imgChk m ≠ 0 then imgChk m else if fuel < 0 ∨ 100000 < fuel then 2 else if 100 < ins.length then 1 else if ins.any farB then 2 else 0) := rfl
  generalize runChk m ins fuel = out at *
  unfold maxLen at lI
  clear hI hin hok lT lF lD lL lB
  by_cases hc : imgChk m = 0
  · rw [hc] at CK RC
    rw [if_neg (by simp)] at RC
    clear hc
    by_cases hf : fuel < 0
    · rw [if_pos (Or.inl hf)] at RC
      go_enter Tryd.func56, Tryd.ntmps56
      go_wp2_with (first | (go_at_call 21; refine CK.out.mono ?_; rintro e w1 ⟨rfl, hb⟩))
      go_ret
      exact ⟨by rw [RC.out]; rfl, hb⟩
    by_cases hf2 : 100000 < fuel
    · rw [if_pos (Or.inr hf2)] at RC
      go_enter Tryd.func56, Tryd.ntmps56
      go_wp2_with (first | (go_at_call 21; refine CK.out.mono ?_; rintro e w1 ⟨rfl, hb⟩))
      go_ret
      exact ⟨by rw [RC.out]; rfl, hb⟩
    rw [if_neg (by omega)] at RC
    by_cases hl : 100 < ins.length
    · rw [if_pos hl] at RC
      have hl' : (100 : Int) < (ins.length : Int) := by omega
      go_enter Tryd.func56, Tryd.ntmps56
      go_wp2_with (first | (go_at_call 21; refine CK.out.mono ?_; rintro e w1 ⟨rfl, hb⟩))
      go_ret
      exact ⟨by rw [RC.out]; rfl, hb⟩
    rw [if_neg hl] at RC
    have hl' : ¬ (100 : Int) < (ins.length : Int) := by omega
    generalize ins.any farB = fb at *
    cases fb
    all_goals
      go_enter Tryd.func56, Tryd.ntmps56
      go_wp2_with (first | (go_at_call 21; refine CK.out.mono ?_; rintro e w1 ⟨rfl, hb⟩) | (go_at_call 46; refine (CF.out _ hb).mono ?_; rintro e w2 ⟨rfl, rfl⟩))
      go_ret
      exact ⟨by rw [RC.out]; rfl, hb⟩
  · rw [if_pos hc] at RC
    have hz : (imgChk m != 0) = true := by simp [hc]
    have HC : Hid (¬ imgChk m = 0) := hc
    clear hc
    generalize imgChk m = z at *
    go_enter Tryd.func56, Tryd.ntmps56
    go_wp2_with (first | (go_at_call 21; refine CK.out.mono ?_; rintro e w1 ⟨rfl, hb⟩))
    go_ret
    exact ⟨by rw [RC.out]; rfl, hb⟩
end Go.Proofs.YtechpdfcgimkkaaDoor
