/-
  boltholeref.InstrFault (P1.1) answers 'chk'.
-/
import Derived.Test.YtkofnmeononlaaaDoorWalkB
namespace Go.Proofs.YtkofnmeononlaaaDoor
open Go.RowKit Isa
theorem lohi_one (k : Int) (l : Bool) (h1 : 1 ≤ k) (h2 : k ≤ 24) (h24 : k ≠ 24) : ((k = 5 ∨ k = 23 ∨ l = true) → lo k l = -32768 ∧ hi k l = 32767) ∧ (¬ (k = 5 ∨ k = 23 ∨ l = true) → lo k l = -128 ∧ hi k l = 127) := by
  cases l <;> rcases kinds h1 h2 with rfl | rfl | rfl | rfl | rfl | rfl | rfl | rfl | rfl | rfl | rfl | rfl | rfl | rfl | rfl | rfl | rfl | rfl | rfl | rfl | rfl | rfl | rfl | rfl <;> first | (exact absurd rfl h24) | decide
set_option maxRecDepth 100000 in
set_option maxHeartbeats 2000000 in
theorem fault_any (k d a b n : Int) (l : Bool) (w : World) :
    Calls Tryd.prog 10 #[.agg #[.int .i64 k, .int .i64 d, .int .i64 a, .int .i64 b, .int .i64 n, .bool l]] w fun e w' => e = .returned (.int .i64 (chk k d a b n l)) ∧ Below w.heap.size w w' := by
  by_cases hk : k < 1 ∨ 24 < k
  · have hc : chk k d a b n l = 3 := by simp [chk, hk]
    have hi : inB k 1 24 = false := by unfold inB; rcases hk with h | h <;> simp <;> omega
    rw [hc]
    clear hk hc
    go_enter Tryd.func10, Tryd.ntmps10
    go_wp2_with (go_at_call 23; refine (rin_any _ _ _ _).mono ?_; rintro e w'' ⟨rfl, rfl⟩)
    go_ret
    exact ⟨rfl, by go_grown⟩
  have h1 : 1 ≤ k := by omega
  have h2 : k ≤ 24 := by omega
  have hi : inB k 1 24 = true := by unfold inB; simp; omega
  have hch : Hid (chk k d a b n l = if formB k d a b n l = false then 4 else if (regB d && regB a && regB b) = false then 2 else if n < lo k l ∨ Isa.hi k l < n then 2 else 0) := by show _ = _; simp [chk, hk]
  clear hk
  go_enter Tryd.func10, Tryd.ntmps10
  go_upto_region 5 with (first | (go_at_call 23; refine (rin_any _ _ _ _).mono ?_; rintro e w'' ⟨rfl, rfl⟩) | (go_at_call 24; refine (rhas_any k _ h1 h2).mono ?_; rintro e w'' ⟨rfl, rfl⟩) | (go_at_call 25; refine (rop_any k _ h1 h2).mono ?_; rintro e w'' ⟨rfl, rfl⟩))
  go_cut [0, 3, 4, 5, 6, 8, 70] (fun _ _ _ _ _ _ s w1 => s = .bool (!formB k d a b n l) ∧ w1 = w.alloc (.cells #[.int .i64 k, .int .i64 d, .int .i64 a, .int .i64 b, .int .i64 n, .bool l] 23))
  case first =>
    go_wp2
    all_goals
      go_meet
      case rel =>
        go_light
        refine ⟨congrArg Value.bool ?_, by simp [*]⟩
        simp [formB, *, rL_eq h1 h2]
  case rest =>
    obtain ⟨rfl, rfl⟩ := hcut
    cases hf : formB k d a b n l
    · have hfin : Hid (chk k d a b n l = 4) := by show _ = _; rw [hch.out, if_pos hf]
      clear hch
      go_wp2
      go_ret
      exact ⟨by rw [hfin.out]; rfl, by go_grown⟩
    have e1 : inB d 0 7 = regB d := by unfold inB regB; rw [Bool.eq_iff_iff]; simp; omega
    have e2 : inB a 0 7 = regB a := by unfold inB regB; rw [Bool.eq_iff_iff]; simp; omega
    have e3 : inB b 0 7 = regB b := by unfold inB regB; rw [Bool.eq_iff_iff]; simp; omega
    cases hr : regB d && regB a && regB b
    · have hfin : Hid (chk k d a b n l = 2) := by show _ = _; rw [hch.out, if_neg (by simp [hf]), if_pos hr]
      clear hch
      have hrs : regB d = false ∨ (regB d = true ∧ regB a = false) ∨ (regB d = true ∧ regB a = true ∧ regB b = false) := by
        cases h : regB d <;> cases h' : regB a <;> cases h'' : regB b <;> simp_all
      clear hr
      rcases hrs with r1 | ⟨r1, r2⟩ | ⟨r1, r2, r3⟩
      all_goals
        go_wp2_with (first | (go_at_call 23; refine (rin_any _ _ _ _).mono ?_; rintro e w'' ⟨rfl, rfl⟩))
        go_ret
        exact ⟨by rw [hfin.out]; rfl, by go_grown⟩
    · obtain ⟨⟨r1, r2⟩, r3⟩ : (regB d = true ∧ regB a = true) ∧ regB b = true := by simpa using hr
      have hcn : Hid (chk k d a b n l = if inB n (lo k l) (Isa.hi k l) then 0 else 2) := by
        show _ = _
        rw [hch.out, if_neg (by simp [hf]), if_neg (by simp [hr])]
        unfold inB
        by_cases x : n < lo k l ∨ Isa.hi k l < n
        · rw [if_pos x, if_neg (by simp; omega)]
        · rw [if_neg x, if_pos (by simp; omega)]
      clear hr hch
      by_cases h24 : k = 24
      · subst h24
        have el : lo 24 l = 0 := by simp [lo]
        have eh : Isa.hi 24 l = 19 := by simp [Isa.hi]
        have hfin : Hid (chk 24 d a b n l = if inB n 0 19 then 0 else 2) := by show _ = _; rw [hcn.out, el, eh]
        clear hcn el eh
        cases hin : inB n 0 19
        all_goals cases l
        all_goals
          go_wp2_with (first | (go_at_call 23; refine (rin_any _ _ _ _).mono ?_; rintro e w'' ⟨rfl, rfl⟩))
          go_ret
          exact ⟨by rw [hfin.out, hin]; rfl, by go_grown⟩
      have h24b : (k == 24) = false := by simp [h24]
      obtain ⟨lh1, lh2⟩ := lohi_one k l h1 h2 h24
      by_cases hx : k = 5 ∨ k = 23 ∨ l = true
      · obtain ⟨el, eh⟩ := lh1 hx
        have hfin : Hid (chk k d a b n l = if inB n (-32768) 32767 then 0 else 2) := by show _ = _; rw [hcn.out, el, eh]
        clear hcn el eh lh1 lh2
        have hx3 : (k == 5) = true ∨ ((k == 5) = false ∧ (k == 23) = true) ∨ ((k == 5) = false ∧ (k == 23) = false ∧ l = true) := by
          cases x1 : k == 5 <;> cases x2 : k == 23 <;> cases l <;> simp_all
        clear hx
        cases hin : inB n (-32768) 32767
        all_goals rcases hx3 with x1 | ⟨x1, x2⟩ | ⟨x1, x2, rfl⟩
        all_goals
          go_wp2_with (first | (go_at_call 23; refine (rin_any _ _ _ _).mono ?_; rintro e w'' ⟨rfl, rfl⟩))
          go_ret
          exact ⟨by rw [hfin.out, hin]; rfl, by go_grown⟩
      · obtain ⟨el, eh⟩ := lh2 hx
        have hfin : Hid (chk k d a b n l = if inB n (-128) 127 then 0 else 2) := by show _ = _; rw [hcn.out, el, eh]
        clear hcn el eh lh1 lh2
        obtain ⟨x1, x2, rfl⟩ : (k == 5) = false ∧ (k == 23) = false ∧ l = false := by
          cases l <;> simp_all
        clear hx
        cases hin : inB n (-128) 127
        all_goals
          go_wp2_with (first | (go_at_call 23; refine (rin_any _ _ _ _).mono ?_; rintro e w'' ⟨rfl, rfl⟩))
          go_ret
          exact ⟨by rw [hfin.out, hin]; rfl, by go_grown⟩
end Go.Proofs.YtkofnmeononlaaaDoor
