/-
  image.checkMark.
-/
import Derived.Test.YtmibbjjfijcgpacWalkRn
import Derived.Test.YtmibbjjfijcgpacPureEn
import Derived.Deep.QuietTactic
namespace Go.Proofs.Ytmibbjjfijcgpac
open Go.RowKit Go.Joins
/-- The mark that the bytes of an image begin with. -/
def markChk : List Int → List Int → Int
  | [], _ => 0
  | _ :: _, [] => 5
  | m :: ms, b :: bs => if b = m then markChk ms bs else 4
theorem mark_at (j : Nat) (bs : List Int) (m b : Int) (h1 : magic[j]? = some m) (h2 : bs[j]? = some b) : markChk (magic.drop j) (bs.drop j) = if b = m then markChk (magic.drop (j + 1)) (bs.drop (j + 1)) else 4 := by
  obtain ⟨l1, e1⟩ := List.getElem?_eq_some_iff.1 h1
  obtain ⟨l2, e2⟩ := List.getElem?_eq_some_iff.1 h2
  rw [List.drop_eq_getElem_cons l1, List.drop_eq_getElem_cons l2, e1, e2, markChk]
set_option maxHeartbeats 2000000 in
theorem mark_any (v : Value) (bs : List Int) (w : World) (h : ListAt w ucell 1 v bs) :
    Calls Try.prog 29 #[v] w fun e w' => e = .returned (.int .i64 (markChk magic bs)) ∧ Below w.heap.size w w' := by
  obtain ⟨a, cap, rfl, hlen⟩ := h.form
  have HL : Hid (ListAt w ucell 1 (.slice a bs.length cap) bs) := h
  unfold maxLen at hlen
  clear h
  go_enter Try.func29, Try.ntmps29
  go_wp2_with fail
  go_loopw [4] (fun u wr => ∃ j : Nat, j ≤ 4 ∧ j ≤ bs.length ∧ u = .int .i64 (j : Int) ∧ Hid (markChk magic bs = markChk (magic.drop j) (bs.drop j)) ∧ Hid (Below w.heap.size w wr)) (fun u _ => (4 - intOf u).toNat)
  case atStart => exact ⟨0, by omega, by omega, rfl, rfl, Below.refl _ _⟩
  case round =>
    obtain ⟨j, j1, j2, rfl, hm, hb⟩ := hrel
    rcases Nat.lt_or_ge j 4 with hj | hj
    · rcases Nat.lt_or_ge j bs.length with hl | hl
      · obtain ⟨y, hy⟩ : ∃ y, bs[j]? = some y := ⟨_, List.getElem?_eq_getElem (by omega)⟩
        obtain ⟨bb, oo, cp, hv, c1, c2, c3, c4⟩ := HL.out.resolve_left (by rintro ⟨_, _, _, h⟩; subst h; simp at hl)
        cases hv
        have d0 := c4 j y hy 0 (.int .u8 y) rfl
        rw [Nat.mul_one, Nat.add_zero] at d0
        have e0 := (hb.out.cell (p := ⟨bb, oo + j, none⟩) c3).trans d0
        have hj4 : j = 0 ∨ j = 1 ∨ j = 2 ∨ j = 3 := by omega
        obtain ⟨m, hmj⟩ : ∃ m, magic[j]? = some m := ⟨_, List.getElem?_eq_getElem (by simp [magic]; omega)⟩
        have HM : Hid _ := mark_at j bs m y hmj hy
        clear c4 hy d0
        have hjj : (j : Int) < (bs.length : Int) := by omega
        have hne : ¬ bs = [] := by rintro rfl; simp at hl
        by_cases q : y = m
        · have HQ : Hid (markChk magic bs = markChk (magic.drop (j + 1)) (bs.drop (j + 1))) := by show _ = _; rw [hm.out, HM.out, if_pos q]
          subst q
          clear hm HM
          rcases hj4 with rfl | rfl | rfl | rfl
          all_goals
            simp [magic] at hmj
            subst hmj
            simp at hl hjj
            have e1 := e0
            try rw [Nat.add_zero] at e1
            go_wp2
            go_quiet (fail)
            go_wp2
            go_roundw
            case rel => exact ⟨_, by omega, by omega, by go_num, HQ.out, jdrewN hb.out _⟩
            case measure => simp [intOf]
        · have HQ : Hid (markChk magic bs = 4) := by show _ = _; rw [hm.out, HM.out, if_neg q]
          clear hm HM
          rcases hj4 with rfl | rfl | rfl | rfl
          all_goals
            simp [magic] at hmj
            subst hmj
            simp at hl hjj
            have e1 := e0
            try rw [Nat.add_zero] at e1
            go_wp2
            go_quiet (fail)
            go_wp2
            · go_ret
              exact ⟨by rw [HQ.out]; rfl, jdrewN hb.out _⟩
            · rename_i hh
              exact absurd (bne_eq_false_iff_eq.1 hh) q
      · have hjl : j = bs.length := by omega
        have HQ : Hid (markChk magic bs = 5) := by
          show _ = _
          rw [hm.out, List.drop_of_length_le (l := bs) (by omega), List.drop_eq_getElem_cons (l := magic) (i := j) (by simp [magic]; omega), markChk]
        clear hm
        have hjj : ¬ (j : Int) < (bs.length : Int) := by omega
        have hj3 : (j : Int) < 4 := by omega
        go_wp2
        go_ret
        exact ⟨by rw [HQ.out]; rfl, hb.out⟩
    · have hj4 : j = 4 := by omega
      subst hj4
      have HQ : Hid (markChk magic bs = 0) := by show _ = _; rw [hm.out]; rfl
      clear hm
      go_wp2
      go_ret
      exact ⟨by rw [HQ.out]; rfl, hb.out⟩
end Go.Proofs.Ytmibbjjfijcgpac
