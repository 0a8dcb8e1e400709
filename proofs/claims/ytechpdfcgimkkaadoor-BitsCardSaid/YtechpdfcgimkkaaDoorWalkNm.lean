/-
  image.isName and boltholeref.NameMay: both answer 'nameMay'.
-/
import Derived.Test.YtechpdfcgimkkaaDoorPureImg
import Derived.Outline
namespace Go.Proofs.YtechpdfcgimkkaaDoor
open Go.RowKit Go.Joins
def cOk (c : UInt8) : Bool := okc (c.toNat : Int)
theorem name_next (s : ByteArray) (j : Nat) (hj : j < s.size) (h : (s.data.toList.take j).all cOk = true) : (s.data.toList.take (j + 1)).all cOk = okc ((s[j]'hj).toNat : Int) := by
  rw [List.take_add_one, List.getElem?_eq_getElem (by simpa using hj), List.all_append, h]
  simp [cOk]
  rfl
theorem name_fail (s : ByteArray) (j : Nat) (hj : j < s.size) (h : okc ((s[j]'hj).toNat : Int) = false) : s.data.toList.all cOk = false := by
  rw [List.all_eq_false]
  refine ⟨s.data.toList[j]'(by simpa using hj), List.getElem_mem _, ?_⟩
  simp [cOk]
  exact h
theorem jin_any (n a b : Int) (w : World) : Calls Tryd.prog 63 #[.int .i64 n, .int .i64 a, .int .i64 b] w fun e w' => e = .returned (.bool (decide (a ≤ n) && decide (n ≤ b))) ∧ w' = w := by
  by_cases h0 : a ≤ n
  · go_enter Tryd.func63, Tryd.ntmps63
    go_wp2
    go_ret
    exact ⟨by simp [h0], rfl⟩
  · go_enter Tryd.func63, Tryd.ntmps63
    go_wp2
    go_ret
    exact ⟨by rw [decide_eq_false (show ¬ a ≤ n by omega)]; rfl, rfl⟩
set_option maxHeartbeats 2000000 in
theorem isName_any (s : ByteArray) (w : World) (hs : s.size ≤ maxLen) : Calls Tryd.prog 86 #[.string s] w fun e w' => e = .returned (.bool (nameMay s)) ∧ w' = w := by
  unfold maxLen at hs
  by_cases h1 : (s.size : Int) < 1
  · have hr : Hid (nameMay s = false) := by show _ = _; simp [nameMay]; intros; omega
    go_enter Tryd.func86, Tryd.ntmps86
    go_wp2
    go_ret
    exact ⟨by rw [hr.out]; rfl, rfl⟩
  by_cases h2 : (16 : Int) < s.size
  · have hr : Hid (nameMay s = false) := by show _ = _; simp [nameMay]; intros; omega
    go_enter Tryd.func86, Tryd.ntmps86
    go_wp2
    go_ret
    exact ⟨by rw [hr.out]; rfl, rfl⟩
  have hn : Hid (nameMay s = s.data.toList.all cOk) := by show _ = _; unfold nameMay; rw [decide_eq_true (show 1 ≤ s.size by omega), decide_eq_true (show s.size ≤ 16 by omega)]; rfl
  go_enter Tryd.func86, Tryd.ntmps86
  go_wp2_with fail
  go_loopw [15] (fun v wr => ∃ j : Nat, j ≤ s.size ∧ v = .int .i64 (j : Int) ∧ Hid ((s.data.toList.take j).all cOk = true) ∧ wr = w) (fun v _ => (s.size - intOf v).toNat)
  case atStart => exact ⟨0, by omega, rfl, rfl, rfl⟩
  case round =>
    obtain ⟨j, j1, rfl, j2, rfl⟩ := hrel
    by_cases hj : j < s.size
    · have hnx : Hid _ := name_next s j hj j2.out
      have hfl : Hid _ := name_fail s j hj
      obtain ⟨c, hc⟩ : ∃ c : Nat, (s[j]'hj).toNat = c := ⟨_, rfl⟩
      rw [hc] at hnx hfl
      cases hk : okc (c : Int)
      all_goals by_cases a1 : (97 : Int) ≤ c
      all_goals by_cases a2 : (c : Int) ≤ 122
      all_goals by_cases a3 : (48 : Int) ≤ c
      all_goals by_cases a4 : (c : Int) ≤ 57
      all_goals cases a5 : ((c : Int) == 95)
      all_goals cases a6 : ((c : Int) == 46)
      all_goals (have b5 : ((c : Int) != 95) = _ := congrArg not a5)
      all_goals (have b6 : ((c : Int) != 46) = _ := congrArg not a6)
      all_goals simp only [Bool.not_true, Bool.not_false] at b5 b6
      all_goals first
        | (exfalso; simp [okc, a1, a2, a3, a4, a5, a6] at hk; done)
        | (exfalso; simp at a5 a6; omega)
        | (have HK : Hid (okc (c : Int) = false) := hk
           clear hk
           go_wp2
           go_ret
           exact ⟨by rw [hn.out, hfl.out HK.out]; rfl, rfl⟩)
        | (have HK : Hid (okc (c : Int) = true) := hk
           clear hk
           go_wp2
           go_roundw
           case rel => exact ⟨j + 1, by omega, by go_num, hnx.out.trans HK.out, trivial⟩
           case measure => simp [intOf]; omega)
    · have hr : Hid (nameMay s = true) := by show _ = _; rw [hn.out]; have := j2.out; rwa [List.take_of_length_le (by simp; omega)] at this
      go_wp2
      go_ret
      exact ⟨by rw [hr.out]; rfl, by first | rfl | trivial⟩
set_option maxHeartbeats 2000000 in
theorem nameMay_any (s : ByteArray) (w : World) (hs : s.size ≤ maxLen) : Calls Tryd.prog 106 #[.string s] w fun e w' => e = .returned (.bool (nameMay s)) ∧ w' = w := by
  unfold maxLen at hs
  by_cases h1 : (s.size : Int) < 1
  · have hi : (decide ((1 : Int) ≤ s.size) && decide ((s.size : Int) ≤ 16)) = false := by rw [decide_eq_false (by omega)]; rfl
    have hr : Hid (nameMay s = false) := by show _ = _; simp [nameMay]; intros; omega
    go_enter Tryd.func106, Tryd.ntmps106
    go_wp2_with (go_at_call 63; refine (jin_any _ _ _ _).mono ?_; rw [hi]; rintro e w1 ⟨rfl, hw1⟩; obtain rfl := hw1.symm)
    go_ret
    exact ⟨by rw [hr.out]; rfl, rfl⟩
  by_cases h2 : (16 : Int) < s.size
  · have hi : (decide ((1 : Int) ≤ s.size) && decide ((s.size : Int) ≤ 16)) = false := by rw [decide_eq_false (show ¬ (s.size : Int) ≤ 16 by omega)]; simp
    have hr : Hid (nameMay s = false) := by show _ = _; simp [nameMay]; intros; omega
    go_enter Tryd.func106, Tryd.ntmps106
    go_wp2_with (go_at_call 63; refine (jin_any _ _ _ _).mono ?_; rw [hi]; rintro e w1 ⟨rfl, hw1⟩; obtain rfl := hw1.symm)
    go_ret
    exact ⟨by rw [hr.out]; rfl, rfl⟩
  have hi : (decide ((1 : Int) ≤ s.size) && decide ((s.size : Int) ≤ 16)) = true := by rw [decide_eq_true (show (1 : Int) ≤ s.size by omega), decide_eq_true (show (s.size : Int) ≤ 16 by omega)]; rfl
  have hn : Hid (nameMay s = s.data.toList.all cOk) := by show _ = _; unfold nameMay; rw [decide_eq_true (show 1 ≤ s.size by omega), decide_eq_true (show s.size ≤ 16 by omega)]; rfl
  go_enter Tryd.func106, Tryd.ntmps106
  go_wp2_with (go_at_call 63; refine (jin_any _ _ _ _).mono ?_; rw [hi]; rintro e w1 ⟨rfl, hw1⟩; obtain rfl := hw1.symm)
  clear hi
  go_loopw [3] (fun v wr => ∃ j : Nat, j ≤ s.size ∧ v = .int .i64 (j : Int) ∧ Hid ((s.data.toList.take j).all cOk = true) ∧ wr = w) (fun v _ => (s.size - intOf v).toNat)
  case atStart => exact ⟨0, by omega, rfl, rfl, rfl⟩
  case round =>
    obtain ⟨j, j1, rfl, j2, rfl⟩ := hrel
    by_cases hj : j < s.size
    · have hnx : Hid _ := name_next s j hj j2.out
      have hfl : Hid _ := name_fail s j hj
      obtain ⟨c, hc⟩ : ∃ c : Nat, (s[j]'hj).toNat = c := ⟨_, rfl⟩
      rw [hc] at hnx hfl
      cases hk : okc (c : Int)
      all_goals by_cases a1 : (97 : Int) ≤ c
      all_goals by_cases a2 : (c : Int) ≤ 122
      all_goals by_cases a3 : (48 : Int) ≤ c
      all_goals by_cases a4 : (c : Int) ≤ 57
      all_goals cases a5 : ((c : Int) == 95)
      all_goals cases a6 : ((c : Int) == 46)
      all_goals (have b5 : ((c : Int) != 95) = _ := congrArg not a5)
      all_goals (have b6 : ((c : Int) != 46) = _ := congrArg not a6)
      all_goals simp only [Bool.not_true, Bool.not_false] at b5 b6
      all_goals first
        | (exfalso; simp [okc, a1, a2, a3, a4, a5, a6] at hk; done)
        | (exfalso; simp at a5 a6; omega)
        | (have HK : Hid (okc (c : Int) = false) := hk
           clear hk
           go_wp2
           go_ret
           exact ⟨by rw [hn.out, hfl.out HK.out]; rfl, rfl⟩)
        | (have HK : Hid (okc (c : Int) = true) := hk
           clear hk
           go_wp2
           go_roundw
           case rel => exact ⟨j + 1, by omega, by go_num, hnx.out.trans HK.out, trivial⟩
           case measure => simp [intOf]; omega)
    · have hr : Hid (nameMay s = true) := by show _ = _; rw [hn.out]; have := j2.out; rwa [List.take_of_length_le (by simp; omega)] at this
      go_wp2
      go_ret
      exact ⟨by rw [hr.out]; rfl, by first | rfl | trivial⟩
end Go.Proofs.YtechpdfcgimkkaaDoor
