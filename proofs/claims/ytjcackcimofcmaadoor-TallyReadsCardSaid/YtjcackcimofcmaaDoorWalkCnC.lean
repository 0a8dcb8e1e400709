/-
  boltholeref.countIn answers 'cntN'.
-/
import Derived.Test.YtjcackcimofcmaaDoorPureNumC
import Derived.Test.YtjcackcimofcmaaDoorMCC
import Derived.Outline
import Derived.Lib.IndexBytes
namespace Go.Proofs.YtjcackcimofcmaaDoor
open Go.RowKit Go.Joins
theorem str_len (s : ByteArray) : s.data.toList.length = s.size := by rw [Array.length_toList]; rfl
theorem dec_next (s : ByteArray) (j m : Nat) (hj : j < s.size) (h : Lib.decFrom 0 (s.data.toList.take j) = some m) :
    Lib.decFrom 0 (s.data.toList.take (j + 1)) = (Lib.digitVal (s[j]'hj)).map fun d => m * 10 + d := by
  rw [List.take_add_one, List.getElem?_eq_getElem (by simpa using hj)]
  show Lib.decFrom 0 (_ ++ [_]) = _
  rw [decFrom_app, h]
  rfl
theorem dec_fail : ∀ (l : List UInt8) (acc j : Nat), Lib.decFrom acc (l.take j) = none → Lib.decFrom acc l = none
  | [], acc, j, h => by simpa using h
  | b :: r, acc, 0, h => by simp [Lib.decFrom] at h
  | b :: r, acc, j + 1, h => by
    simp only [List.take_succ_cons, Lib.decFrom] at h ⊢
    split at h
    · exact dec_fail r _ j h
    · rfl
theorem dec_lt (l : List UInt8) (j m : Nat) (h : Lib.decFrom 0 (l.take j) = some m) (hj : j ≤ 10) : m < 10000000000 := by
  have h1 := Lib.decFrom_lt _ _ _ h
  have h2 : (10 : Nat) ^ (l.take j).length ≤ 10 ^ 10 := Nat.pow_le_pow_right (by decide) (by rw [List.length_take]; omega)
  have h3 : (10 : Nat) ^ 10 = 10000000000 := by decide
  omega
set_option maxHeartbeats 2000000 in
theorem countIn_any (s : ByteArray) (w : World) (hs : s.size ≤ maxLen) : Calls Tryd.prog 13 #[.string s] w fun e w' => e = .returned (.int .i64 (cntN s.data.toList)) ∧ w' = w := by
  unfold maxLen at hs
  have hl := str_len s
  by_cases h0 : s.size = 0
  · have hr : cntN s.data.toList = -1 := by unfold cntN; rw [if_pos (Or.inl (by omega))]
    rw [hr]
    have h1 : ((s.size : Int) == 0) = true := by rw [h0]; rfl
    clear hr hl
    go_enter Tryd.func13, Tryd.ntmps13
    go_wp2
    go_ret
    exact ⟨rfl, rfl⟩
  have e0 : ((s.size : Int) == 0) = false := by rw [beq_eq_false_iff_ne]; omega
  by_cases h1 : (10 : Int) < s.size
  · have hr : cntN s.data.toList = -1 := by unfold cntN; rw [if_pos (Or.inr (Or.inl (by omega)))]
    rw [hr]
    clear hr hl
    go_enter Tryd.func13, Tryd.ntmps13
    go_wp2
    go_ret
    exact ⟨rfl, rfl⟩
  have hp : 0 < s.size := by omega
  have hd : s.data.toList.head? = some (s[0]'hp) := by
    rw [List.head?_eq_getElem?]; exact Lib.data_getElem? s 0 hp
  have hz : (s[0]'hp = 48 ∧ s.data.toList ≠ [48]) ∨ (¬ s[0]'hp = 48) ∨ (s.data.toList = [48]) := by
    by_cases a : s[0]'hp = 48
    · by_cases b : s.data.toList = [48]
      · exact Or.inr (Or.inr b)
      · exact Or.inl ⟨a, b⟩
    · exact Or.inr (Or.inl a)
  rcases hz with ⟨hz, hn⟩ | hz
  · have hr : cntN s.data.toList = -1 := by unfold cntN; rw [if_pos (Or.inr (Or.inr ⟨by rw [hd, hz], hn⟩))]
    rw [hr]
    have hz' : (s[0]'hp).toNat = 48 := by rw [hz]; rfl
    have hn' : (s.toList == [48]) = false := by rw [ByteArray.toList_eq, beq_eq_false_iff_ne]; exact hn
    clear hr hl hd hz hn
    go_enter Tryd.func13, Tryd.ntmps13
    go_wp2
    go_ret
    exact ⟨rfl, rfl⟩
  have hr : Hid (cntN s.data.toList = match Lib.decFrom 0 s.data.toList with | some n => if 1073741824 < n then -1 else (n : Int) | none => -1) := by
    show _ = _
    unfold cntN
    refine if_neg ?_
    rintro (h | h | ⟨h, h'⟩)
    · omega
    · omega
    · rcases hz with hz | hz
      · rw [hd] at h; exact hz (Option.some.inj h)
      · exact h' hz
  have hz' : (((s[0]'hp).toNat : Int) == 48) = false ∨ ((((s[0]'hp).toNat : Int) == 48) = true ∧ (s.toList == [48]) = true) := by
    rcases hz with hz | hz
    · left; rw [beq_eq_false_iff_ne]; intro h; exact hz (UInt8.toNat_inj.1 (by simp; omega))
    · right
      rw [hz] at hd
      have := Option.some.inj hd
      rw [← this]
      exact ⟨rfl, by rw [ByteArray.toList_eq, hz]; rfl⟩
  have HL : Hid (s.data.toList.length = s.size) := hl
  clear hz hd hl
  generalize cntN s.data.toList = C at *
  rcases hz' with hz | ⟨hz, hz2⟩
  all_goals
    go_enter Tryd.func13, Tryd.ntmps13
    go_wp2_with fail
    go_loopw [3, 4] (fun n v wr => ∃ j m : Nat, j ≤ s.size ∧ v = .int .i64 (j : Int) ∧ n = .int .i64 (m : Int) ∧ Hid (Lib.decFrom 0 (s.data.toList.take j) = some m) ∧ m < 10000000000 ∧ wr = w) (fun _ v _ => (s.size - intOf v).toNat)
    case atStart => exact ⟨0, 0, by omega, rfl, rfl, rfl, by decide, rfl⟩
    case round =>
      obtain ⟨j, m, j1, rfl, rfl, j2, j3, rfl⟩ := hrel
      by_cases hj : j < s.size
      · have hnx : Hid _ := dec_next s j m hj j2.out
        have hlt : Hid _ := dec_lt s.data.toList (j + 1)
        have hfl : Hid _ := dec_fail s.data.toList 0 (j + 1)
        obtain ⟨c, hc⟩ : ∃ c : Nat, (s[j]'hj).toNat = c := ⟨_, rfl⟩
        have hcd : Hid (∀ b : UInt8, b.toNat = c → Lib.digitVal b = if 48 ≤ c ∧ c ≤ 57 then some (c - 48) else none) := fun b hb => by unfold Lib.digitVal; rw [hb]
        have hd : Hid _ := hcd.out (s[j]'hj) hc
        by_cases c1 : (c : Int) < 48
        · have hno : Hid (C = -1) := by
            have e := hnx.out
            rw [hd.out, if_neg (by omega)] at e
            have := hfl.out e
            show _ = _
            rw [hr.out, this]
          go_wp2
          go_ret
          exact ⟨by rw [hno.out]; rfl, rfl⟩
        by_cases c2 : (57 : Int) < c
        · have hno : Hid (C = -1) := by
            have e := hnx.out
            rw [hd.out, if_neg (by omega)] at e
            have := hfl.out e
            show _ = _
            rw [hr.out, this]
          go_wp2
          go_ret
          exact ⟨by rw [hno.out]; rfl, rfl⟩
        obtain ⟨d, rfl⟩ : ∃ d, c = 48 + d := ⟨c - 48, by omega⟩
        have hyes : Hid (Lib.decFrom 0 (s.data.toList.take (j + 1)) = some (m * 10 + d)) := by
          have e := hnx.out
          rw [hd.out, if_pos (by omega)] at e
          show _ = _
          simpa using e
        have hm : m * 10 + d < 10000000000 := hlt.out _ hyes.out (by omega)
        go_wp2
        go_roundw
        case rel => exact ⟨j + 1, m * 10 + d, by omega, by go_num, by go_num, hyes.out, hm, trivial⟩
        case measure => simp [intOf]; omega
      · have hjs : j = s.size := by omega
        have hall : Lib.decFrom 0 s.data.toList = some m := by have := j2.out; rwa [List.take_of_length_le (by have := HL.out; omega)] at this
        have hC : Hid (C = if 1073741824 < m then -1 else (m : Int)) := by show _ = _; rw [hr.out, hall]
        by_cases hm : (1073741824 : Int) < m
        · go_wp2
          go_ret
          exact ⟨by rw [hC.out, if_pos (by omega)]; rfl, by first | rfl | trivial⟩
        · go_wp2
          go_ret
          exact ⟨by rw [hC.out, if_neg (by omega)]; rfl, by first | rfl | trivial⟩
end Go.Proofs.YtjcackcimofcmaaDoor
