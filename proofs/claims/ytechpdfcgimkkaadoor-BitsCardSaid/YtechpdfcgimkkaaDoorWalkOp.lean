/-
  package step: operations; how a run ends ahead of an instruction.
-/
import Derived.Test.YtechpdfcgimkkaaDoorWalkPr
import Derived.Test.YtechpdfcgimkkaaDoorWalkSm3
import Derived.Laws.Closers25b
namespace Go.Proofs.YtechpdfcgimkkaaDoor
open Go.RowKit Go.Joins Isa
set_option maxHeartbeats 1000000 in
theorem operate_any (k a b : Int) (w : World) (k1 : 7 ≤ k) (k2 : k ≤ 13) (a1 : -1099511627776 ≤ a) (a2 : a ≤ 1099511627776) (b1 : -1099511627776 ≤ b) (b2 : b ≤ 1099511627776) : Calls Tryd.prog 101 #[.int .i64 k, .int .i64 a, .int .i64 b] w fun e w' => e = .returned (.int .i64 (operN k a b)) ∧ ∃ m, w' = w.drewN m := by
  have hk : k = 7 ∨ k = 8 ∨ k = 9 ∨ k = 10 ∨ k = 11 ∨ k = 12 ∨ k = 13 := by omega
  have PR : Hid (∀ w, Calls Tryd.prog 125 #[.int .i64 a, .int .i64 b] w fun e w' => e = .returned (.int .i64 (foldN (a * b))) ∧ ∃ m, w' = w.drewN m) := fun w => product_any a b w a1 a2 b1 b2
  have FO : Hid (∀ n w, -9223372036854775808 ≤ n → n ≤ 9223372036854775807 → Calls Tryd.prog 99 #[.int .i64 n] w fun e w' => e = .returned (.int .i64 (foldN n)) ∧ w' = w) := fun n w h1 h2 => fold_any n w h1 h2
  have o1 := bits_lo_i64 .and a b
  have o2 := bits_hi_i64 .and a b
  have o3 := bits_lo_i64 .or a b
  have o4 := bits_hi_i64 .or a b
  have o5 := bits_lo_i64 .xor a b
  have o6 := bits_hi_i64 .xor a b
  clear k1 k2
  rcases hk with rfl | rfl | rfl | rfl | rfl | rfl | rfl
  · rw [show operN 7 a b = foldN (a + b) by simp [operN]]
    have u1 : -9223372036854775808 ≤ a + b := by omega
    have u2 : a + b ≤ 9223372036854775807 := by omega
    go_enter Tryd.func101, Tryd.ntmps101
    go_wp2_with (first | (go_at_call 99; refine (FO.out _ _ (by assumption) (by assumption)).mono ?_; rintro e w' ⟨rfl, rfl⟩))
    go_ret
    exact ⟨rfl, 0, rfl⟩
  · rw [show operN 8 a b = foldN (a - b) by simp [operN]]
    have u1 : -9223372036854775808 ≤ a - b := by omega
    have u2 : a - b ≤ 9223372036854775807 := by omega
    go_enter Tryd.func101, Tryd.ntmps101
    go_wp2_with (first | (go_at_call 99; refine (FO.out _ _ (by assumption) (by assumption)).mono ?_; rintro e w' ⟨rfl, rfl⟩))
    go_ret
    exact ⟨rfl, 0, rfl⟩
  · rw [show operN 9 a b = foldN (a * b) by simp [operN]]
    generalize foldN (a * b) = ab at *
    go_enter Tryd.func101, Tryd.ntmps101
    go_wp2_with (first | (go_at_call 125; refine (PR.out _).mono ?_; rintro e w1 ⟨rfl, m, rfl⟩))
    go_ret
    exact ⟨rfl, _, rfl⟩
  · rw [show operN 10 a b = foldN (bits .and .i64 a b) by simp [operN]]
    go_enter Tryd.func101, Tryd.ntmps101
    go_wp2_with (first | (go_at_call 99; refine (FO.out _ _ (by assumption) (by assumption)).mono ?_; rintro e w' ⟨rfl, rfl⟩))
    go_ret
    exact ⟨rfl, 0, rfl⟩
  · rw [show operN 11 a b = foldN (bits .or .i64 a b) by simp [operN]]
    go_enter Tryd.func101, Tryd.ntmps101
    go_wp2_with (first | (go_at_call 99; refine (FO.out _ _ (by assumption) (by assumption)).mono ?_; rintro e w' ⟨rfl, rfl⟩))
    go_ret
    exact ⟨rfl, 0, rfl⟩
  · rw [show operN 12 a b = foldN (bits .xor .i64 a b) by simp [operN]]
    go_enter Tryd.func101, Tryd.ntmps101
    go_wp2_with (first | (go_at_call 99; refine (FO.out _ _ (by assumption) (by assumption)).mono ?_; rintro e w' ⟨rfl, rfl⟩))
    go_ret
    exact ⟨rfl, 0, rfl⟩
  · by_cases hab : a < b
    · rw [show operN 13 a b = 1 by unfold operN; simp [hab]]
      go_enter Tryd.func101, Tryd.ntmps101
      go_wp2
      go_ret
      exact ⟨rfl, 0, rfl⟩
    · rw [show operN 13 a b = 0 by unfold operN; simp [hab]]
      go_enter Tryd.func101, Tryd.ntmps101
      go_wp2
      go_ret
      exact ⟨rfl, 0, rfl⟩
/-- How a run ends ahead of an instruction; 0: it goes on. -/
def endN (rs : List Vl) (mem : Int) (tabs : List (List Int)) (k a b n : Int) : Int :=
  if k = 2 then 2 else if k = 1 then 1 else if guardB rs k a b then 4 else if thereB rs mem tabs k a n then 0 else 2
set_option maxRecDepth 100000 in
set_option maxHeartbeats 2000000 in
theorem ahead_any (gm : Nat) (rs : List Vl) (aM : Option Addr) (lM cM : Nat) (vT vI vO : Value) (tabs : List (List Int)) (us : List Value) (pc k d a b n : Int) (l : Bool) (w : World) (h : MachAt w gm rs (.slice aM lM cM) vT vI vO pc) (a0 : 0 ≤ a) (a1 : a < 8) (b0 : 0 ≤ b) (b1 : b < 8)
    (hT : ListAt w vcell 1 vT us) (hU' : us.length = tabs.length) (hE : ∀ (j : Nat) (u : Value) (t : List Int), us[j]? = some u → tabs[j]? = some t → ListAt w icell 1 u t)
    (hr : ∀ v ∈ rs, -1099511627776 ≤ v.n ∧ v.n ≤ 1099511627776) (n0 : -32768 ≤ n) (n1 : n ≤ 32767) (hlM : lM ≤ maxLen) :
    Calls Tryd.prog 60 #[.pointer (some ⟨gm, 0, none⟩), .agg #[.int .i64 k, .int .i64 d, .int .i64 a, .int .i64 b, .int .i64 n, .bool l]] w fun e w' => e = .returned (.int .i64 (endN rs lM tabs k a b n)) ∧ Below w.heap.size w w' := by
  have GU : Hid (∀ w', Below w.heap.size w w' → Calls Tryd.prog 97 #[.pointer (some ⟨gm, 0, none⟩), .agg #[.int .i64 k, .int .i64 d, .int .i64 a, .int .i64 b, .int .i64 n, .bool l]] w' fun e w2 => e = .returned (.bool (guardB rs k a b)) ∧ Below w'.heap.size w' w2) := fun w' hb => guarded_any gm rs _ vT vI vO pc k d a b n l w' (h.up hb) a0 a1 b0 b1
  have TH : Hid (∀ w', Below w.heap.size w w' → Calls Tryd.prog 98 #[.pointer (some ⟨gm, 0, none⟩), .agg #[.int .i64 k, .int .i64 d, .int .i64 a, .int .i64 b, .int .i64 n, .bool l]] w' fun e w2 => e = .returned (.bool (thereB rs lM tabs k a n)) ∧ Below w'.heap.size w' w2) := fun w' hb => there_any gm rs aM lM cM vT vI vO tabs us pc k d a b n l w' (h.up hb) a0 a1 (hT.stays (Nat.le_refl _) hb) hU' (fun j u t h1 h2 => (hE j u t h1 h2).stays (Nat.le_refl _) hb) hr n0 n1 hlM
  have HN : Hid (endN rs lM tabs k a b n = if k = 2 then 2 else if k = 1 then 1 else if guardB rs k a b then 4 else if thereB rs lM tabs k a n then 0 else 2) := rfl
  have hg := h.lt
  generalize endN rs lM tabs k a b n = out at *
  generalize guardB rs k a b = g at *
  generalize thereB rs lM tabs k a n = t at *
  have BA : Hid (Below w.heap.size w (w.alloc (.cells #[.int .i64 k, .int .i64 d, .int .i64 a, .int .i64 b, .int .i64 n, .bool l] 61))) := (Below.refl _ _).alloc (Nat.le_refl _) _
  clear hT hU' hE hr h
  by_cases k2 : k = 2
  · rw [if_pos k2] at HN
    subst k2
    go_enter Tryd.func60, Tryd.ntmps60
    go_wp2
    go_ret
    exact ⟨by rw [HN.out]; rfl, by go_grown⟩
  by_cases k1 : k = 1
  · rw [if_neg k2, if_pos k1] at HN
    subst k1
    go_enter Tryd.func60, Tryd.ntmps60
    go_wp2
    go_ret
    exact ⟨by rw [HN.out]; rfl, by go_grown⟩
  rw [if_neg k2, if_neg k1] at HN
  have d2 : (k == 2) = false := by simp [k2]
  have d1 : (k == 1) = false := by simp [k1]
  clear k1 k2
  cases g
  · have TH' : Hid (∀ w', Below w.heap.size w w' → w.heap.size < w'.heap.size → Calls Tryd.prog 98 #[.pointer (some ⟨gm, 0, none⟩), .agg #[.int .i64 k, .int .i64 d, .int .i64 a, .int .i64 b, .int .i64 n, .bool l]] w' fun e w2 => e = .returned (.bool t) ∧ Below w.heap.size w w2) := fun w' hb _ => (TH.out w' hb).mono fun e w2 hh => ⟨hh.1, hb.trans (hh.2.mono hb.size)⟩
    have GU' : Hid (Calls Tryd.prog 97 #[.pointer (some ⟨gm, 0, none⟩), .agg #[.int .i64 k, .int .i64 d, .int .i64 a, .int .i64 b, .int .i64 n, .bool l]] (w.alloc (.cells #[.int .i64 k, .int .i64 d, .int .i64 a, .int .i64 b, .int .i64 n, .bool l] 61)) fun e w1 => e = .returned (.bool false) ∧ Below w.heap.size w w1 ∧ w.heap.size < w1.heap.size ∧ ∀ o, w1.cell? ⟨w.heap.size, o, none⟩ = (#[.int .i64 k, .int .i64 d, .int .i64 a, .int .i64 b, .int .i64 n, .bool l] : Array Value)[o]?) :=
      (GU.out _ BA.out).mono fun e w1 hh => ⟨hh.1, BA.out.trans (hh.2.mono (by simp)), by have := hh.2.size; simp at this; omega, fun o => by rw [hh.2.cell (p := ⟨w.heap.size, o, none⟩) (by simp)]; exact World.cell?_alloc_new _ _ _ _⟩
    cases t
    all_goals
      go_enter Tryd.func60, Tryd.ntmps60
      go_wp2_with (first | (go_at_call 97; refine GU'.out.mono ?_; rintro e w1 ⟨rfl, hb1, hz1, hc1⟩; have c0 := hc1 0; have c1 := hc1 1; have c2 := hc1 2; have c3 := hc1 3; have c4 := hc1 4; have c5 := hc1 5; simp at c0 c1 c2 c3 c4 c5; have HB1 : Hid (Below w.heap.size w w1) := hb1; clear hb1 hc1) | (go_at_call 98; refine (TH'.out _ HB1.out hz1).mono ?_; rintro e w2 ⟨rfl, hb2⟩))
      go_ret
      exact ⟨by rw [HN.out]; rfl, hb2⟩
  · go_enter Tryd.func60, Tryd.ntmps60
    go_wp2_with (first | (go_at_call 97; refine (GU.out _ BA.out).mono ?_; rintro e w1 ⟨rfl, hb1⟩))
    go_ret
    exact ⟨by rw [HN.out]; rfl, BA.out.trans (hb1.mono (by simp))⟩
end Go.Proofs.YtechpdfcgimkkaaDoor
