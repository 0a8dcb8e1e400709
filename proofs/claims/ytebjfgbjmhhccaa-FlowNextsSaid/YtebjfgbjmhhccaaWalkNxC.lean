/-
  package flow: Nexts.
-/
import Derived.Test.YtebjfgbjmhhccaaWalkWyC
import Derived.Test.YtebjfgbjmhhccaaSortKitC
import Derived.Deep.RegionWith
import Derived.Deep.RegionHeld3
import Derived.Deep.DeepCutAuto
namespace Go.Proofs.Ytebjfgbjmhhccaa
open Go.RowKit Go.Joins
def nxE (f : Fl) (n : Int) : Int := if n < 0 ∨ f.blocks.length ≤ n then 6 else 0
def nxL (f : Fl) (n : Int) : List Int := (nextsN f n).getD []
theorem ways_len (f : Fl) (b : Bk) (h : f.small) : (waysN f b).length ≤ 17592186044416 := by
  unfold waysN
  split
  · simp
  · split
    · simp
    · unfold tblN
      split
      · simp
      · split
        · rename_i i _ hi
          have hl : i.n.toNat < f.tables.length := by omega
          rw [List.getD_eq_getElem?_getD, List.getElem?_eq_getElem hl]
          have := h _ (List.getElem_mem hl)
          simp; omega
        · simp
set_option maxRecDepth 100000 in
set_option maxHeartbeats 2000000 in
theorem nexts_any (f : Fl) (vB vT vF : Value) (n : Int) (w : World) (hF : FlAt w vB vT vF f) (hs : f.small) :
    Calls Try.prog 6 #[.agg #[vB, vT, vF], .int .i64 n] w fun e w' => ∃ v, e = .returned (.tuple #[v, .int .i64 (nxE f n)]) ∧ w'.ownsRow w.heap.size 3 1 v (nxL f n).length (flat icell (nxL f n)) ∧ Below w.heap.size w w' := by
  have HF : Hid _ := hF
  have HS : Hid _ := hs
  obtain ⟨us, hBx, hBl, hBe⟩ := hF.blocks
  obtain ⟨aB, cB, rfl, -⟩ := hBx.form
  obtain ⟨vs, hTx, -, -⟩ := hF.tables
  obtain ⟨aT, cT, rfl, -⟩ := hTx.form
  obtain ⟨aF, cF, rfl, -⟩ := hF.firsts.form
  have HBX : Hid (ListAt w BkV.cells 14 (.slice aB us.length cB) us) := hBx
  have HBL : Hid (us.length = f.blocks.length) := hBl
  have HBE : Hid (∀ (j : Nat) (u : BkV) (b : Bk), us[j]? = some u → f.blocks[j]? = some b → BkAt w u b) := hBe
  clear hF hs hBx hBl hBe hTx
  by_cases hn : n < 0 ∨ us.length ≤ n
  · have h1 : nxE f n = 6 := by unfold nxE; rw [if_pos (by rw [← HBL.out]; exact hn)]
    have h2 : nxL f n = [] := by unfold nxL nextsN; rw [if_pos (by rw [← HBL.out]; exact hn)]; rfl
    rw [h1, h2]
    have hd : n < 0 ∨ (¬ n < 0 ∧ (us.length : Int) ≤ n) := by omega
    clear hn h1 h2
    rcases hd with hd | ⟨hd, hd2⟩
    all_goals
      go_enter Try.func6, Try.ntmps6
      go_wp2
      go_ret2
      exact ⟨_, rfl, World.ownsRow_nil _ _ _ _, by go_grown⟩
  · obtain ⟨N, rfl⟩ := Int.eq_ofNat_of_zero_le (show 0 ≤ n by omega)
    have hN : N < us.length := by omega
    obtain ⟨u, hu⟩ : ∃ u, us[N]? = some u := ⟨_, List.getElem?_eq_getElem hN⟩
    obtain ⟨b, hb⟩ : ∃ b, f.blocks[N]? = some b := ⟨_, List.getElem?_eq_getElem (by rw [← HBL.out]; exact hN)⟩
    have h1 : nxE f N = 0 := by unfold nxE; rw [if_neg (by rw [← HBL.out]; exact hn)]
    have h2 : nxL f N = risen (waysN f b) := by unfold nxL nextsN; rw [if_neg (by rw [← HBL.out]; exact hn), Int.toNat_natCast, hb]; rfl
    rw [h1, h2]
    have hbk := HBE.out N u b hu hb
    obtain ⟨bB, oB, capB, hv, d1, d2, d3, d4⟩ := HBX.out.resolve_left (by rintro ⟨_, _, _, h⟩; rw [h] at hu; simp at hu)
    cases hv
    have q := d4 N u hu
    have WY : Hid (∀ W, Below w.heap.size w W → Calls Try.prog 15 #[.agg #[.slice (some ⟨bB, oB, none⟩) us.length cB, .slice aT vs.length cT, .slice aF f.firsts.length cF], u.val] W fun e w' => ∃ v, e = .returned v ∧ w'.ownsRow W.heap.size 3 1 v (waysN f b).length (flat icell (waysN f b)) ∧ Below W.heap.size W w') := fun W hb => ways_any f _ _ _ u b W (HF.out.stays (Nat.le_refl _) hb) (hbk.stays (Nat.le_refl _) hb) HS.out
    have hwl := ways_len f b HS.out
    obtain ⟨fn, start, vC, vA, ⟨lk, ld, la, lb, ln, ll⟩, ends, dst, els, vL⟩ := u
    have q0 := q 0 _ rfl
    have q1 := q 1 _ rfl
    have q2 := q 2 _ rfl
    have q3 := q 3 _ rfl
    have q4 := q 4 _ rfl
    have q5 := q 5 _ rfl
    have q6 := q 6 _ rfl
    have q7 := q 7 _ rfl
    have q8 := q 8 _ rfl
    have q9 := q 9 _ rfl
    have q10 := q 10 _ rfl
    have q11 := q 11 _ rfl
    have q12 := q 12 _ rfl
    have q13 := q 13 _ rfl
    rw [Nat.add_zero] at q0
    have hn0 : ¬ (N : Int) < 0 := by omega
    have hn1 : ¬ (us.length : Int) ≤ (N : Int) := by omega
    have hn2 : (N : Int) < (us.length : Int) := by omega
    unfold BkV.val at WY
    simp only at WY
    generalize waysN f b = l at *
    clear q d4 hu hb h1 h2 hbk hn HBE HBX HF
    go_enter Try.func6, Try.ntmps6
    go_upto_region 3 with fail
    have HQ : Hid (∀ W m, Below w.heap.size w W → ∀ e w', (∃ v, e = Ending.returned v ∧ w'.ownsRow W.heap.size 3 1 v l.length (flat icell l) ∧ Below W.heap.size W w') → w.heap.size ≤ m → ∃ a n c, e = Ending.returned (.slice a n c) ∧ Hid (w'.ownsRow w.heap.size 3 1 (.slice a n c) l.length (flat icell l)) ∧ Hid (Below w.heap.size w w')) := by
      rintro W m hb e w' ⟨v, rfl, ho, hb2⟩ _
      obtain ⟨a, n, c, rfl⟩ := row_form ho
      exact ⟨a, n, c, rfl, ⟨ho.1, ho.2.imp id fun ⟨g, cap, cur, e, q1, q2⟩ => ⟨g, cap, cur, e, by have := hb.size; omega, q2⟩⟩, hb.trans (hb2.mono hb.size)⟩
    go_cut [6] (fun v wc => ∃ a n c, v = .slice a n c ∧ Hid (wc.ownsRow w.heap.size 3 1 (.slice a n c) l.length (flat icell l)) ∧ Hid (Below w.heap.size w wc))
    case first =>
      go_region_with (first | (go_at_call 15; refine (WY.out _ (by go_grown)).mono ?_; rintro e w4 hh; obtain ⟨a4, n4, c4, rfl, ho4, hb4⟩ := HQ.out _ _ (by go_grown) e w4 hh (Nat.le_refl _)))
      all_goals (try go_wp2)
      all_goals go_meet
      all_goals exact ⟨a4, n4, c4, rfl, ho4, hb4⟩
    case rest =>
      obtain ⟨a4, n4, c4, rfl, ho4, hb4⟩ := hcut
      go_wp2_with fail
      refine Calls.mono (sort_own wc w.heap.size _ l ho4.out (by omega)) ?_
      rintro e w5 ⟨rfl, ho5, hb5⟩
      have hl5 : (l.mergeSort fun x y => decide (x ≤ y)).length = l.length := List.length_mergeSort l
      go_wp2_with fail
      refine Calls.mono (compact_own w5 w.heap.size _ (l.mergeSort fun x y => decide (x ≤ y)) (by rw [hl5]; exact ho5) (by rw [hl5]; omega)) ?_
      rintro e w6 ⟨v6, rfl, ho6, hb6⟩
      go_wp2_with fail
      go_ret2
      exact ⟨_, rfl, ho6, hb4.out.trans (hb5.trans hb6)⟩
end Go.Proofs.Ytebjfgbjmhhccaa
