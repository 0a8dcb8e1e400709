/-
  tally.number: 'cntN' again, by the library's Atoi and Itoa.
-/
import Derived.Test.YtjcackcimofcmaaDoorPureNumC
import Derived.Test.YtjcackcimofcmaaDoorShTallyC
import Derived.Test.YtjcackcimofcmaaDoorMCC
import Derived.Lib.AppendIntMem
import Derived.Outline
namespace Go.Proofs.YtjcackcimofcmaaDoor
open Go.RowKit Go.Joins Go.Sort
/-- What the walks ask of the variables that the row lists. -/
structure TalAt (w : World) : Prop where
  p10 : Lib.TabIs Tryd.prog w "internal/strconv.uint64pow10" .u64 Lib.pow10Tab
  es : ∃ te pe, w.cell? ⟨2, 0, none⟩ = some (.iface te pe)
  er : ∃ te pe, w.cell? ⟨3, 0, none⟩ = some (.iface te pe)
  ml : ∃ m, w.cell? ⟨0, 0, none⟩ = some (.int .i64 m)
theorem TalAt.stays {w W : World} {B : Nat} (h : TalAt w) (hB : w.heap.size ≤ B) (hb : Below B w W) : TalAt W := by
  refine ⟨Lib.tabBelow_of_tabIs h.p10 W (hb.mono hB), ?_, ?_, ?_⟩
  · obtain ⟨te, pe, hc⟩ := h.es
    exact ⟨te, pe, by rw [hb.cell (Nat.lt_of_lt_of_le (World.block_lt_of_cell? _ _ hc) hB)]; exact hc⟩
  · obtain ⟨te, pe, hc⟩ := h.er
    exact ⟨te, pe, by rw [hb.cell (Nat.lt_of_lt_of_le (World.block_lt_of_cell? _ _ hc) hB)]; exact hc⟩
  · obtain ⟨m, hc⟩ := h.ml
    exact ⟨m, by rw [hb.cell (Nat.lt_of_lt_of_le (World.block_lt_of_cell? _ _ hc) hB)]; exact hc⟩
theorem nb_no : max (-1 : Int) 0 = 0 ∧ decide ((0 : Int) ≤ -1) = false := by decide
set_option maxHeartbeats 2000000 in
theorem number_any (s : ByteArray) (w : World) (ht : TalAt w) (hs : s.size ≤ 281474976710656) :
    Calls Tryd.prog 17 #[.string s] w fun e w' => e = .returned (.tuple #[.int .i64 (max (cntN s.data.toList) 0), .bool (decide (0 ≤ cntN s.data.toList))]) ∧ Below w.heap.size w w' := by
  rw [← libN_eq]
  rcases ha : Lib.atoiAll s.data.toList with v | _ | _
  rotate_left
  · have hr : libN s.data.toList = -1 := by unfold libN; rw [ha]
    rw [hr, nb_no.1, nb_no.2]
    obtain ⟨te, pe, hc⟩ := ht.es
    have AC := sh_strconv_Atoi_bad s hs (fun v h => by rw [ha] at h; cases h) (fun h => by rw [ha] at h; cases h) _ w hc (Or.inr ⟨te, pe, rfl⟩)
    clear hr ha hc ht
    go_enter Tryd.func17, Tryd.ntmps17
    go_wp2_with fail
    refine Calls.mono AC ?_
    rintro e w2 ⟨N, rfl, -, -, hb⟩
    go_wp2
    go_ret2
    exact ⟨rfl, hb⟩
  · have hr : libN s.data.toList = -1 := by unfold libN; rw [ha]
    rw [hr, nb_no.1, nb_no.2]
    obtain ⟨te, pe, hc⟩ := ht.er
    have AC := sh_strconv_Atoi_range s hs ha _ w hc (Or.inr ⟨te, pe, rfl⟩)
    clear hr ha hc ht
    go_enter Tryd.func17, Tryd.ntmps17
    go_wp2_with fail
    refine Calls.mono AC ?_
    rintro e w2 ⟨N, rfl, -, -, hb⟩
    go_wp2
    go_ret2
    exact ⟨rfl, hb⟩
  · have hr : libN s.data.toList = if v < 0 ∨ 1073741824 < v ∨ Lib.itoa v ≠ s.data.toList then -1 else v := by unfold libN; rw [ha]
    have AC := sh_strconv_Atoi_ok s (by omega) v ha w
    have hv := Lib.atoiAll_bounds ha
    have AB : Hid (∀ W, (W = w ∨ ∃ t, W = Lib.bytesWorld w 5 t) → Below w.heap.size w W) := by
      rintro W (rfl | ⟨t, rfl⟩)
      · exact Below.refl _ _
      · exact Lib.bytesWorld_below _ _ _
    clear ha
    by_cases h1 : v < 0
    · rw [hr, if_pos (Or.inl h1)]
      clear hr ht
      go_enter Tryd.func17, Tryd.ntmps17
      go_wp2_with fail
      refine Calls.mono AC ?_
      rintro e w2 ⟨rfl, hw⟩
      have HB : Hid (Below w.heap.size w w2) := AB.out _ hw
      clear hw
      go_wp2
      go_ret2
      exact ⟨rfl, HB.out⟩
    by_cases h2 : 1073741824 < v
    · rw [hr, if_pos (Or.inr (Or.inl h2))]
      clear hr ht
      go_enter Tryd.func17, Tryd.ntmps17
      go_wp2_with fail
      refine Calls.mono AC ?_
      rintro e w2 ⟨rfl, hw⟩
      have HB : Hid (Below w.heap.size w w2) := AB.out _ hw
      clear hw
      go_wp2
      go_ret2
      exact ⟨rfl, HB.out⟩
    have IC : Hid (∀ W, Below w.heap.size w W → Calls Tryd.prog 9 #[.int .i64 v] W fun e w' => e = .returned (.string ⟨(Lib.itoa v).toArray⟩) ∧ Below W.heap.size W w') := fun W hb =>
      (sh_strconv_Itoa v hv.1 hv.2 W (ht.stays (Nat.le_refl _) hb).p10).mono fun e w' ⟨h1, k, os, h2⟩ => ⟨h1, by rw [h2]; exact Lib.below_grow _ _ (Nat.le_refl _) k os⟩
    have hcmp : (Lib.itoa v == s.toList) = decide (Lib.itoa v = s.data.toList) := by
      rw [Bool.eq_iff_iff, decide_eq_true_iff, beq_iff_eq, ByteArray.toList_eq]
    have d1 : decide (v < 0) = false := decide_eq_false h1
    have d2 : decide (1073741824 < v) = false := decide_eq_false h2
    by_cases h3 : Lib.itoa v = s.data.toList
    · rw [decide_eq_true h3] at hcmp
      rw [if_neg (by rintro (h | h | h) <;> first | omega | exact h h3)] at hr
      rw [hr, show max v 0 = v by omega, show decide (0 ≤ v) = true by exact decide_eq_true (by omega)]
      clear hr ht h3
      go_enter Tryd.func17, Tryd.ntmps17
      go_wp2_with fail
      refine Calls.mono AC ?_
      rintro e w2 ⟨rfl, hw⟩
      have HB : Hid (Below w.heap.size w w2) := AB.out _ hw
      clear hw
      go_wp2_with fail
      refine Calls.mono (IC.out _ HB.out) ?_
      rintro e w3 ⟨rfl, hb3⟩
      have HB3 : Hid (Below w.heap.size w w3) := HB.out.trans (hb3.mono HB.out.size)
      clear hb3
      go_wp2
      go_ret2
      exact ⟨rfl, HB3.out⟩
    · rw [decide_eq_false h3] at hcmp
      rw [if_pos (Or.inr (Or.inr h3))] at hr
      rw [hr, nb_no.1, nb_no.2]
      clear hr ht h3
      go_enter Tryd.func17, Tryd.ntmps17
      go_wp2_with fail
      refine Calls.mono AC ?_
      rintro e w2 ⟨rfl, hw⟩
      have HB : Hid (Below w.heap.size w w2) := AB.out _ hw
      clear hw
      go_wp2_with fail
      refine Calls.mono (IC.out _ HB.out) ?_
      rintro e w3 ⟨rfl, hb3⟩
      have HB3 : Hid (Below w.heap.size w w3) := HB.out.trans (hb3.mono HB.out.size)
      clear hb3
      go_wp2
      go_ret2
      exact ⟨rfl, HB3.out⟩
end Go.Proofs.YtjcackcimofcmaaDoor
