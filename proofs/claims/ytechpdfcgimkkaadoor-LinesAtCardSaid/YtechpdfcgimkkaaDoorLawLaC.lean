/-
  The call of boltholekeep.LinesAt returns true at every slice of Raws and every number.
-/
import Derived.Test.YtechpdfcgimkkaaDoorWalkPiC
import Derived.Test.YtechpdfcgimkkaaDoorPureLaC
import Derived.Test.YtechpdfcgimkkaaDoorWalkLqC
import Derived.Test.YtechpdfcgimkkaaDoorMQC
import Derived.BigQuiet
import Derived.Deep.QuietTactic
namespace Go.Proofs.YtechpdfcgimkkaaDoor
open Go.RowKit Go.Joins Isa
set_option maxRecDepth 100000 in
set_option maxHeartbeats 4000000 in
theorem linesAt_law (v : Value) (l : List Rw) (a : Int) (w : World) (ht : Tabs w) (hR : RawsAt w v l) (a1 : -9223372036854775808 ≤ a) (a2 : a ≤ 9223372036854775807) :
    Calls Tryd.prog 4 #[v, .int .i64 a] w fun e w' => e = .returned (.bool true) ∧ Below w.heap.size w w' := by
  have PR := hid (program_img v l w hR ht)
  clear hR ht
  go_enter Tryd.func4, Tryd.ntmps4
  go_wp2_with fail
  refine Calls.mono PR.out ?_
  rintro e w1 ⟨vT, vF, vB, vD, vL, m, rfl, hm, hO, hb⟩
  obtain ⟨hc, hok, h1, h2⟩ := hm.chk
  have hen := hm.entry
  have HI : Hid (ImgAt w1 vT vF vB vD vL m) := hO.at
  have HL : Hid (ListAt w1 Ln.cells 2 vL m.lines) := hO.at.lines
  obtain ⟨aT, cT, rfl, lT⟩ := hO.at.text.form
  obtain ⟨aF, cF, rfl, lF⟩ := hO.at.funcs.form
  obtain ⟨us, hus, -, -⟩ := hO.at.tables
  obtain ⟨aB, cB, rfl, lB⟩ := hus.form
  obtain ⟨aD, cD, rfl, lD⟩ := hO.at.data.form
  obtain ⟨aL, cL, rfl, lL⟩ := hO.at.lines.form
  have HB : Hid (Below w.heap.size w w1) := hb
  have hz : w.heap.size ≤ w1.heap.size := hb.size
  have CK : Hid (∀ W, Below w1.heap.size w1 W → Calls Tryd.prog 21 #[.agg #[.slice aT m.text.length cT, .slice aF m.funcs.length cF, .slice aB us.length cB, .slice aD m.data.length cD, .slice aL m.lines.length cL, .int .i64 0]] W fun e w' => e = .returned (.int .i64 0) ∧ Below W.heap.size W w') := fun W hW => by
    have := icheck_any _ _ _ _ _ m W (HI.out.stays (Nat.le_refl _) hW) hok
    rwa [hen, hc] at this
  have LN : Hid (∀ (W : World) (p : Int), Below w1.heap.size w1 W → Calls Tryd.prog 24 #[.agg #[.slice aT m.text.length cT, .slice aF m.funcs.length cF, .slice aB us.length cB, .slice aD m.data.length cD, .slice aL m.lines.length cL, .int .i64 0], .int .i64 p] W fun e w' => e = .returned (.int .i64 (lineOf m.lines p)) ∧ Below W.heap.size W w') := fun W p hW => by
    refine (lineAt_any _ _ _ _ _ 0 p m.lines W (HL.out.stays (Nat.le_refl _) hW)).mono ?_
    rintro e w' ⟨rfl, rfl⟩
    exact ⟨rfl, (Below.refl _ _).alloc (Nat.le_refl _) _⟩
  have hlc := imgChk_lines hc
  have HLC : Hid _ := hlc
  have HAH : Hid (lineOf m.lines (-1) = 0) := lineOf_ahead hlc
  have hT1 : 0 < (m.text.length : Int) := by omega
  have hmx : max (m.text.length : Int) 1 = (m.text.length : Int) := by omega
  obtain ⟨p0, p1⟩ := pk_bd a (m.text.length : Int) hT1
  have hT2 : (m.text.length : Int) ≤ 9223372036854775807 := by omega
  have PK : Hid (∀ W, Calls Tryd.prog 19 #[.int .i64 a, .int .i64 (m.text.length : Int)] W fun e w' => e = .returned (.int .i64 (pk a (m.text.length : Int))) ∧ w' = W) := fun W => picked_any a _ W hT1 a1 a2
  unfold maxLen at lL
  clear hO hm hok hc hen hus hb hlc PR lT lF lB lD
  generalize pk a (m.text.length : Int) = p at *
  go_wp2_with fail
  refine Calls.mono (PK.out _) ?_
  rintro e w2 ⟨rfl, hw2⟩
  obtain ⟨wb, hwb⟩ : ∃ wb, w1.alloc (.cells #[.slice aT m.text.length cT, .slice aF m.funcs.length cF, .slice aB us.length cB, .slice aD m.data.length cD, .slice aL m.lines.length cL, .int .i64 0] 29) = wb := ⟨_, rfl⟩
  rw [hwb] at hw2
  subst hw2
  have hg : Hid (w2.heap[w1.heap.size]? = some (.cells #[.slice aT m.text.length cT, .slice aF m.funcs.length cF, .slice aB us.length cB, .slice aD m.data.length cD, .slice aL m.lines.length cL, .int .i64 0] 29)) := by rw [← hwb]; exact heap_alloc_new _ _
  have HB2 : Hid (Below w1.heap.size w1 w2) := by rw [← hwb]; exact (Below.refl _ _).alloc (Nat.le_refl _) _
  have x0 : w2.cell? ⟨w1.heap.size, 0, none⟩ = some (.slice aT m.text.length cT) := by simp [World.cell?, hg.out]
  have x4 : w2.cell? ⟨w1.heap.size, 4, none⟩ = some (.slice aL m.lines.length cL) := by simp [World.cell?, hg.out]
  have hgl : w1.heap.size < w2.heap.size := (Array.getElem?_eq_some_iff.1 hg.out).1
  clear hwb
  go_wp2_with fail
  go_loopw [7, 21] (fun sv kv wr => ∃ k : Nat, kv = .int .i64 (k : Int) ∧ k ≤ m.lines.length ∧ sv = .int .i64 (lineOf (m.lines.take k) p) ∧ Hid (Below w2.heap.size w2 wr)) (fun _ kv _ => (m.lines.length - intOf kv).toNat)
  case atStart => exact ⟨0, rfl, by omega, rfl, Below.refl _ _⟩
  case round =>
    obtain ⟨k, rfl, k1, rfl, hB⟩ := hrel
    have hgr : Hid _ := (hB.out.block _ hgl).trans hg.out
    have y0 : wr.cell? ⟨w1.heap.size, 0, none⟩ = some (.slice aT m.text.length cT) := by simp [World.cell?, hgr.out]
    have y1 : wr.cell? ⟨w1.heap.size, 1, none⟩ = some (.slice aF m.funcs.length cF) := by simp [World.cell?, hgr.out]
    have y2 : wr.cell? ⟨w1.heap.size, 2, none⟩ = some (.slice aB us.length cB) := by simp [World.cell?, hgr.out]
    have y3 : wr.cell? ⟨w1.heap.size, 3, none⟩ = some (.slice aD m.data.length cD) := by simp [World.cell?, hgr.out]
    have y4 : wr.cell? ⟨w1.heap.size, 4, none⟩ = some (.slice aL m.lines.length cL) := by simp [World.cell?, hgr.out]
    have y5 : wr.cell? ⟨w1.heap.size, 5, none⟩ = some (.int .i64 0) := by simp [World.cell?, hgr.out]
    have hzr : w2.heap.size ≤ wr.heap.size := hB.out.size
    have hgw : w1.heap.size < wr.heap.size := by omega
    have hgn : ¬ w1.heap.size = wr.heap.size := by omega
    have HBr : Hid (Below w1.heap.size w1 wr) := HB2.out.trans (hB.out.mono (by omega))
    have FIN : Hid (∀ (wx : World) (n : Int), Below wr.heap.size wr wx → n = lineOf m.lines p → Calls Tryd.prog 24 #[.agg #[.slice aT m.text.length cT, .slice aF m.funcs.length cF, .slice aB us.length cB, .slice aD m.data.length cD, .slice aL m.lines.length cL, .int .i64 0], .int .i64 p] wx fun e w' => e = .returned (.int .i64 n) ∧ Below wx.heap.size wx w') := fun wx n hx hn => by
      rw [hn]
      exact LN.out wx p (HBr.out.trans (hx.mono (by omega)))
    by_cases hk : k < m.lines.length
    · have hkk : (k : Int) < (m.lines.length : Int) := by omega
      obtain ⟨x, hx⟩ : ∃ x, m.lines[k]? = some x := ⟨_, List.getElem?_eq_getElem hk⟩
      obtain ⟨bb, oo, cp, hv, c1, c2, c3, c4⟩ := HL.out.resolve_left (by rintro ⟨_, _, _, h⟩; rw [h] at hk; simp at hk)
      obtain ⟨rfl, rfl⟩ : aL = some ⟨bb, oo, none⟩ ∧ cL = cp := by simpa using hv
      have d0 := (HBr.out.cell (p := ⟨bb, _, none⟩) c3).trans (c4 k x hx 0 _ rfl)
      have d1 := (HBr.out.cell (p := ⟨bb, _, none⟩) c3).trans (c4 k x hx 1 _ rfl)
      rw [Nat.add_zero] at d0
      by_cases hp : p < x.a
      · have HS : Hid (lineOf (m.lines.take k) p = lineOf m.lines p) := (lineOf_stop HLC.out hx hp).symm
        clear c4 hx hv
        rw [HS.out]
        generalize lineOf m.lines p = N at *
        go_wp2_with fail
        have hbx : Below wr.heap.size wr (wr.alloc (.cells #[.int .i64 x.a, .int .i64 x.n] 43)) := by first | exact Below.refl _ _ | go_grown
        refine Calls.mono (CK.out _ (HBr.out.trans (hbx.mono (by omega)))) ?_
        rintro e w5 ⟨rfl, hb5⟩
        have hb6 : Below wr.heap.size wr w5 := hbx.trans (hb5.mono hbx.size)
        have hg5 := (hb6.block _ (by omega)).trans hgr.out
        have z0 : w5.cell? ⟨w1.heap.size, 0, none⟩ = some (.slice aT m.text.length cT) := by simp [World.cell?, hg5]
        have z1 : w5.cell? ⟨w1.heap.size, 1, none⟩ = some (.slice aF m.funcs.length cF) := by simp [World.cell?, hg5]
        have z2 : w5.cell? ⟨w1.heap.size, 2, none⟩ = some (.slice aB us.length cB) := by simp [World.cell?, hg5]
        have z3 : w5.cell? ⟨w1.heap.size, 3, none⟩ = some (.slice aD m.data.length cD) := by simp [World.cell?, hg5]
        have z4 : w5.cell? ⟨w1.heap.size, 4, none⟩ = some (.slice (some ⟨bb, oo, none⟩) m.lines.length cL) := by simp [World.cell?, hg5]
        have z5 : w5.cell? ⟨w1.heap.size, 5, none⟩ = some (.int .i64 0) := by simp [World.cell?, hg5]
        have HB6 : Hid _ := hb6
        have hz5 : wr.heap.size ≤ w5.heap.size := hb6.size
        clear hb5 hb6 hbx hg5
        go_wp2_with fail
        refine Calls.mono (FIN.out _ _ HB6.out rfl) ?_
        rintro e w7 ⟨rfl, hb7⟩
        have hb8 : Below wr.heap.size wr w7 := HB6.out.trans (hb7.mono hz5)
        have hg7 := (hb8.block _ (by omega)).trans hgr.out
        have t0 : w7.cell? ⟨w1.heap.size, 0, none⟩ = some (.slice aT m.text.length cT) := by simp [World.cell?, hg7]
        have t1 : w7.cell? ⟨w1.heap.size, 1, none⟩ = some (.slice aF m.funcs.length cF) := by simp [World.cell?, hg7]
        have t2 : w7.cell? ⟨w1.heap.size, 2, none⟩ = some (.slice aB us.length cB) := by simp [World.cell?, hg7]
        have t3 : w7.cell? ⟨w1.heap.size, 3, none⟩ = some (.slice aD m.data.length cD) := by simp [World.cell?, hg7]
        have t4 : w7.cell? ⟨w1.heap.size, 4, none⟩ = some (.slice (some ⟨bb, oo, none⟩) m.lines.length cL) := by simp [World.cell?, hg7]
        have t5 : w7.cell? ⟨w1.heap.size, 5, none⟩ = some (.int .i64 0) := by simp [World.cell?, hg7]
        have HB8 : Hid _ := hb8
        have hz7 : wr.heap.size ≤ w7.heap.size := hb8.size
        clear hb7 hb8 hg7
        go_wp2_with fail
        refine Calls.mono (LN.out _ (-1) (HBr.out.trans (HB8.out.mono (by omega)))) ?_
        rw [HAH.out]
        rintro e w9 ⟨rfl, hb9⟩
        have HB9 : Hid (Below w.heap.size w w9) := HB.out.trans ((HBr.out.trans ((HB8.out.trans (hb9.mono hz7)).mono (by omega))).mono hz)
        clear hb9
        go_wp2_with fail
        go_ret
        exact ⟨rfl, HB9.out⟩
      · have HS : Hid (lineOf (m.lines.take (k + 1)) p = x.n) := by
          show _ = _
          rw [lineOf_next _ _ _ _ hx, if_pos (by omega)]
        have hp2 : ¬ p < x.a := hp
        clear c4 hx hv
        go_wp2_with fail
        go_roundw
        case rel => exact ⟨k + 1, by go_num, by omega, by rw [HS.out], hB.out.trans (((Below.refl _ _).alloc (Nat.le_refl _) _).mono hzr)⟩
        case measure => first | (simp [intOf]; done) | (simp [intOf]; omega)
    · obtain rfl : k = m.lines.length := by omega
      rw [List.take_length]
      go_wp2_with fail
      have hbx : Below wr.heap.size wr wr := by first | exact Below.refl _ _ | go_grown
      refine Calls.mono (CK.out _ (HBr.out.trans (hbx.mono (by omega)))) ?_
      rintro e w5 ⟨rfl, hb5⟩
      have hb6 : Below wr.heap.size wr w5 := hbx.trans (hb5.mono hbx.size)
      have hg5 := (hb6.block _ (by omega)).trans hgr.out
      have z0 : w5.cell? ⟨w1.heap.size, 0, none⟩ = some (.slice aT m.text.length cT) := by simp [World.cell?, hg5]
      have z1 : w5.cell? ⟨w1.heap.size, 1, none⟩ = some (.slice aF m.funcs.length cF) := by simp [World.cell?, hg5]
      have z2 : w5.cell? ⟨w1.heap.size, 2, none⟩ = some (.slice aB us.length cB) := by simp [World.cell?, hg5]
      have z3 : w5.cell? ⟨w1.heap.size, 3, none⟩ = some (.slice aD m.data.length cD) := by simp [World.cell?, hg5]
      have z4 : w5.cell? ⟨w1.heap.size, 4, none⟩ = some (.slice aL m.lines.length cL) := by simp [World.cell?, hg5]
      have z5 : w5.cell? ⟨w1.heap.size, 5, none⟩ = some (.int .i64 0) := by simp [World.cell?, hg5]
      have HB6 : Hid _ := hb6
      have hz5 : wr.heap.size ≤ w5.heap.size := hb6.size
      clear hb5 hb6 hbx hg5
      go_wp2_with fail
      refine Calls.mono (FIN.out _ _ HB6.out rfl) ?_
      rintro e w7 ⟨rfl, hb7⟩
      have hb8 : Below wr.heap.size wr w7 := HB6.out.trans (hb7.mono hz5)
      have hg7 := (hb8.block _ (by omega)).trans hgr.out
      have t0 : w7.cell? ⟨w1.heap.size, 0, none⟩ = some (.slice aT m.text.length cT) := by simp [World.cell?, hg7]
      have t1 : w7.cell? ⟨w1.heap.size, 1, none⟩ = some (.slice aF m.funcs.length cF) := by simp [World.cell?, hg7]
      have t2 : w7.cell? ⟨w1.heap.size, 2, none⟩ = some (.slice aB us.length cB) := by simp [World.cell?, hg7]
      have t3 : w7.cell? ⟨w1.heap.size, 3, none⟩ = some (.slice aD m.data.length cD) := by simp [World.cell?, hg7]
      have t4 : w7.cell? ⟨w1.heap.size, 4, none⟩ = some (.slice aL m.lines.length cL) := by simp [World.cell?, hg7]
      have t5 : w7.cell? ⟨w1.heap.size, 5, none⟩ = some (.int .i64 0) := by simp [World.cell?, hg7]
      have HB8 : Hid _ := hb8
      have hz7 : wr.heap.size ≤ w7.heap.size := hb8.size
      clear hb7 hb8 hg7
      go_wp2_with fail
      refine Calls.mono (LN.out _ (-1) (HBr.out.trans (HB8.out.mono (by omega)))) ?_
      rw [HAH.out]
      rintro e w9 ⟨rfl, hb9⟩
      have HB9 : Hid (Below w.heap.size w w9) := HB.out.trans ((HBr.out.trans ((HB8.out.trans (hb9.mono hz7)).mono (by omega))).mono hz)
      clear hb9
      go_wp2_with fail
      go_ret
      exact ⟨rfl, HB9.out⟩
end Go.Proofs.YtechpdfcgimkkaaDoor
