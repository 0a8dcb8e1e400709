/-
  image.Decode.
-/
import Derived.Test.YtmibbjjfijcgpacPureDec
import Derived.Test.YtmibbjjfijcgpacWalkCk2
namespace Go.Proofs.Ytmibbjjfijcgpac
open Go.RowKit Go.Joins
theorem FrG.below {g : Nat} {w0 w w' : World} (h0 : Below w0.heap.size w0 w) (h : FrG g w w') (hg : w0.heap.size ≤ g) : Below w0.heap.size w0 w' :=
  ⟨h.os.trans h0.os, h.tape.trans h0.tape, h.output.trans h0.output, Nat.le_trans h0.size h.size, fun k hk => (h.block k (Nat.lt_of_lt_of_le hk h0.size) (by omega)).trans (h0.block k hk)⟩
theorem six_put {w : World} {k : Nat} {a0 a1 a2 a3 a4 a5 : Value} {T : TypeId} (b0 b1 b2 b3 b4 b5 : Value) (h : w.heap[k]? = some (.cells #[a0, a1, a2, a3, a4, a5] T)) :
    ((((((w.setCell ⟨k, 0, none⟩ b0).setCell ⟨k, 1, none⟩ b1).setCell ⟨k, 2, none⟩ b2).setCell ⟨k, 3, none⟩ b3).setCell ⟨k, 4, none⟩ b4).setCell ⟨k, 5, none⟩ b5).heap[k]? = some (.cells #[b0, b1, b2, b3, b4, b5] T) ∧ (∀ j, j ≠ k → ((((((w.setCell ⟨k, 0, none⟩ b0).setCell ⟨k, 1, none⟩ b1).setCell ⟨k, 2, none⟩ b2).setCell ⟨k, 3, none⟩ b3).setCell ⟨k, 4, none⟩ b4).setCell ⟨k, 5, none⟩ b5).heap[j]? = w.heap[j]?) ∧ ((((((w.setCell ⟨k, 0, none⟩ b0).setCell ⟨k, 1, none⟩ b1).setCell ⟨k, 2, none⟩ b2).setCell ⟨k, 3, none⟩ b3).setCell ⟨k, 4, none⟩ b4).setCell ⟨k, 5, none⟩ b5).heap.size = w.heap.size ∧ ∀ {B : Nat} {W : World}, Below B W w → B ≤ k → Below B W ((((((w.setCell ⟨k, 0, none⟩ b0).setCell ⟨k, 1, none⟩ b1).setCell ⟨k, 2, none⟩ b2).setCell ⟨k, 3, none⟩ b3).setCell ⟨k, 4, none⟩ b4).setCell ⟨k, 5, none⟩ b5) := by
  have c0 := heap_setCell_same w _ 0 _ _ b0 h
  have c1 := heap_setCell_same _ _ 1 _ _ b1 c0
  have c2 := heap_setCell_same _ _ 2 _ _ b2 c1
  have c3 := heap_setCell_same _ _ 3 _ _ b3 c2
  have c4 := heap_setCell_same _ _ 4 _ _ b4 c3
  have c5 := heap_setCell_same _ _ 5 _ _ b5 c4
  refine ⟨c5, fun j hj => ?_, by simp [World.size_setCell], fun hb hk => (((((hb.setCell (p := ⟨k, 0, none⟩) hk b0).setCell (p := ⟨k, 1, none⟩) hk b1).setCell (p := ⟨k, 2, none⟩) hk b2).setCell (p := ⟨k, 3, none⟩) hk b3).setCell (p := ⟨k, 4, none⟩) hk b4).setCell (p := ⟨k, 5, none⟩) hk b5⟩
  iterate 6 rw [heap_setCell_other _ _ _ _ (by simpa using hj)]
theorem six_cells {w : World} {k : Nat} {b0 b1 b2 b3 b4 b5 : Value} {T : TypeId} (h : w.heap[k]? = some (.cells #[b0, b1, b2, b3, b4, b5] T)) : w.cell? ⟨k, 0, none⟩ = some b0 ∧ w.cell? ⟨k, 1, none⟩ = some b1 ∧ w.cell? ⟨k, 2, none⟩ = some b2 ∧ w.cell? ⟨k, 3, none⟩ = some b3 ∧ w.cell? ⟨k, 4, none⟩ = some b4 ∧ w.cell? ⟨k, 5, none⟩ = some b5 := by
  refine ⟨?_, ?_, ?_, ?_, ?_, ?_⟩ <;> simp [World.cell?, h]
theorem six_free {w : World} {k : Nat} {b0 b1 b2 b3 b4 b5 : Value} {T : TypeId} (h : w.heap[k]? = some (.cells #[b0, b1, b2, b3, b4, b5] T)) : w.frozen? ⟨k, 0, none⟩ = false ∧ w.frozen? ⟨k, 1, none⟩ = false ∧ w.frozen? ⟨k, 2, none⟩ = false ∧ w.frozen? ⟨k, 3, none⟩ = false ∧ w.frozen? ⟨k, 4, none⟩ = false ∧ w.frozen? ⟨k, 5, none⟩ = false := by
  refine ⟨?_, ?_, ?_, ?_, ?_, ?_⟩ <;> simp [World.frozen?, h]
set_option maxHeartbeats 16000000 in
theorem decode_any (v : Value) (bs : List Int) (w : World) (h : ListAt w ucell 1 v bs) (hb : ∀ x ∈ bs, 0 ≤ x ∧ x ≤ 255) :
    Calls Try.prog 15 #[v] w fun e w' =>
      (decErr bs ≠ 0 ∧ e = .returned (.tuple #[.agg #[.slice none 0 0, .slice none 0 0, .slice none 0 0, .slice none 0 0, .slice none 0 0, .int .i64 0], .int .i64 (decErr bs)]) ∧ Below w.heap.size w w') ∨
      (decErr bs = 0 ∧ ∃ vT vF vB vD vL, e = .returned (.tuple #[.agg #[vT, vF, vB, vD, vL, .int .i64 (decImg bs).entry], .int .i64 0]) ∧ ImgAt w' vT vF vB vD vL (decImg bs) ∧ Below w.heap.size w w') := by
  obtain ⟨a, cap, rfl, hlen⟩ := h.form
  have HL : Hid (ListAt w ucell 1 (.slice a bs.length cap) bs) := h
  have HBY : Hid _ := hb
  unfold maxLen at hlen
  clear h hb
  by_cases q1 : (100000 : Int) < bs.length
  · have HD : Hid (decErr bs = 1) := by show _ = _; unfold decErr; rw [if_pos (by omega)]
    go_enter Try.func15, Try.ntmps15
    go_wp2
    exact bodyPost_ret (v := .tuple #[.agg #[.slice none 0 0, .slice none 0 0, .slice none 0 0, .slice none 0 0, .slice none 0 0, .int .i64 0], .int .i64 1]) (by simp [results, Try.results15, go_sem]) rfl (Or.inl ⟨by rw [HD.out]; decide, by rw [HD.out], (Below.refl _ _).alloc (Nat.le_refl _) _⟩)
  have hq1 : ¬ 100000 < bs.length := by omega
  have b0 : Below w.heap.size w (w.alloc (.cells #[.slice none 0 0, .slice none 0 0, .slice none 0 0, .slice none 0 0, .slice none 0 0, .int .i64 0] 28)) := (Below.refl _ _).alloc (Nat.le_refl _) _
  have B0 : Hid _ := b0
  clear b0
  go_enter Try.func15, Try.ntmps15
  go_wp2_with fail
  refine (mark_any _ bs _ (HL.out.stays (Nat.le_refl _) B0.out)).mono ?_
  rintro e w1 ⟨rfl, hb1⟩
  have br1 := (hb1.block w.heap.size (by simp)).trans (a_new _ _)
  have B1 : Hid (Below w.heap.size w w1) := B0.out.trans (hb1.mono (by simp))
  have z1 : w.heap.size < w1.heap.size := by have := hb1.size; simp at this; omega
  have BR1 : Hid _ := br1
  obtain ⟨x0, x1, x2, x3, x4, x5⟩ := six_cells br1
  obtain ⟨y0, y1, y2, y3, y4, y5⟩ := six_free br1
  clear hb1 br1
  by_cases q2 : markChk magic bs = 0
  rotate_left
  · have HD : Hid (decErr bs = markChk magic bs) := by show _ = _; unfold decErr; rw [if_neg hq1, if_pos q2]
    go_wp2
    obtain ⟨s1, _, _, s4⟩ := six_put (.slice none 0 0) (.slice none 0 0) (.slice none 0 0) (.slice none 0 0) (.slice none 0 0) (.int .i64 0) BR1.out
    have hbz := s4 B1.out (Nat.le_refl _)
    obtain ⟨Z, hZ⟩ : ∃ Z, ((((((w1.setCell ⟨w.heap.size, 0, none⟩ (.slice none 0 0)).setCell ⟨w.heap.size, 1, none⟩ (.slice none 0 0)).setCell ⟨w.heap.size, 2, none⟩ (.slice none 0 0)).setCell ⟨w.heap.size, 3, none⟩ (.slice none 0 0)).setCell ⟨w.heap.size, 4, none⟩ (.slice none 0 0)).setCell ⟨w.heap.size, 5, none⟩ (.int .i64 0)) = Z := ⟨_, rfl⟩
    rw [hZ] at s1 hbz
    rw [hZ]
    obtain ⟨d0, d1, d2, d3, d4, d5⟩ := six_cells s1
    exact bodyPost_ret (v := .tuple #[.agg #[.slice none 0 0, .slice none 0 0, .slice none 0 0, .slice none 0 0, .slice none 0 0, .int .i64 0], .int .i64 (markChk magic bs)]) (by simp [results, Try.results15, go_sem, d0, d1, d2, d3, d4, d5]) rfl (Or.inl ⟨by rw [HD.out]; exact q2, by rw [HD.out], hbz⟩)
  have hl4 : 4 ≤ bs.length := by
    have := congrArg List.length (mark_zero magic bs q2)
    simp [magic] at this
    omega
  obtain ⟨bb, oo, cp, hv, c1, c2, c3, c4⟩ := HL.out.resolve_left (by rintro ⟨_, _, _, h⟩; subst h; simp at hl4)
  cases hv
  clear c4
  by_cases hc : cap = 4
  all_goals
    go_wp2_with fail
  all_goals
    have RD : Hid (∀ (o' c' : Nat), (bs.length - 4 = 0 ∨ (o' = oo + 4 ∧ c' = cap - 4)) → RdAt (w1.alloc (.cells #[.slice (some ⟨bb, o', none⟩) (bs.length - 4) c', .bool false] 55)) w1.heap.size w1.heap.size ⟨bs.drop 4, false⟩) := by
      intro o' c' ho
      obtain ⟨u1, _⟩ := HL.out.cut (n := 4) hl4 (by omega)
      have ht : ListAt w ucell 1 (.slice (some ⟨bb, o', none⟩) (bs.length - 4) c') (bs.drop 4) := by
        rcases ho with ho | ⟨rfl, rfl⟩
        · exact Or.inl ⟨_, _, by rw [ho], List.drop_of_length_le (by omega)⟩
        · exact u1
      have ht2 := (ht.stays (Nat.le_refl _) B1.out).stays (Nat.le_refl _) ((Below.refl w1.heap.size w1).alloc (Nat.le_refl _) (.cells #[.slice (some ⟨bb, o', none⟩) (bs.length - 4) c', .bool false] 55))
      have hdl : (bs.drop 4).length = bs.length - 4 := List.length_drop
      refine ⟨⟨some ⟨bb, o', none⟩, c', ?_, ?_, fun _ => ⟨bb, o', rfl, by omega⟩⟩, fun x hx => HBY.out x (List.mem_of_mem_drop hx), Nat.le_refl _⟩
      · show _ = some (Obj.cells #[.slice _ (bs.drop 4).length _, _] _); rw [hdl]; exact a_new _ _
      · show ListAt _ _ _ (.slice _ (bs.drop 4).length _) (bs.drop 4); rw [hdl]; exact ht2
    refine (image_any w1.heap.size w1.heap.size ⟨bs.drop 4, false⟩ _ (RD.out _ _ (by first | exact Or.inl (by omega) | exact Or.inr ⟨rfl, rfl⟩))).mono ?_
    rintro e w2 ⟨vT, vF, vB, vD, vL, rfl, hrd, hI, hfr⟩
    have HNW : Hid _ := hI.on (B' := w1.heap.size + 1) (Nat.le_refl _) (fun _ _ _ => rfl) (by simp)
    replace hI := hI.img
    have B2 : Hid (Below w.heap.size w w2) := hfr.below (B1.out.alloc (by omega) _) (by omega)
    have BR2 : Hid _ := (hfr.block w.heap.size (by simp; omega) (by omega)).trans ((a_old _ _ _ z1).trans BR1.out)
    have z2 : w1.heap.size < w2.heap.size := by have := hfr.size; simp at this; omega
    have hok := rdImg_ok ⟨bs.drop 4, false⟩ (fun x hx => HBY.out x (List.mem_of_mem_drop hx))
    obtain ⟨r', hr'⟩ : ∃ r', (rdImg ⟨bs.drop 4, false⟩).2 = r' := ⟨_, rfl⟩
    have HRQ : Hid _ := hr'
    rw [hr'] at hrd
    obtain ⟨a', cx, hbox, hb2, hb3⟩ := hrd.box
    clear hb2 hb3
    have hdi : (rdImg ⟨bs.drop 4, false⟩).1 = decImg bs := rfl
    rw [hdi] at hI hok
    rw [hdi]
    obtain ⟨m, hm⟩ : ∃ m, decImg bs = m := ⟨_, rfl⟩
    have HM : Hid _ := hm
    rw [hm] at hI hok
    rw [hm]
    obtain ⟨aT, cT, rfl, lT⟩ := hI.text.form
    obtain ⟨aF, cF, rfl, lF⟩ := hI.funcs.form
    obtain ⟨aD, cD, rfl, lD⟩ := hI.data.form
    obtain ⟨aL, cL, rfl, lL⟩ := hI.lines.form
    obtain ⟨vs, hB, hBl, hBx⟩ := hI.tables
    obtain ⟨aB, cB, rfl, lB⟩ := hB.form
    clear hB hBl hBx lT lF lD lL lB
    have HI : Hid _ := hI
    have HOK : Hid _ := hok
    obtain ⟨W3, hW3⟩ : ∃ W3, w2.alloc (.cells #[.slice aT m.text.length cT, .slice aF m.funcs.length cF, .slice aB vs.length cB, .slice aD m.data.length cD, .slice aL m.lines.length cL, .int .i64 m.entry] 28) = W3 := ⟨_, rfl⟩
    have b23 : Below w2.heap.size w2 W3 := by rw [← hW3]; exact (Below.refl _ _).alloc (Nat.le_refl _) _
    have hbox3 := (b23.block _ z2).trans hbox
    have k0 : W3.cell? ⟨w1.heap.size, 0, none⟩ = some (.slice a' r'.left.length cx) := by simp [World.cell?, hbox3]
    have k1 : W3.cell? ⟨w1.heap.size, 1, none⟩ = some (.bool r'.short) := by simp [World.cell?, hbox3]
    have z3 : w.heap.size < w2.heap.size := by omega
    have BR3 : Hid _ := (b23.block _ z3).trans BR2.out
    have B3 : Hid (Below w.heap.size w W3) := B2.out.trans (b23.mono (by omega))
    have BM3 : Hid (W3.heap[w2.heap.size]? = some (.cells #[.slice aT m.text.length cT, .slice aF m.funcs.length cF, .slice aB vs.length cB, .slice aD m.data.length cD, .slice aL m.lines.length cL, .int .i64 m.entry] 28)) := by show _ = _; rw [← hW3]; exact a_new _ _
    have I3 : Hid _ := HI.out.stays (Nat.le_refl _) b23
    have z4 : W3.heap.size = w2.heap.size + 1 := by rw [← hW3]; simp
    obtain ⟨x0, x1, x2, x3, x4, x5⟩ := six_cells BR3.out
    obtain ⟨y0, y1, y2, y3, y4, y5⟩ := six_free BR3.out
    have B23 : Hid _ := b23
    clear b23 hbox3
    clear hI hok hrd hfr hbox hr' hm hdi RD HL
    by_cases q3 : r'.short = true
    · have HD : Hid (decErr bs = 5) := by show _ = _; unfold decErr; rw [if_neg hq1, if_neg (by simpa using q2), if_pos (by rw [HRQ.out]; exact q3)]
      rw [q3] at k1
      go_wp2_with fail
      obtain ⟨s1, _, _, s4⟩ := six_put (.slice none 0 0) (.slice none 0 0) (.slice none 0 0) (.slice none 0 0) (.slice none 0 0) (.int .i64 0) BR3.out
      have hbz := s4 B3.out (Nat.le_refl _)
      obtain ⟨Z, hZ⟩ : ∃ Z, ((((((W3.setCell ⟨w.heap.size, 0, none⟩ (.slice none 0 0)).setCell ⟨w.heap.size, 1, none⟩ (.slice none 0 0)).setCell ⟨w.heap.size, 2, none⟩ (.slice none 0 0)).setCell ⟨w.heap.size, 3, none⟩ (.slice none 0 0)).setCell ⟨w.heap.size, 4, none⟩ (.slice none 0 0)).setCell ⟨w.heap.size, 5, none⟩ (.int .i64 0)) = Z := ⟨_, rfl⟩
      rw [hZ] at s1 hbz
      rw [hZ]
      obtain ⟨d0, d1, d2, d3, d4, d5⟩ := six_cells s1
      exact bodyPost_ret (v := .tuple #[.agg #[.slice none 0 0, .slice none 0 0, .slice none 0 0, .slice none 0 0, .slice none 0 0, .int .i64 0], .int .i64 5]) (by simp [results, Try.results15, go_sem, d0, d1, d2, d3, d4, d5]) rfl (Or.inl ⟨by rw [HD.out]; decide, by rw [HD.out], hbz⟩)
    have q3' : r'.short = false := by simpa using q3
    rw [q3'] at k1
    by_cases q4 : (0 : Int) < r'.left.length
    · have HD : Hid (decErr bs = 4) := by show _ = _; unfold decErr; rw [if_neg hq1, if_neg (by simpa using q2), if_neg (by rw [HRQ.out]; exact q3), if_pos (by rw [HRQ.out]; omega)]
      obtain ⟨L, hL⟩ : ∃ L, r'.left.length = L := ⟨_, rfl⟩
      rw [hL] at k0 q4
      have q4n : 0 < L := by omega
      have q4z : ¬ L = 0 := by omega
      clear hL
      go_wp2_with fail
      obtain ⟨s1, _, _, s4⟩ := six_put (.slice none 0 0) (.slice none 0 0) (.slice none 0 0) (.slice none 0 0) (.slice none 0 0) (.int .i64 0) BR3.out
      have hbz := s4 B3.out (Nat.le_refl _)
      obtain ⟨Z, hZ⟩ : ∃ Z, ((((((W3.setCell ⟨w.heap.size, 0, none⟩ (.slice none 0 0)).setCell ⟨w.heap.size, 1, none⟩ (.slice none 0 0)).setCell ⟨w.heap.size, 2, none⟩ (.slice none 0 0)).setCell ⟨w.heap.size, 3, none⟩ (.slice none 0 0)).setCell ⟨w.heap.size, 4, none⟩ (.slice none 0 0)).setCell ⟨w.heap.size, 5, none⟩ (.int .i64 0)) = Z := ⟨_, rfl⟩
      rw [hZ] at s1 hbz
      rw [hZ]
      obtain ⟨d0, d1, d2, d3, d4, d5⟩ := six_cells s1
      exact bodyPost_ret (v := .tuple #[.agg #[.slice none 0 0, .slice none 0 0, .slice none 0 0, .slice none 0 0, .slice none 0 0, .int .i64 0], .int .i64 4]) (by simp [results, Try.results15, go_sem, d0, d1, d2, d3, d4, d5]) rfl (Or.inl ⟨by rw [HD.out]; decide, by rw [HD.out], hbz⟩)
    have HD : Hid (decErr bs = imgChk m) := by show _ = _; unfold decErr; rw [if_neg hq1, if_neg (by simpa using q2), if_neg (by rw [HRQ.out]; exact q3), if_neg (by rw [HRQ.out]; omega), ← HM.out]; rfl
    have q5 : r'.left.length = 0 := by omega
    rw [q5] at k0
    clear x0 x1 x2 x3 x4 x5 y0 y1 y2 y3 y4 y5
    obtain ⟨n0, n1, n2, n3, n4, n5⟩ := six_cells BM3.out
    have k0' : W3.cell? ⟨w1.heap.size, 0, none⟩ = some (.slice a' 0 cx) := k0
    have Z4 : Hid _ := z4
    clear k0 q4 q5 q3 q3' z4
    go_wp2_with fail
    clear n0 n1 n2 n3 n4 n5 hW3
    have z5 : w2.heap.size < W3.heap.size := by rw [Z4.out]; omega
    refine (check_any _ _ _ _ _ m W3 I3.out HOK.out).mono ?_
    rintro e w4 ⟨rfl, hb4⟩
    have BR4 : Hid _ := (hb4.block w.heap.size (by omega)).trans BR3.out
    have BM4 : Hid _ := (hb4.block w2.heap.size (by omega)).trans BM3.out
    have B4 : Hid (Below w.heap.size w w4) := B3.out.trans (hb4.mono (by omega))
    have N4 : Hid (ImgNew w4 (w1.heap.size + 1) (.slice aT m.text.length cT) (.slice aF m.funcs.length cF) (.slice aB vs.length cB) (.slice aD m.data.length cD) (.slice aL m.lines.length cL) m) := by
      have q : ImgNew w2 (w1.heap.size + 1) (.slice aT m.text.length cT) (.slice aF m.funcs.length cF) (.slice aB vs.length cB) (.slice aD m.data.length cD) (.slice aL m.lines.length cL) (decImg bs) := HNW.out
      rw [HM.out] at q
      exact q.on (w' := w4) (by have := hb4.size; omega) (fun k _ k2 => (hb4.block k (by omega)).trans (B23.out.block k k2)) (Nat.le_refl _)
    obtain ⟨x0, x1, x2, x3, x4, x5⟩ := six_cells BR4.out
    obtain ⟨y0, y1, y2, y3, y4, y5⟩ := six_free BR4.out
    obtain ⟨n0, n1, n2, n3, n4, n5⟩ := six_cells BM4.out
    clear hb4
    generalize imgChk m = zc at *
    by_cases q6 : zc = 0
    rotate_left
    · have q6b : (zc != 0) = true := by simp [q6]
      have Q6 : Hid (zc ≠ 0) := q6
      clear q6 n0 n1 n2 n3 n4 n5 k1 k0'
      go_wp2
      obtain ⟨s1, _, _, s4⟩ := six_put (.slice none 0 0) (.slice none 0 0) (.slice none 0 0) (.slice none 0 0) (.slice none 0 0) (.int .i64 0) BR4.out
      have hbz := s4 B4.out (Nat.le_refl _)
      obtain ⟨Z, hZ⟩ : ∃ Z, ((((((w4.setCell ⟨w.heap.size, 0, none⟩ (.slice none 0 0)).setCell ⟨w.heap.size, 1, none⟩ (.slice none 0 0)).setCell ⟨w.heap.size, 2, none⟩ (.slice none 0 0)).setCell ⟨w.heap.size, 3, none⟩ (.slice none 0 0)).setCell ⟨w.heap.size, 4, none⟩ (.slice none 0 0)).setCell ⟨w.heap.size, 5, none⟩ (.int .i64 0)) = Z := ⟨_, rfl⟩
      rw [hZ] at s1 hbz
      rw [hZ]
      obtain ⟨d0, d1, d2, d3, d4, d5⟩ := six_cells s1
      exact bodyPost_ret (v := .tuple #[.agg #[.slice none 0 0, .slice none 0 0, .slice none 0 0, .slice none 0 0, .slice none 0 0, .int .i64 0], .int .i64 zc]) (by simp [results, Try.results15, go_sem, d0, d1, d2, d3, d4, d5]) rfl (Or.inl ⟨by rw [HD.out]; exact Q6.out, by rw [HD.out], hbz⟩)
    rw [q6] at HD
    go_wp2
    obtain ⟨s1, s2, s3, s4⟩ := six_put (.slice aT m.text.length cT) (.slice aF m.funcs.length cF) (.slice aB vs.length cB) (.slice aD m.data.length cD) (.slice aL m.lines.length cL) (.int .i64 m.entry) BR4.out
    have hbz := s4 B4.out (Nat.le_refl _)
    have hIz : ImgAt ((((((w4.setCell ⟨w.heap.size, 0, none⟩ (.slice aT m.text.length cT)).setCell ⟨w.heap.size, 1, none⟩ (.slice aF m.funcs.length cF)).setCell ⟨w.heap.size, 2, none⟩ (.slice aB vs.length cB)).setCell ⟨w.heap.size, 3, none⟩ (.slice aD m.data.length cD)).setCell ⟨w.heap.size, 4, none⟩ (.slice aL m.lines.length cL)).setCell ⟨w.heap.size, 5, none⟩ (.int .i64 m.entry)) (.slice aT m.text.length cT) (.slice aF m.funcs.length cF) (.slice aB vs.length cB) (.slice aD m.data.length cD) (.slice aL m.lines.length cL) m := N4.out _ fun k k1 _ => s2 k (by omega)
    obtain ⟨Z, hZ⟩ : ∃ Z, ((((((w4.setCell ⟨w.heap.size, 0, none⟩ (.slice aT m.text.length cT)).setCell ⟨w.heap.size, 1, none⟩ (.slice aF m.funcs.length cF)).setCell ⟨w.heap.size, 2, none⟩ (.slice aB vs.length cB)).setCell ⟨w.heap.size, 3, none⟩ (.slice aD m.data.length cD)).setCell ⟨w.heap.size, 4, none⟩ (.slice aL m.lines.length cL)).setCell ⟨w.heap.size, 5, none⟩ (.int .i64 m.entry)) = Z := ⟨_, rfl⟩
    rw [hZ] at s1 hbz hIz
    rw [hZ]
    obtain ⟨d0, d1, d2, d3, d4, d5⟩ := six_cells s1
    exact bodyPost_ret (v := .tuple #[.agg #[.slice aT m.text.length cT, .slice aF m.funcs.length cF, .slice aB vs.length cB, .slice aD m.data.length cD, .slice aL m.lines.length cL, .int .i64 m.entry], .int .i64 0]) (by simp [results, Try.results15, go_sem, d0, d1, d2, d3, d4, d5]) rfl (Or.inr ⟨HD.out, _, _, _, _, _, by rw [HM.out], by rw [HM.out]; exact hIz, hbz⟩)
end Go.Proofs.Ytmibbjjfijcgpac
