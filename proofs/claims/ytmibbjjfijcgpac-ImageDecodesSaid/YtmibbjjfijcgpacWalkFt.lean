/-
  boltholeref.ImageFault: what P2.1 says.
-/
import Derived.Test.YtmibbjjfijcgpacWalkCk2
import Derived.Deep.QuietTactic
import Derived.BigQuiet
namespace Go.Proofs.Ytmibbjjfijcgpac
open Go.RowKit Go.Joins
theorem bel_drewN {B : Nat} {W w1 : World} (h : Below B W w1) (n : Nat) : Below B W (w1.drewN n) := ⟨h.os, h.tape, h.output, h.size, h.block⟩
theorem jin_is (n a b : Int) (r : Bool) (h : (decide (a ≤ n) && decide (n ≤ b)) = r) (w : World) : Calls Try.prog 39 #[.int .i64 n, .int .i64 a, .int .i64 b] w fun e w' => e = .returned (.bool r) ∧ w' = w := by
  rw [← h]; exact jin_any n a b w
theorem in_no {n a b : Int} (h : ¬ (a ≤ n ∧ n ≤ b)) : (decide (a ≤ n) && decide (n ≤ b)) = false := by
  rw [Bool.and_eq_false_iff, decide_eq_false_iff_not, decide_eq_false_iff_not]; omega
theorem in_yes {n a b : Int} (h : a ≤ n ∧ n ≤ b) : (decide (a ≤ n) && decide (n ≤ b)) = true := by
  rw [Bool.and_eq_true, decide_eq_true_iff, decide_eq_true_iff]; exact h
set_option maxRecDepth 100000 in
set_option maxHeartbeats 16000000 in
theorem fault_any (vT vF vB vD vL : Value) (m : Img) (w : World) (hI : ImgAt w vT vF vB vD vL m) (hok : m.ok) :
    Calls Try.prog 27 #[.agg #[vT, vF, vB, vD, vL, .int .i64 m.entry]] w fun e w' => e = .returned (.int .i64 (imgChk m)) ∧ Below w.heap.size w w' := by
  obtain ⟨aT, cT, rfl, lT⟩ := hI.text.form
  obtain ⟨aF, cF, rfl, lF⟩ := hI.funcs.form
  obtain ⟨aD, cD, rfl, lD⟩ := hI.data.form
  obtain ⟨aL, cL, rfl, lL⟩ := hI.lines.form
  obtain ⟨vs, hB, hBl, hBe⟩ := hI.tables
  obtain ⟨aB, cB, rfl, lB⟩ := hB.form
  unfold maxLen at lT lF lB lD lL
  have HO : Hid m.ok := hok
  have HF : Hid (ListAt w Fn.cells 3 (.slice aF m.funcs.length cF) m.funcs) := hI.funcs
  have HBa : Hid (ListAt w vcell 1 (.slice aB vs.length cB) vs) := hB
  have HBe : Hid (∀ (j : Nat) (u : Value) (t : List Int), vs[j]? = some u → m.tables[j]? = some t → ListAt w icell 1 u t) := hBe
  have HBl : Hid (vs.length = m.tables.length) := hBl
  have HD : Hid (ListAt w icell 1 (.slice aD m.data.length cD) m.data) := hI.data
  have HL : Hid (ListAt w Ln.cells 2 (.slice aL m.lines.length cL) m.lines) := hI.lines
  have he1 := hok.entry.1
  have he2 := hok.entry.2
  clear hok hI hB hBl hBe
  obtain ⟨W1, hW1⟩ : ∃ W1, w.alloc (.cells #[.slice aT m.text.length cT, .slice aF m.funcs.length cF, .slice aB vs.length cB, .slice aD m.data.length cD, .slice aL m.lines.length cL, .int .i64 m.entry] 28) = W1 := ⟨_, rfl⟩
  have b0 : Below w.heap.size w W1 := by rw [← hW1]; exact (Below.refl _ _).alloc (Nat.le_refl _) _
  have hz1 : W1.heap.size = w.heap.size + 1 := by rw [← hW1]; simp
  have B0 : Hid (Below w.heap.size w W1) := b0
  have X0 : Hid (W1.cell? ⟨w.heap.size, 0, none⟩ = some (.slice aT m.text.length cT)) := by show _ = _; rw [← hW1]; simp
  have X1 : Hid (W1.cell? ⟨w.heap.size, 1, none⟩ = some (.slice aF m.funcs.length cF)) := by show _ = _; rw [← hW1]; simp
  have X2 : Hid (W1.cell? ⟨w.heap.size, 2, none⟩ = some (.slice aB vs.length cB)) := by show _ = _; rw [← hW1]; simp
  have X3 : Hid (W1.cell? ⟨w.heap.size, 3, none⟩ = some (.slice aD m.data.length cD)) := by show _ = _; rw [← hW1]; simp
  have X4 : Hid (W1.cell? ⟨w.heap.size, 4, none⟩ = some (.slice aL m.lines.length cL)) := by show _ = _; rw [← hW1]; simp
  have X5 : Hid (W1.cell? ⟨w.heap.size, 5, none⟩ = some (.int .i64 m.entry)) := by show _ = _; rw [← hW1]; simp
  have HW : Hid _ := hW1
  clear hW1 b0
  by_cases q1 : (8000 : Int) < m.text.length
  · have hr : Hid (imgChk m = 1) := by show _ = _; unfold imgChk; rw [if_pos (by omega)]
    go_enter Try.func27, Try.ntmps27
    go_wp2
    go_ret
    exact ⟨by rw [hr.out]; rfl, (Below.refl _ _).alloc (Nat.le_refl _) _⟩
  by_cases q2 : (40 : Int) < m.funcs.length
  · have hr : Hid (imgChk m = 1) := by show _ = _; unfold imgChk; rw [if_pos (by omega)]
    go_enter Try.func27, Try.ntmps27
    go_wp2
    go_ret
    exact ⟨by rw [hr.out]; rfl, (Below.refl _ _).alloc (Nat.le_refl _) _⟩
  have HC : Hid (imgChk m = if fchk m.text.length [] m.funcs 0 ≠ 0 then fchk m.text.length [] m.funcs 0
    else if m.entry < 0 ∨ m.funcs.length ≤ m.entry then 6 else if 20 < m.tables.length ∨ 64 < m.data.length then 1 else if tchk m.text.length m.tables ≠ 0 then tchk m.text.length m.tables
    else if (∃ x ∈ m.data, x < -1099511627776 ∨ 1099511627776 < x) then 2 else if 4000 < m.lines.length then 1 else lchk m.text.length m.lines (-1)) := by
    show _ = _; unfold imgChk; rw [if_neg (by omega)]
  go_enter Try.func27, Try.ntmps27
  go_wp2_with fail
  go_loopw [3, 4] (fun p u wr => ∃ (j : Nat) (en : Int), j ≤ m.funcs.length ∧ p = .int .i64 en ∧ 0 ≤ en ∧ en ≤ m.text.length ∧ u = .int .i64 (j : Int) ∧ Hid (fchk m.text.length (m.funcs.take j) (m.funcs.drop j) en = fchk m.text.length [] m.funcs 0) ∧ Below (w.heap.size + 1) W1 wr) (fun _ u _ => (m.funcs.length - intOf u).toNat)
  case atStart => exact ⟨0, 0, by omega, rfl, by omega, by omega, rfl, rfl, by rw [HW.out]; exact Below.refl _ _⟩
  case round =>
    obtain ⟨j, en, j1, rfl, e0, e1, rfl, j2, bel⟩ := hrel
    have z : w.heap.size + 1 ≤ wr.heap.size := by have := bel.size; omega
    have Bw : Hid (Below w.heap.size w wr) := B0.out.trans (bel.mono (by omega))
    have x0 := (belc bel w.heap.size 0 (by omega)).trans X0.out
    have x1 := (belc bel w.heap.size 1 (by omega)).trans X1.out
    have BL : Hid (Below (w.heap.size + 1) W1 wr) := bel
    clear bel
    by_cases hj : j < m.funcs.length
    · obtain ⟨y, hy⟩ : ∃ y, m.funcs[j]? = some y := ⟨_, List.getElem?_eq_getElem (by omega)⟩
      obtain ⟨bb, oo, cap, hv, c1, c2, c3, c4⟩ := HF.out.resolve_left (by rintro ⟨_, _, _, h⟩; rw [h] at hj; simp at hj)
      cases hv
      have d0 : wr.cell? ⟨bb, oo + j * 3, none⟩ = some (.string y.name) := (Bw.out.cell (p := ⟨bb, _, none⟩) c3).trans (c4 j y hy 0 _ rfl)
      have d1 : wr.cell? ⟨bb, oo + j * 3 + 1, none⟩ = some (.int .i64 y.start) := (Bw.out.cell (p := ⟨bb, _, none⟩) c3).trans (c4 j y hy 1 _ rfl)
      have d2 : wr.cell? ⟨bb, oo + j * 3 + 2, none⟩ = some (.int .i64 y.size) := (Bw.out.cell (p := ⟨bb, _, none⟩) c3).trans (c4 j y hy 2 _ rfl)
      have C4 : Hid _ := c4
      have H4 : Hid (∀ (i : Nat) (g : Fn), m.funcs[i]? = some g → wr.cell? ⟨bb, oo + i * 3, none⟩ = some (.string g.name)) := fun i g hg => (Bw.out.cell (p := ⟨bb, _, none⟩) c3).trans (c4 i g hg 0 _ rfl)
      obtain ⟨k1, ⟨k2, k3⟩, k4, k5⟩ := HO.out.funcs y (List.mem_of_getElem? hy)
      have HFk : Hid _ := j2.out.symm.trans (fchk_at m.text.length en m.funcs j y hy)
      have hb2 : bb < wr.heap.size := by omega
      have hb3 : bb < wr.heap.size + 1 := by omega
      clear c4 C4 hy j2
      cases hn : nameMay y.name
      · have hr : Hid (imgChk m = 4) := by show _ = _; rw [HC.out]; have h4 : fchk m.text.length [] m.funcs 0 = 4 := (by rw [HFk.out, if_pos hn]); rw [h4]; rfl
        clear HFk HC
        go_wp2_with (go_at_call 38; refine (nameMay_any _ _ k1).mono ?_; rw [hn]; rintro e w1 ⟨rfl, hw1⟩; obtain rfl := hw1.symm)
        go_ret
        exact ⟨by rw [hr.out]; rfl, Bw.out.alloc (by omega) _⟩
      go_wp2_with (go_at_call 38; refine (nameMay_any _ _ k1).mono ?_; rw [hn]; rintro e w1 ⟨rfl, hw1⟩; obtain rfl := hw1.symm)
      obtain ⟨W2, hW2⟩ : ∃ W2, wr.alloc (.cells #[.string y.name, .int .i64 y.start, .int .i64 y.size] 46) = W2 := ⟨_, rfl⟩
      have y0 : Hid (W2.cell? ⟨wr.heap.size, 0, none⟩ = some (.string y.name)) := by show _ = _; rw [← hW2]; simp
      have y1 : Hid (W2.cell? ⟨wr.heap.size, 1, none⟩ = some (.int .i64 y.start)) := by show _ = _; rw [← hW2]; simp
      have y2 : Hid (W2.cell? ⟨wr.heap.size, 2, none⟩ = some (.int .i64 y.size)) := by show _ = _; rw [← hW2]; simp
      have hz2 : W2.heap.size = wr.heap.size + 1 := by rw [← hW2]; simp
      have bW : Hid (Below wr.heap.size wr W2) := by show Below _ _ _; rw [← hW2]; exact (Below.refl _ _).alloc (Nat.le_refl _) _
      have HW2 : Hid _ := hW2
      clear hW2 d0 d1 d2
      generalize wr = wo at *
      go_loopw [6] (fun u wr => ∃ i : Nat, i ≤ j ∧ u = .int .i64 (i : Int) ∧ Hid ((m.funcs.take i).any (fun g => decide (g.name = y.name)) = false) ∧ Below (wo.heap.size + 1) W2 wr) (fun u _ => (j - intOf u).toNat)
      case atStart => exact ⟨0, by omega, rfl, rfl, by rw [HW2.out]; exact Below.refl _ _⟩
      case round =>
        obtain ⟨i, i1, rfl, i2, bel⟩ := hrel
        have zq : wo.heap.size + 1 ≤ wr.heap.size := by have := bel.size; omega
        have Bo : Hid (Below wo.heap.size wo wr) := bW.out.trans (bel.mono (by omega))
        have BW : Hid (Below w.heap.size w wr) := Bw.out.trans (Bo.out.mono (by omega))
        have BL2 : Hid (Below (w.heap.size + 1) W1 wr) := BL.out.trans (Bo.out.mono z)
        have f0 := (belc bel wo.heap.size 0 (by omega)).trans y0.out
        have f1 := (belc bel wo.heap.size 1 (by omega)).trans y1.out
        have f2 := (belc bel wo.heap.size 2 (by omega)).trans y2.out
        have g0 := (belc Bo.out w.heap.size 0 (by omega)).trans x0
        have g1 := (belc Bo.out w.heap.size 1 (by omega)).trans x1
        clear x0 x1
        have BQ : Hid (Below (wo.heap.size + 1) W2 wr) := bel
        clear bel
        by_cases hi : i < j
        · obtain ⟨g, hg⟩ : ∃ g, m.funcs[i]? = some g := ⟨_, List.getElem?_eq_getElem (by omega)⟩
          have d0 := (belc Bo.out bb (oo + i * 3) (by omega)).trans (H4.out i g hg)
          have hii : (i : Int) < (m.funcs.length : Int) := by omega
          have hgt : (m.funcs.take j)[i]? = some g := by rw [List.getElem?_take_of_lt hi]; exact hg
          have HG : Hid _ := hg
          have HGt : Hid _ := hgt
          clear hg hgt
          by_cases hk : g.name = y.name
          · have hk2 : (g.name.toList == y.name.toList) = true := by rw [str_beq]; exact decide_eq_true hk
            have HK : Hid (decide (g.name = y.name) = true) := decide_eq_true hk
            have hr : Hid (imgChk m = 7) := by show _ = _; rw [HC.out]; have h4 : fchk m.text.length [] m.funcs 0 = 7 := (by rw [HFk.out, if_neg (by simp [hn]), if_pos (any_hit _ _ _ _ HGt.out HK.out)]); rw [h4]; rfl
            clear hk HFk HC
            go_wp2_with fail
            go_quiet (fail)
            go_wp2
            go_ret
            exact ⟨by rw [hr.out]; rfl, bel_drewN BW.out _⟩
          · have hk2 : (g.name.toList == y.name.toList) = false := by rw [str_beq]; exact decide_eq_false hk
            have HK : Hid (decide (g.name = y.name) = false) := decide_eq_false hk
            clear hk
            go_wp2_with fail
            go_quiet (fail)
            go_wp2
            go_roundw
            case rel => exact ⟨i + 1, by omega, by go_num, any_next _ _ _ _ HG.out i2.out HK.out, bel_drewN BQ.out _⟩
            case measure => simp [intOf]; omega
        · obtain rfl : i = j := by omega
          have HG : Hid (fchk m.text.length [] m.funcs 0 = if y.start ≠ en ∨ y.size < 1 ∨ m.text.length - en < y.size then 8 else fchk m.text.length (m.funcs.take (i + 1)) (m.funcs.drop (i + 1)) (en + y.size)) := by show _ = _; rw [HFk.out, if_neg (by simp [hn]), if_neg (by rw [i2.out]; simp)]
          clear HFk
          by_cases p1 : y.start = en
          · by_cases p2 : y.size < 1 ∨ m.text.length - en < y.size
            · have hr : Hid (imgChk m = 8) := by show _ = _; rw [HC.out]; have h4 : fchk m.text.length [] m.funcs 0 = 8 := (by rw [HG.out, if_pos (by omega)]); rw [h4]; rfl
              have hin : (decide ((1 : Int) ≤ y.size) && decide (y.size ≤ (m.text.length : Int) - en)) = false := by rw [Bool.and_eq_false_iff, decide_eq_false_iff_not, decide_eq_false_iff_not]; omega
              clear HG HC p2
              subst p1
              go_wp2_with (go_at_call 39; refine (jin_any _ _ _ _).mono ?_; rw [hin]; rintro e w1 ⟨rfl, hw1⟩; obtain rfl := hw1.symm)
              go_ret
              exact ⟨by rw [hr.out]; rfl, BW.out⟩
            · have hr : Hid (fchk m.text.length (m.funcs.take (i + 1)) (m.funcs.drop (i + 1)) (en + y.size) = fchk m.text.length [] m.funcs 0) := by show _ = _; rw [HG.out, if_neg (by omega)]
              have hin : (decide ((1 : Int) ≤ y.size) && decide (y.size ≤ (m.text.length : Int) - en)) = true := by rw [Bool.and_eq_true, decide_eq_true_iff, decide_eq_true_iff]; omega
              have p3 : 1 ≤ y.size := by omega
              have p4 : y.size ≤ m.text.length - en := by omega
              clear HG HC p2
              subst p1
              go_wp2_with (go_at_call 39; refine (jin_any _ _ _ _).mono ?_; rw [hin]; rintro e w1 ⟨rfl, hw1⟩; obtain rfl := hw1.symm)
              go_roundw
              case rel => exact ⟨i + 1, y.start + y.size, by omega, by go_num, by omega, by omega, by go_num, hr, BL2.out⟩
              case measure => simp [intOf]; omega
          · have hr : Hid (imgChk m = 8) := by show _ = _; rw [HC.out]; have h4 : fchk m.text.length [] m.funcs 0 = 8 := (by rw [HG.out, if_pos (by omega)]); rw [h4]; rfl
            have q1c : (y.start != en) = true := by simp [p1]
            clear HG HC
            go_wp2
            go_ret
            exact ⟨by rw [hr.out]; rfl, BW.out⟩
    · have hd : m.funcs.drop j = [] := List.drop_of_length_le (by omega)
      by_cases p1 : en < (m.text.length : Int)
      · have hr : Hid (imgChk m = 8) := by show _ = _; rw [HC.out]; have h4 : fchk m.text.length [] m.funcs 0 = 8 := (by rw [← j2.out, hd, fchk, if_neg (by omega)]); rw [h4]; rfl
        clear j2 hd HC
        go_wp2
        go_ret
        exact ⟨by rw [hr.out]; rfl, Bw.out⟩
      obtain rfl : en = (m.text.length : Int) := by omega
      have hf0 : fchk m.text.length [] m.funcs 0 = 0 := by rw [← j2.out, hd, fchk, if_pos rfl]
      have HC2 : Hid (imgChk m = if m.entry < 0 ∨ m.funcs.length ≤ m.entry then 6 else if 20 < m.tables.length ∨ 64 < m.data.length then 1 else if tchk m.text.length m.tables ≠ 0 then tchk m.text.length m.tables
        else if (∃ x ∈ m.data, x < -1099511627776 ∨ 1099511627776 < x) then 2 else if 4000 < m.lines.length then 1 else lchk m.text.length m.lines (-1)) := by
        show _ = _; rw [HC.out, if_neg (by rw [hf0]; simp)]
      clear HC hf0 j2 hd p1 e0 e1
      have x2 := (belc BL.out w.heap.size 2 (by omega)).trans X2.out
      have x3 := (belc BL.out w.heap.size 3 (by omega)).trans X3.out
      have x4 := (belc BL.out w.heap.size 4 (by omega)).trans X4.out
      have x5 := (belc BL.out w.heap.size 5 (by omega)).trans X5.out
      by_cases p2 : m.entry < 0 ∨ (m.funcs.length : Int) ≤ m.entry
      · have hr : Hid (imgChk m = 6) := by show _ = _; rw [HC2.out, if_pos p2]
        have hin : (decide ((0 : Int) ≤ m.entry) && decide (m.entry ≤ (m.funcs.length : Int) - 1)) = false := in_no (by omega)
        clear HC2 p2
        go_wp2_with (go_at_call 39; refine (jin_any _ _ _ _).mono ?_; rw [hin]; rintro e w1 ⟨rfl, hw1⟩; obtain rfl := hw1.symm)
        go_ret
        exact ⟨by rw [hr.out]; rfl, Bw.out⟩
      have hin : (decide ((0 : Int) ≤ m.entry) && decide (m.entry ≤ (m.funcs.length : Int) - 1)) = true := in_yes (by omega)
      have hbl := HBl.out
      by_cases p3 : (20 : Int) < vs.length
      · have hr : Hid (imgChk m = 1) := by show _ = _; rw [HC2.out, if_neg p2, if_pos (by omega)]
        clear HC2 p2 hbl
        go_wp2_with (go_at_call 39; refine (jin_any _ _ _ _).mono ?_; rw [hin]; rintro e w1 ⟨rfl, hw1⟩; obtain rfl := hw1.symm)
        go_ret
        exact ⟨by rw [hr.out]; rfl, Bw.out⟩
      by_cases p4 : (64 : Int) < m.data.length
      · have hr : Hid (imgChk m = 1) := by show _ = _; rw [HC2.out, if_neg p2, if_pos (by omega)]
        clear HC2 p2 hbl
        go_wp2_with (go_at_call 39; refine (jin_any _ _ _ _).mono ?_; rw [hin]; rintro e w1 ⟨rfl, hw1⟩; obtain rfl := hw1.symm)
        go_ret
        exact ⟨by rw [hr.out]; rfl, Bw.out⟩
      have HC3 : Hid (imgChk m = if tchk m.text.length m.tables ≠ 0 then tchk m.text.length m.tables
        else if (∃ x ∈ m.data, x < -1099511627776 ∨ 1099511627776 < x) then 2 else if 4000 < m.lines.length then 1 else lchk m.text.length m.lines (-1)) := by
        show _ = _; rw [HC2.out, if_neg p2, if_neg (by omega)]
      clear HC2 p2 hbl
      go_wp2_with (go_at_call 39; refine (jin_any _ _ _ _).mono ?_; rw [hin]; rintro e w1 ⟨rfl, hw1⟩; obtain rfl := hw1.symm)
      clear hin x0 x1 x2 x3 x4 x5
      generalize wr = wa at *
      go_loopw [7] (fun u wr => ∃ k : Nat, k ≤ vs.length ∧ u = .int .i64 (k : Int) ∧ Hid (tchk m.text.length (m.tables.drop k) = tchk m.text.length m.tables) ∧ Below (w.heap.size + 1) W1 wr) (fun u _ => (vs.length - intOf u).toNat)
      case atStart => exact ⟨0, by omega, rfl, rfl, BL.out⟩
      case round =>
        obtain ⟨k, k1, rfl, k2, bel⟩ := hrel
        clear BL Bw z
        have z : w.heap.size + 1 ≤ wr.heap.size := by have := bel.size; omega
        have Bw : Hid (Below w.heap.size w wr) := B0.out.trans (bel.mono (by omega))
        have BL : Hid (Below (w.heap.size + 1) W1 wr) := bel
        have x0 := (belc bel w.heap.size 0 (by omega)).trans X0.out
        have x2 := (belc bel w.heap.size 2 (by omega)).trans X2.out
        clear bel
        by_cases hk : k < vs.length
        · obtain ⟨y, hy⟩ : ∃ y, vs[k]? = some y := ⟨_, List.getElem?_eq_getElem (by omega)⟩
          obtain ⟨t, ht⟩ : ∃ t, m.tables[k]? = some t := ⟨_, List.getElem?_eq_getElem (by have := HBl.out; omega)⟩
          obtain ⟨bb, oo, cap, hv, c1, c2, c3, c4⟩ := HBa.out.resolve_left (by rintro ⟨_, _, _, h⟩; rw [h] at hk; simp at hk)
          cases hv
          have d0 := c4 k y hy 0 y rfl
          rw [Nat.mul_one, Nat.add_zero] at d0
          have D0 : Hid _ := d0
          have d1 := (Bw.out.cell (p := ⟨bb, _, none⟩) c3).trans d0
          have hT := HBe.out k y t hy ht
          obtain ⟨a1, n1, rfl, hlt⟩ := hT.form
          have HT : Hid (ListAt w icell 1 (.slice a1 t.length n1) t) := hT
          unfold maxLen at hlt
          have HFk : Hid _ := k2.out.symm.trans (tchk_at m.text.length m.tables k t ht)
          have hb2 : bb < wr.heap.size := by omega
          have hkk : (k : Int) < (vs.length : Int) := by omega
          clear c4 d0 hy ht hT k2
          by_cases p5 : (20 : Int) < t.length
          · have hr : Hid (imgChk m = 1) := by show _ = _; rw [HC3.out]; have h4 : tchk m.text.length m.tables = 1 := (by rw [HFk.out, if_pos (by omega)]); rw [h4]; rfl
            clear HFk HC3
            go_wp2
            go_ret
            exact ⟨by rw [hr.out]; rfl, Bw.out⟩
          go_wp2_with fail
          clear x0 x2 d1
          generalize wr = wb at *
          go_loopw [8] (fun u wr => ∃ i : Nat, i ≤ t.length ∧ u = .int .i64 (i : Int) ∧ Hid ((t.take i).any (outB m.text.length) = false) ∧ Below (w.heap.size + 1) W1 wr) (fun u _ => (t.length - intOf u).toNat)
          case atStart => exact ⟨0, by omega, rfl, rfl, BL.out⟩
          case round =>
            obtain ⟨i, i1, rfl, i2, bel⟩ := hrel
            clear BL Bw z hb2
            have z : w.heap.size + 1 ≤ wr.heap.size := by have := bel.size; omega
            have Bw : Hid (Below w.heap.size w wr) := B0.out.trans (bel.mono (by omega))
            have BL : Hid (Below (w.heap.size + 1) W1 wr) := bel
            have x0 := (belc bel w.heap.size 0 (by omega)).trans X0.out
            have x2 := (belc bel w.heap.size 2 (by omega)).trans X2.out
            have d1 := (Bw.out.cell (p := ⟨bb, _, none⟩) c3).trans D0.out
            clear bel
            by_cases hi : i < t.length
            · obtain ⟨v, hv⟩ : ∃ v, t[i]? = some v := ⟨_, List.getElem?_eq_getElem (by omega)⟩
              obtain ⟨b2, o2, cap2, hv2, c12, c22, c32, c42⟩ := HT.out.resolve_left (by rintro ⟨_, _, _, h⟩; rw [h] at hi; simp at hi)
              cases hv2
              have d2 := c42 i v hv 0 (.int .i64 v) rfl
              rw [Nat.mul_one, Nat.add_zero] at d2
              have d3 := (Bw.out.cell (p := ⟨b2, _, none⟩) c32).trans d2
              have hii : (i : Int) < (t.length : Int) := by omega
              have HV : Hid _ := hv
              clear c42 d2 hv
              cases hk2 : outB m.text.length v
              · have hin : (decide ((0 : Int) ≤ v) && decide (v ≤ (m.text.length : Int) - 1)) = true := in_yes (by simp [outB] at hk2; omega)
                have HI : Hid _ := hin
                have HK : Hid _ := hk2
                clear hin hk2
                go_wp2_with fail
                go_quiet (first | (go_at_call 39; exact Calls.quiet_of_same (jin_is _ _ _ _ HI.out _)))
                go_wp2
                go_roundw
                case rel => exact ⟨i + 1, by omega, by go_num, any_next _ _ _ _ HV.out i2.out HK.out, bel_drewN BL.out _⟩
                case measure => simp [intOf]; omega
              · have hin : (decide ((0 : Int) ≤ v) && decide (v ≤ (m.text.length : Int) - 1)) = false := in_no (by simp [outB] at hk2; omega)
                have HI : Hid _ := hin
                have hr : Hid (imgChk m = 2) := by show _ = _; rw [HC3.out]; have h4 : tchk m.text.length m.tables = 2 := (by rw [HFk.out, if_neg (by omega), if_pos (any_hit _ _ _ _ HV.out hk2)]); rw [h4]; rfl
                clear HFk HC3 hin hk2
                go_wp2_with fail
                go_quiet (first | (go_at_call 39; exact Calls.quiet_of_same (jin_is _ _ _ _ HI.out _)))
                go_wp2
                go_ret
                exact ⟨by rw [hr.out]; rfl, bel_drewN Bw.out _⟩
            · have hr : Hid (tchk m.text.length (m.tables.drop (k + 1)) = tchk m.text.length m.tables) := by show _ = _; rw [HFk.out, if_neg (by omega), if_neg (by have := i2.out; rw [List.take_of_length_le (by omega)] at this; rw [this]; simp)]
              clear HFk i2 HC3
              go_wp2
              go_roundw
              case rel => exact ⟨k + 1, by omega, by go_num, hr, BL.out⟩
              case measure => simp [intOf]; omega
        · have ht0 : tchk m.text.length m.tables = 0 := by rw [← k2.out, List.drop_of_length_le (by have := HBl.out; omega)]; rfl
          have HC4 : Hid (imgChk m = if m.data.any farB = true then 2 else if 4000 < m.lines.length then 1 else lchk m.text.length m.lines (-1)) := by
            show _ = _; rw [HC3.out, if_neg (by rw [ht0]; simp)]; simp only [far_some]
          clear HC3 ht0 k2
          have x3 := (belc BL.out w.heap.size 3 (by omega)).trans X3.out
          go_wp2_with fail
          clear x0 x2 x3
          generalize wr = wb at *
          go_loopw [9] (fun u wr => ∃ i : Nat, i ≤ m.data.length ∧ u = .int .i64 (i : Int) ∧ Hid ((m.data.take i).any farB = false) ∧ Below (w.heap.size + 1) W1 wr) (fun u _ => (m.data.length - intOf u).toNat)
          case atStart => exact ⟨0, by omega, rfl, rfl, BL.out⟩
          case round =>
            obtain ⟨i, i1, rfl, i2, bel⟩ := hrel
            clear BL Bw z
            have z : w.heap.size + 1 ≤ wr.heap.size := by have := bel.size; omega
            have Bw : Hid (Below w.heap.size w wr) := B0.out.trans (bel.mono (by omega))
            have BL : Hid (Below (w.heap.size + 1) W1 wr) := bel
            have x3 := (belc bel w.heap.size 3 (by omega)).trans X3.out
            clear bel
            by_cases hi : i < m.data.length
            · obtain ⟨v, hv⟩ : ∃ v, m.data[i]? = some v := ⟨_, List.getElem?_eq_getElem (by omega)⟩
              obtain ⟨b2, o2, cap2, hv2, c12, c22, c32, c42⟩ := HD.out.resolve_left (by rintro ⟨_, _, _, h⟩; rw [h] at hi; simp at hi)
              cases hv2
              have d2 := c42 i v hv 0 (.int .i64 v) rfl
              rw [Nat.mul_one, Nat.add_zero] at d2
              have d3 := (Bw.out.cell (p := ⟨b2, _, none⟩) c32).trans d2
              have hii : (i : Int) < (m.data.length : Int) := by omega
              have HV : Hid _ := hv
              clear c42 d2 hv
              cases hk2 : farB v
              · have hin : (decide ((-1099511627776 : Int) ≤ v) && decide (v ≤ 1099511627776)) = true := in_yes (by simp [farB] at hk2; omega)
                have HK : Hid _ := hk2
                clear hk2
                go_wp2_with (go_at_call 39; refine (jin_any _ _ _ _).mono ?_; rw [hin]; rintro e w1 ⟨rfl, hw1⟩; obtain rfl := hw1.symm)
                go_roundw
                case rel => exact ⟨i + 1, by omega, by go_num, any_next _ _ _ _ HV.out i2.out HK.out, BL.out⟩
                case measure => simp [intOf]; omega
              · have hin : (decide ((-1099511627776 : Int) ≤ v) && decide (v ≤ 1099511627776)) = false := in_no (by simp [farB] at hk2; omega)
                have hr : Hid (imgChk m = 2) := by show _ = _; rw [HC4.out, if_pos (any_hit _ _ _ _ HV.out hk2)]
                clear HC4 hk2
                go_wp2_with (go_at_call 39; refine (jin_any _ _ _ _).mono ?_; rw [hin]; rintro e w1 ⟨rfl, hw1⟩; obtain rfl := hw1.symm)
                go_ret
                exact ⟨by rw [hr.out]; rfl, Bw.out⟩
            · have hd0 : m.data.any farB = false := by have := i2.out; rwa [List.take_of_length_le (by omega)] at this
              have x4 := (belc BL.out w.heap.size 4 (by omega)).trans X4.out
              by_cases p6 : (4000 : Int) < m.lines.length
              · have hr : Hid (imgChk m = 1) := by show _ = _; rw [HC4.out, if_neg (by rw [hd0]; simp), if_pos (by omega)]
                clear HC4 hd0 i2
                go_wp2
                go_ret
                exact ⟨by rw [hr.out]; rfl, Bw.out⟩
              have HC5 : Hid (imgChk m = lchk m.text.length m.lines (-1)) := by show _ = _; rw [HC4.out, if_neg (by rw [hd0]; simp), if_neg (by omega)]
              clear HC4 hd0 i2
              go_wp2_with fail
              clear x3 x4
              generalize wr = wc at *
              go_loopw [10] (fun u wr => ∃ (k : Nat) (ah : Int), k ≤ m.lines.length ∧ u = .int .i64 (k : Int) ∧ Hid (lchk m.text.length (m.lines.drop k) ah = lchk m.text.length m.lines (-1)) ∧ Hid ((k = 0 ∧ ah = -1) ∨ ∃ (l : Ln) (k' : Nat), k = k' + 1 ∧ m.lines[k']? = some l ∧ l.a = ah ∧ -1 ≤ ah ∧ ah < m.text.length) ∧ Below (w.heap.size + 1) W1 wr) (fun u _ => (m.lines.length - intOf u).toNat)
              case atStart => exact ⟨0, -1, by omega, rfl, rfl, Or.inl ⟨rfl, rfl⟩, BL.out⟩
              case round =>
                obtain ⟨k, ah, k1, rfl, k2, k3, bel⟩ := hrel
                clear BL Bw z
                have z : w.heap.size + 1 ≤ wr.heap.size := by have := bel.size; omega
                have Bw : Hid (Below w.heap.size w wr) := B0.out.trans (bel.mono (by omega))
                have BL : Hid (Below (w.heap.size + 1) W1 wr) := bel
                have x0 := (belc bel w.heap.size 0 (by omega)).trans X0.out
                have x4 := (belc bel w.heap.size 4 (by omega)).trans X4.out
                clear bel
                by_cases hk : k < m.lines.length
                · obtain ⟨y, hy⟩ : ∃ y, m.lines[k]? = some y := ⟨_, List.getElem?_eq_getElem (by omega)⟩
                  obtain ⟨bb, oo, cap, hv, c1, c2, c3, c4⟩ := HL.out.resolve_left (by rintro ⟨_, _, _, h⟩; rw [h] at hk; simp at hk)
                  cases hv
                  have d0 : wr.cell? ⟨bb, oo + k * 2, none⟩ = some (.int .i64 y.a) := (Bw.out.cell (p := ⟨bb, _, none⟩) c3).trans (c4 k y hy 0 _ rfl)
                  have d1 : wr.cell? ⟨bb, oo + k * 2 + 1, none⟩ = some (.int .i64 y.n) := (Bw.out.cell (p := ⟨bb, _, none⟩) c3).trans (c4 k y hy 1 _ rfl)
                  have hkk : (k : Int) < (m.lines.length : Int) := by omega
                  obtain ⟨⟨r1, r2⟩, r3, r4⟩ := HO.out.lines y (List.mem_of_getElem? hy)
                  have HFk : Hid _ := k2.out.symm.trans (lchk_at m.text.length ah m.lines k y hy)
                  have HY : Hid _ := hy
                  clear hy k2
                  by_cases p7 : y.n < 0 ∨ 10000 < y.n
                  · have hr : Hid (imgChk m = 2) := by show _ = _; rw [HC5.out, HFk.out, if_pos p7]
                    have hin : (decide ((0 : Int) ≤ y.n) && decide (y.n ≤ 10000)) = false := in_no (by omega)
                    clear HFk HC5 p7 c4 k3
                    go_wp2_with (go_at_call 39; refine (jin_any _ _ _ _).mono ?_; rw [hin]; rintro e w1 ⟨rfl, hw1⟩; obtain rfl := hw1.symm)
                    go_ret
                    exact ⟨by rw [hr.out]; rfl, Bw.out⟩
                  have hin : (decide ((0 : Int) ≤ y.n) && decide (y.n ≤ 10000)) = true := in_yes (by omega)
                  have HG : Hid (lchk m.text.length m.lines (-1) = if y.a ≤ ah ∨ m.text.length ≤ y.a then 8 else lchk m.text.length (m.lines.drop (k + 1)) y.a) := by show _ = _; rw [HFk.out, if_neg p7]
                  clear HFk p7
                  rcases k3.out with ⟨rfl, rfl⟩ | ⟨l, k', rfl, hl, rfl, s1, s2⟩
                  · clear k3 c4
                    simp only [Nat.zero_mul, Nat.add_zero] at d0 d1
                    by_cases p8 : y.a ≤ -1 ∨ m.text.length ≤ y.a
                    · have hr : Hid (imgChk m = 8) := by show _ = _; rw [HC5.out, HG.out, if_pos p8]
                      have hin2 : (decide ((0 : Int) ≤ y.a) && decide (y.a ≤ (m.text.length : Int) - 1)) = false := in_no (by omega)
                      have HI : Hid _ := hin2
                      clear HG HC5 p8 hin2
                      go_wp2_with (go_at_call 39; refine (jin_any _ _ _ _).mono ?_; rw [hin]; rintro e w1 ⟨rfl, hw1⟩; obtain rfl := hw1.symm)
                      go_quiet (first | (go_at_call 39; exact Calls.quiet_of_same (jin_is _ _ _ _ HI.out _)))
                      go_wp2
                      go_ret
                      exact ⟨by rw [hr.out]; rfl, bel_drewN Bw.out _⟩
                    · have hr : Hid (lchk m.text.length (m.lines.drop (0 + 1)) y.a = lchk m.text.length m.lines (-1)) := by show _ = _; rw [HG.out, if_neg p8]
                      have hin2 : (decide ((0 : Int) ≤ y.a) && decide (y.a ≤ (m.text.length : Int) - 1)) = true := in_yes (by omega)
                      have HI : Hid _ := hin2
                      have HP : Hid (-1 ≤ y.a ∧ y.a < m.text.length) := ⟨by omega, by omega⟩
                      clear HG HC5 p8 hin2
                      go_wp2_with (go_at_call 39; refine (jin_any _ _ _ _).mono ?_; rw [hin]; rintro e w1 ⟨rfl, hw1⟩; obtain rfl := hw1.symm)
                      go_quiet (first | (go_at_call 39; exact Calls.quiet_of_same (jin_is _ _ _ _ HI.out _)))
                      go_wp2
                      go_roundw
                      case rel => exact ⟨0 + 1, y.a, by omega, by go_num, hr, Or.inr ⟨y, 0, rfl, HY.out, rfl, HP.out.1, HP.out.2⟩, bel_drewN BL.out _⟩
                      case measure => simp [intOf]; omega
                  · have d2 : wr.cell? ⟨bb, oo + k' * 2, none⟩ = some (.int .i64 l.a) := (Bw.out.cell (p := ⟨bb, _, none⟩) c3).trans (c4 k' l hl 0 _ rfl)
                    have hkp : ((k' + 1 : Nat) : Int) - 1 = (k' : Int) := by omega
                    have hkq : (0 : Int) < ((k' + 1 : Nat) : Int) := by omega
                    clear k3 c4 hl
                    by_cases p8 : y.a ≤ l.a ∨ m.text.length ≤ y.a
                    · have hr : Hid (imgChk m = 8) := by show _ = _; rw [HC5.out, HG.out, if_pos p8]
                      have hin2 : (decide (l.a + 1 ≤ y.a) && decide (y.a ≤ (m.text.length : Int) - 1)) = false := in_no (by omega)
                      have HI : Hid _ := hin2
                      clear HG HC5 p8 hin2
                      go_wp2_with (go_at_call 39; refine (jin_any _ _ _ _).mono ?_; rw [hin]; rintro e w1 ⟨rfl, hw1⟩; obtain rfl := hw1.symm)
                      go_quiet (first | (go_at_call 39; exact Calls.quiet_of_same (jin_is _ _ _ _ HI.out _)))
                      go_wp2
                      go_ret
                      exact ⟨by rw [hr.out]; rfl, bel_drewN Bw.out _⟩
                    · have hr : Hid (lchk m.text.length (m.lines.drop (k' + 1 + 1)) y.a = lchk m.text.length m.lines (-1)) := by show _ = _; rw [HG.out, if_neg p8]
                      have hin2 : (decide (l.a + 1 ≤ y.a) && decide (y.a ≤ (m.text.length : Int) - 1)) = true := in_yes (by omega)
                      have HI : Hid _ := hin2
                      have HP : Hid (-1 ≤ y.a ∧ y.a < m.text.length) := ⟨by omega, by omega⟩
                      clear HG HC5 p8 hin2
                      go_wp2_with (go_at_call 39; refine (jin_any _ _ _ _).mono ?_; rw [hin]; rintro e w1 ⟨rfl, hw1⟩; obtain rfl := hw1.symm)
                      go_quiet (first | (go_at_call 39; exact Calls.quiet_of_same (jin_is _ _ _ _ HI.out _)))
                      go_wp2
                      go_roundw
                      case rel => exact ⟨k' + 1 + 1, y.a, by omega, by go_num, hr, Or.inr ⟨y, k' + 1, rfl, HY.out, rfl, HP.out.1, HP.out.2⟩, bel_drewN BL.out _⟩
                      case measure => simp [intOf]; omega
                · have hr : Hid (imgChk m = 0) := by show _ = _; rw [HC5.out, ← k2.out, List.drop_of_length_le (by omega)]; rfl
                  clear k2 k3 HC5
                  go_wp2
                  go_ret
                  exact ⟨by rw [hr.out]; rfl, Bw.out⟩
end Go.Proofs.Ytmibbjjfijcgpac
