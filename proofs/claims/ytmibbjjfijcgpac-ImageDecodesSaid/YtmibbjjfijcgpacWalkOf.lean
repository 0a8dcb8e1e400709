/-
  boltholeref.ImageOf.
-/
import Derived.Test.YtmibbjjfijcgpacOiKit
import Derived.Test.YtmibbjjfijcgpacWalkFt
import Derived.Test.YtmibbjjfijcgpacWalkDe
import Derived.Deep.DeepCutAuto
import Derived.Deep.CutBlock
namespace Go.Proofs.Ytmibbjjfijcgpac
open Go.RowKit Go.Joins
set_option maxRecDepth 100000 in
set_option maxHeartbeats 16000000 in
theorem imageOf_any (v : Value) (bs : List Int) (w : World) (h : ListAt w ucell 1 v bs) (hb : ∀ x ∈ bs, 0 ≤ x ∧ x ≤ 255) :
    Calls Try.prog 17 #[v] w fun e w' =>
      (decErr bs ≠ 0 ∧ e = .returned (.tuple #[.agg #[.slice none 0 0, .slice none 0 0, .slice none 0 0, .slice none 0 0, .slice none 0 0, .int .i64 0], .int .i64 (decErr bs)]) ∧ Below w.heap.size w w') ∨
      (decErr bs = 0 ∧ ∃ vT vF vB vD vL, e = .returned (.tuple #[.agg #[vT, vF, vB, vD, vL, .int .i64 (decImg bs).entry], .int .i64 0]) ∧ ImgAt w' vT vF vB vD vL (decImg bs) ∧ Below w.heap.size w w') := by
  obtain ⟨a, cap, rfl, hlen⟩ := h.form
  have HL : Hid (ListAt w ucell 1 (.slice a bs.length cap) bs) := h
  have HBY : Hid (∀ x ∈ bs, 0 ≤ x ∧ x ≤ 255) := hb
  unfold maxLen at hlen
  clear h hb
  by_cases q1 : (100000 : Int) < bs.length
  · have HD : Hid (decErr bs = 1) := by show _ = _; unfold decErr; rw [if_pos (by omega)]
    go_enter Try.func17, Try.ntmps17
    go_wp2
    exact bodyPost_ret (v := .tuple #[.agg #[.slice none 0 0, .slice none 0 0, .slice none 0 0, .slice none 0 0, .slice none 0 0, .int .i64 0], .int .i64 1]) (by simp [results, Try.results17, go_sem]) rfl (Or.inl ⟨by rw [HD.out]; decide, by rw [HD.out], (Below.refl _ _).alloc (Nat.le_refl _) _⟩)
  have hq1 : ¬ 100000 < bs.length := by omega
  obtain ⟨w1, hw1⟩ : ∃ w1, w.alloc (.cells #[.slice none 0 0, .slice none 0 0, .slice none 0 0, .slice none 0 0, .slice none 0 0, .int .i64 0] 28) = w1 := ⟨_, rfl⟩
  have B1 : Hid (Below w.heap.size w w1) := by show Below _ _ _; rw [← hw1]; exact (Below.refl _ _).alloc (Nat.le_refl _) _
  have BR1 : Hid (w1.heap[w.heap.size]? = some (.cells #[.slice none 0 0, .slice none 0 0, .slice none 0 0, .slice none 0 0, .slice none 0 0, .int .i64 0] 28)) := by show _ = _; rw [← hw1]; exact a_new _ _
  have Z1 : Hid (w1.heap.size = w.heap.size + 1) := by show _ = _; rw [← hw1]; simp
  have z1 : w.heap.size < w1.heap.size := by rw [Z1.out]; omega
  have HW1 : Hid _ := hw1
  go_enter Try.func17, Try.ntmps17
  go_wp2_with fail
  try rw [HW1.out]
  clear hw1 HW1
  go_loopw [4] (fun u wr => ∃ j : Nat, j ≤ 4 ∧ j ≤ bs.length ∧ u = .int .i64 (j : Int) ∧ Hid (markChk magic bs = markChk (magic.drop j) (bs.drop j)) ∧ Hid (Below w1.heap.size w1 wr)) (fun u _ => (4 - intOf u).toNat)
  case atStart => exact ⟨0, by omega, by omega, rfl, rfl, Below.refl _ _⟩
  case round =>
    obtain ⟨j, j1, j2, rfl, hm, hb⟩ := hrel
    have bw : Hid (Below w.heap.size w wr) := B1.out.trans (hb.out.mono (by omega))
    have BRr : Hid (wr.heap[w.heap.size]? = some (.cells #[.slice none 0 0, .slice none 0 0, .slice none 0 0, .slice none 0 0, .slice none 0 0, .int .i64 0] 28)) := (hb.out.block _ z1).trans BR1.out
    rcases Nat.lt_or_ge j 4 with hj | hj
    · obtain ⟨x0, x1, x2, x3, x4, x5⟩ := six_cells BRr.out
      obtain ⟨y0, y1, y2, y3, y4, y5⟩ := six_free BRr.out
      rcases Nat.lt_or_ge j bs.length with hl | hl
      · obtain ⟨y, hy⟩ : ∃ y, bs[j]? = some y := ⟨_, List.getElem?_eq_getElem (by omega)⟩
        obtain ⟨bb, oo, cp, hv, c1, c2, c3, c4⟩ := HL.out.resolve_left (by rintro ⟨_, _, _, h⟩; subst h; simp at hl)
        cases hv
        have d0 := c4 j y hy 0 (.int .u8 y) rfl
        rw [Nat.mul_one, Nat.add_zero] at d0
        have e0 := (bw.out.cell (p := ⟨bb, oo + j, none⟩) c3).trans d0
        have hj4 : j = 0 ∨ j = 1 ∨ j = 2 ∨ j = 3 := by omega
        obtain ⟨m, hmj⟩ : ∃ m, magic[j]? = some m := ⟨_, List.getElem?_eq_getElem (by simp [magic]; omega)⟩
        have HM : Hid _ := mark_at j bs m y hmj hy
        clear c4 hy d0
        have hjj : (j : Int) < (bs.length : Int) := by omega
        have hne : ¬ bs = [] := by rintro rfl; simp at hl
        by_cases q : y = m
        · have HQ : Hid (markChk magic bs = markChk (magic.drop (j + 1)) (bs.drop (j + 1))) := by show _ = _; rw [hm.out, HM.out, if_pos q]
          subst q
          clear hm HM x0 x1 x2 x3 x4 x5 y0 y1 y2 y3 y4 y5
          rcases hj4 with rfl | rfl | rfl | rfl
          all_goals
            simp [magic] at hmj
            subst hmj
            simp at hl hjj
            have e1 := e0
            try rw [Nat.add_zero] at e1
            go_wp2
            go_quiet (fail)
            go_wp2
            go_roundw
            case rel => exact ⟨_, by omega, by omega, by go_num, HQ.out, jdrewN hb.out _⟩
            case measure => simp [intOf]
        · have HQ : Hid (markChk magic bs = 4) := by show _ = _; rw [hm.out, HM.out, if_neg q]
          have HD : Hid (decErr bs = 4) := by show _ = _; unfold decErr; rw [if_neg hq1, if_pos (by rw [HQ.out]; decide), HQ.out]
          clear hm HM HQ
          rcases hj4 with rfl | rfl | rfl | rfl
          all_goals
            simp [magic] at hmj
            subst hmj
            simp at hl hjj
            have e1 := e0
            try rw [Nat.add_zero] at e1
            go_wp2
            go_quiet (fail)
            go_wp2
            · obtain ⟨s1, _, _, s4⟩ := six_put (.slice none 0 0) (.slice none 0 0) (.slice none 0 0) (.slice none 0 0) (.slice none 0 0) (.int .i64 0) (show (wr.drewN nq).heap[w.heap.size]? = _ from BRr.out)
              have hbz := s4 (jdrewN bw.out nq) (Nat.le_refl _)
              obtain ⟨Z, hZ⟩ : ∃ Z, (((((((wr.drewN nq).setCell ⟨w.heap.size, 0, none⟩ (.slice none 0 0)).setCell ⟨w.heap.size, 1, none⟩ (.slice none 0 0)).setCell ⟨w.heap.size, 2, none⟩ (.slice none 0 0)).setCell ⟨w.heap.size, 3, none⟩ (.slice none 0 0)).setCell ⟨w.heap.size, 4, none⟩ (.slice none 0 0)).setCell ⟨w.heap.size, 5, none⟩ (.int .i64 0)) = Z := ⟨_, rfl⟩
              rw [hZ] at s1 hbz
              rw [hZ]
              obtain ⟨d0, d1, d2, d3, d4, d5⟩ := six_cells s1
              exact bodyPost_ret (v := .tuple #[.agg #[.slice none 0 0, .slice none 0 0, .slice none 0 0, .slice none 0 0, .slice none 0 0, .int .i64 0], .int .i64 4]) (by simp [results, Try.results17, go_sem, d0, d1, d2, d3, d4, d5]) rfl (Or.inl ⟨by rw [HD.out]; decide, by rw [HD.out], hbz⟩)
            · rename_i hh
              exact absurd (bne_eq_false_iff_eq.1 hh) q
      · have hjl : j = bs.length := by omega
        have HQ : Hid (markChk magic bs = 5) := by
          show _ = _
          rw [hm.out, List.drop_of_length_le (l := bs) (by omega), List.drop_eq_getElem_cons (l := magic) (i := j) (by simp [magic]; omega), markChk]
        have HD : Hid (decErr bs = 5) := by show _ = _; unfold decErr; rw [if_neg hq1, if_pos (by rw [HQ.out]; decide), HQ.out]
        clear hm HQ
        have hjj : ¬ (j : Int) < (bs.length : Int) := by omega
        have hj3 : (j : Int) < 4 := by omega
        go_wp2
        obtain ⟨s1, _, _, s4⟩ := six_put (.slice none 0 0) (.slice none 0 0) (.slice none 0 0) (.slice none 0 0) (.slice none 0 0) (.int .i64 0) BRr.out
        have hbz := s4 bw.out (Nat.le_refl _)
        obtain ⟨Z, hZ⟩ : ∃ Z, ((((((wr.setCell ⟨w.heap.size, 0, none⟩ (.slice none 0 0)).setCell ⟨w.heap.size, 1, none⟩ (.slice none 0 0)).setCell ⟨w.heap.size, 2, none⟩ (.slice none 0 0)).setCell ⟨w.heap.size, 3, none⟩ (.slice none 0 0)).setCell ⟨w.heap.size, 4, none⟩ (.slice none 0 0)).setCell ⟨w.heap.size, 5, none⟩ (.int .i64 0)) = Z := ⟨_, rfl⟩
        rw [hZ] at s1 hbz
        rw [hZ]
        obtain ⟨d0, d1, d2, d3, d4, d5⟩ := six_cells s1
        exact bodyPost_ret (v := .tuple #[.agg #[.slice none 0 0, .slice none 0 0, .slice none 0 0, .slice none 0 0, .slice none 0 0, .int .i64 0], .int .i64 5]) (by simp [results, Try.results17, go_sem, d0, d1, d2, d3, d4, d5]) rfl (Or.inl ⟨by rw [HD.out]; decide, by rw [HD.out], hbz⟩)
    · have hj4 : j = 4 := by omega
      subst hj4
      have HQ : Hid (markChk magic bs = 0) := by show _ = _; rw [hm.out]; rfl
      clear hm
      obtain ⟨bb, oo, cp, hv, c1, c2, c3, c4⟩ := HL.out.resolve_left (by rintro ⟨_, _, _, h⟩; subst h; simp at j2)
      cases hv
      obtain ⟨W0, hW0⟩ : ∃ W0, (wr.alloc (.cells #[.slice (some ⟨bb, oo, none⟩) bs.length cap, .int .i64 4, .bool false] 59)).alloc (.cells #[.slice none 0 0, .slice none 0 0, .slice none 0 0, .slice none 0 0, .slice none 0 0, .int .i64 0] 28) = W0 := ⟨_, rfl⟩
      have bW : Below wr.heap.size wr W0 := by rw [← hW0]; exact ((Below.refl _ _).alloc (Nat.le_refl _) _).alloc (by simp) _
      have zW : W0.heap.size = wr.heap.size + 2 := by rw [← hW0]; simp
      have zr := bw.out.size
      have zr2 : w.heap.size < wr.heap.size := by have := hb.out.size; omega
      have OI : Hid (Oi W0 w.heap.size (wr.heap.size + 1) wr.heap.size bs W0 ⟨bs.drop 4, false⟩ #[.slice none 0 0, .slice none 0 0, .slice none 0 0, .slice none 0 0, .slice none 0 0, .int .i64 0]) := by
        refine ⟨Fr2.refl _ _ _, ?_, ?_, by omega, by omega, by omega, by omega⟩
        · rw [← hW0]; have := a_new (wr.alloc (.cells #[.slice (some ⟨bb, oo, none⟩) bs.length cap, .int .i64 4, .bool false] 59)) (.cells #[.slice none 0 0, .slice none 0 0, .slice none 0 0, .slice none 0 0, .slice none 0 0, .int .i64 0] 28); simpa using this
        · refine ⟨⟨bb, oo, cap, 4, ?_, (HL.out.stays (Nat.le_refl _) bw.out).stays (Nat.le_refl _) bW, c3, c1, c2, j2, fun _ => rfl⟩, fun h => (by cases h), HBY.out, zr, by omega⟩
          rw [← hW0]; exact (a_old _ _ _ (by simp)).trans (a_new _ _)
      have BZ : Hid (∀ wz, Fr2 (wr.heap.size + 1) wr.heap.size W0 wz → Below w.heap.size w wz ∧ wz.heap[w.heap.size]? = some (.cells #[.slice none 0 0, .slice none 0 0, .slice none 0 0, .slice none 0 0, .slice none 0 0, .int .i64 0] 28)) := fun wz hf => by
        have b0 : Below w.heap.size w W0 := bw.out.trans (bW.mono zr)
        refine ⟨⟨hf.os.trans b0.os, hf.tape.trans b0.tape, hf.output.trans b0.output, Nat.le_trans b0.size hf.size, fun k hk => (hf.block k (by omega) (by omega) (by omega)).trans (b0.block k hk)⟩, ?_⟩
        exact (hf.block _ (by omega) (by omega) (by omega)).trans ((bW.block _ zr2).trans BRr.out)
      have HW0 : Hid _ := hW0
      obtain ⟨ra, r1, r2, r3, r4, r5, r6, r7, r8, r9, r10, n, nf, nt, nd, nl, xs, fs, z, en, ts, ds, ls, hall, b1, b2, b3, b4, b5, b6, z1', z2', z3', z4', z5'⟩ := rdImg_all ⟨bs.drop 4, false⟩ (fun x hx => HBY.out x (List.mem_of_mem_drop hx))
      obtain ⟨e1, e2, e3, e4, e5, e6, e7, e8, e9, e10, e11⟩ := hall
      have ALL : Hid _ := rdImg_parts e1 e2 e3 e4 e5 e6 e7 e8 e9 e10 e11
      have E1 : Hid _ := e1; have E2 : Hid _ := e2; have E3 : Hid _ := e3; have E4 : Hid _ := e4; have E5 : Hid _ := e5; have E6 : Hid _ := e6; have E7 : Hid _ := e7; have E8 : Hid _ := e8; have E9 : Hid _ := e9; have E10 : Hid _ := e10; have E11 : Hid _ := e11
      clear c4 bW zW hb hW0 e1 e2 e3 e4 e5 e6 e7 e8 e9 e10 e11
      go_wp2_with fail
      try rw [HW0.out]
      clear HW0 BRr
      generalize wr.heap.size = gt at *
      refine (OI.out.num E1.out (by omega)).mono ?_
      rintro e wa ⟨rfl, oa, _⟩
      have OA : Hid _ := oa
      clear oa OI
      go_wp2_with fail
      refine (OA.out.next E2.out (by omega)).mono ?_
      rintro e wb ⟨aT, lT, cT, rfl, ob, laT, _⟩
      have k0 : wb.cell? ⟨gt + 1, 0, none⟩ = some (.slice none 0 0) := ob.cell 0
      have k1 := ob.free 0
      have O2 : Hid (Oi W0 w.heap.size (gt + 1) gt bs (wb.setCell ⟨gt + 1, 0, none⟩ (.slice aT lT cT)) r1 #[.slice aT lT cT, .slice none 0 0, .slice none 0 0, .slice none 0 0, .slice none 0 0, .int .i64 0]) := ob.set 0 _
      have LT : Hid (LA2 (wb.setCell ⟨gt + 1, 0, none⟩ (.slice aT lT cT)) (gt + 1) gt ucell 1 (.slice aT lT cT) xs) := laT.fr (fr_set _ _ _ _ _)
      clear ob laT OA
      go_wp2_with fail
      clear k0 k1
      generalize wb.setCell ⟨gt + 1, 0, none⟩ (.slice aT lT cT) = w2 at *
      refine (O2.out.num E3.out (by omega)).mono ?_
      rintro e w3 ⟨rfl, o3, f3⟩
      have O3 : Hid _ := o3
      have RB : Hid r2.byt := o3.tp.byt
      have LT3 : Hid _ := LT.out.fr f3.two'
      clear o3 f3 LT O2
      go_upto_block 2 with fail
      go_cut [9] (fun _ wc => ∃ (aF : Option Addr) (lF cF : Nat) (xF : List Fn), Hid (Oi W0 w.heap.size (gt + 1) gt bs wc r3 #[.slice aT lT cT, .slice aF lF cF, .slice none 0 0, .slice none 0 0, .slice none 0 0, .int .i64 0]) ∧ Hid (LA2 wc (gt + 1) gt ucell 1 (.slice aT lT cT) xs) ∧ Hid (LA2 wc (gt + 1) gt Fn.cells 3 (.slice aF lF cF) xF) ∧ Hid (r3.short = false → xF = fs))
      case first =>
        have FIN : Hid (∀ (wz : World) (j : Nat) (aF : Option Addr) (lF cF : Nat), j ≤ nf → (j = nf ∨ (many rdFn j (r2, 0)).2.1.short = true) → Oi w3 w.heap.size (gt + 1) gt bs wz (many rdFn j (r2, 0)).2.1 #[.slice aT lT cT, .slice aF lF cF, .slice none 0 0, .slice none 0 0, .slice none 0 0, .int .i64 0] → wz.ownsRow w3.heap.size 46 3 (.slice aF lF cF) j (flat Fn.cells (many rdFn j (r2, 0)).1) →
            ∃ (aF' : Option Addr) (lF' cF' : Nat) (xF : List Fn), Hid (Oi W0 w.heap.size (gt + 1) gt bs wz r3 #[.slice aT lT cT, .slice aF' lF' cF', .slice none 0 0, .slice none 0 0, .slice none 0 0, .int .i64 0]) ∧ Hid (LA2 wz (gt + 1) gt ucell 1 (.slice aT lT cT) xs) ∧ Hid (LA2 wz (gt + 1) gt Fn.cells 3 (.slice aF' lF' cF') xF) ∧ Hid (r3.short = false → xF = fs)) := fun wz j aF lF cF hj hd ho hr => by
          have hml := many_len rdFn j (r2, 0)
          have hr' : wz.ownsRow w3.heap.size 46 3 (.slice aF lF cF) (many rdFn j (r2, 0)).1.length (flat Fn.cells (many rdFn j (r2, 0)).1) := by rw [hml]; exact hr
          have h4 := E4.out
          have hlt := O3.out.here.lt
          have hlt2 := O3.out.here.lt2
          have er : (many rdFn j (r2, 0)).2.1 = r3 ∧ (r3.short = false → (many rdFn j (r2, 0)).1 = fs) := by
            rcases hd with rfl | hd
            · rw [h4]; exact ⟨rfl, fun _ => rfl⟩
            · have q := ho.tp.shut_eq hd
              have q2 := many_shut Prod.fst rdFn rdFn_shut j nf (r2, 0) hj q
              rw [h4] at q2
              exact ⟨q.trans q2.symm, fun hh => absurd (congrArg Rd.short q2) (by rw [hh]; simp)⟩
          have ho2 := O3.out.join ho
          rw [er.1] at ho2
          exact ⟨aF, lF, cF, _, ho2, LT3.out.fr ho.fr, row_la2 fcell_len hr' hlt hlt2, er.2⟩
        go_wp2_with fail
        go_loopw [8, 9] (fun p u wr2 => ∃ (j : Nat) (aF : Option Addr) (lF cF : Nat), j ≤ nf ∧ u = .int .i64 (j : Int) ∧ p = .int .i64 (many rdFn j (r2, 0)).2.2 ∧ Hid (Oi w3 w.heap.size (gt + 1) gt bs wr2 (many rdFn j (r2, 0)).2.1 #[.slice aT lT cT, .slice aF lF cF, .slice none 0 0, .slice none 0 0, .slice none 0 0, .int .i64 0]) ∧ Hid (wr2.ownsRow w3.heap.size 46 3 (.slice aF lF cF) j (flat Fn.cells (many rdFn j (r2, 0)).1))) (fun _ u _ => (nf - intOf u).toNat)
        case atStart => exact ⟨0, none, 0, 0, by omega, rfl, rfl, O3.out.here, World.ownsRow_nil _ _ _ _⟩
        case round =>
          obtain ⟨j, aF, lF, cF, j1, rfl, rfl, oj, rowj⟩ := hrel
          have eb := oj.out.ebit
          by_cases hj : j < nf
          · cases hs : (many rdFn j (r2, 0)).2.1.short
            · rw [hs] at eb
              obtain ⟨hby, at0, at1⟩ := fn_sum j r2 RB.out
              obtain ⟨s0, hs0⟩ : ∃ s0, many rdFn j (r2, 0) = s0 := ⟨_, rfl⟩
              have HN : Hid (many rdFn (j + 1) (r2, 0) = (s0.1 ++ [(rdFn s0.2).1], (rdFn s0.2).2)) := by show _ = _; rw [many, hs0]
              have hml := many_len rdFn j (r2, 0)
              rw [hs0] at oj rowj hby at0 at1 hml
              rw [hs0]
              obtain ⟨fj, rj, p⟩ := s0
              simp only [] at oj rowj hby at0 at1 hml HN eb
              obtain ⟨k, rk, hk, k1, kb⟩ := num1_nat rj hby
              obtain ⟨ys, rl, hys⟩ : ∃ ys rl, rk.take k = (ys, rl) := ⟨_, _, rfl⟩
              have lb := take_left rk k kb
              rw [hys] at lb
              obtain ⟨sz, rm, hsz, sz1, _⟩ := num2_nat rl lb
              have HFN : Hid (rdFn (rj, p) = (⟨jstr ys, p, sz⟩, (rm, p + sz))) := by
                show _ = _
                unfold rdFn
                simp only [hk, Int.toNat_natCast, hys, hsz]
              rw [HFN.out] at HN
              have hjj : (j : Int) < (nf : Int) := by omega
              have HML : Hid _ := hml
              have hp1 : p ≤ 16711425 := by omega
              clear hml hs0 hby kb lb at1
              go_wp2_with fail
              refine (oj.out.num hk (by omega)).mono ?_
              rintro e wa2 ⟨rfl, oa, fa⟩
              have rowa : Hid _ := row_frg rowj.out fa O3.out.here.lt2
              have OA : Hid _ := oa
              clear oa fa oj rowj eb
              go_wp2_with fail
              refine (OA.out.next hys (by omega)).mono ?_
              rintro e wb2 ⟨aY, lY, cY, rfl, ob, laY, fb⟩
              have rowb : Hid _ := row_frg rowa.out fb O3.out.here.lt2
              have OB : Hid _ := ob
              have cn := conv_list laY.list
              clear ob fb laY OA rowa
              go_wp2_with fail
              clear cn
              refine (OB.out.num hsz (by omega)).mono ?_
              rintro e wc2 ⟨rfl, oc, fc⟩
              have rowc := row_frg rowb.out fc O3.out.here.lt2
              clear fc OB rowb
              obtain ⟨v', W, hr, ho, gr, hbx⟩ := row_app 46 23 3 32 _ Try.underlying23 inFn rfl (by decide) rowc oc.fr.size [.string (jstr ys), .int .i64 p, .int .i64 sz] rfl (by intro u hu; simp at hu; rcases hu with rfl | rfl | rfl <;> rfl) (by omega) (by unfold maxLen; omega) (Or.inl rfl)
              obtain ⟨hbox, oi2, row2⟩ := oc.app rowc hbx gr ho 1
              obtain ⟨a2, l2, k2, rfl⟩ := row_form ho
              have HR : Hid _ := hr
              have OI2 : Hid (Oi w3 w.heap.size (gt + 1) gt bs (W.setCell ⟨gt + 1, 1, none⟩ (.slice a2 l2 k2)) rm #[.slice aT lT cT, .slice a2 l2 k2, .slice none 0 0, .slice none 0 0, .slice none 0 0, .int .i64 0]) := oi2
              have ROW2 : Hid ((W.setCell ⟨gt + 1, 1, none⟩ (.slice a2 l2 k2)).ownsRow w3.heap.size 46 3 (.slice a2 l2 k2) (j + 1) (flat Fn.cells (fj ++ [⟨jstr ys, p, sz⟩]))) := by
                show World.ownsRow _ _ _ _ _ _ _
                have e : flat Fn.cells (fj ++ [⟨jstr ys, p, sz⟩]) = flat Fn.cells fj ++ [.string (jstr ys), .int .i64 p, .int .i64 sz] := by unfold flat; rw [List.flatMap_append]; rfl
                rw [e]; exact row2
              have t0 : W.cell? ⟨gt + 1, 1, none⟩ = some (.slice aF lF cF) := by simp [World.cell?, hbox]
              have t1 : W.frozen? ⟨gt + 1, 1, none⟩ = false := by simp [World.frozen?, hbox]
              have t2 : wc2.cell? ⟨gt + 1, 1, none⟩ = some (.slice aF lF cF) := oc.cell 1
              have hlt : gt + 1 < wc2.heap.size := Nat.lt_of_lt_of_le oc.lt oc.fr.size
              clear hr ho gr hbx hbox oi2 row2 oc rowc
              go_wp2_with (first | (at_builtin; refine wpList_append_two _ rfl (.tmp 78) (.tmp 83) 23 23 rfl _ _ rfl rfl HR.out ?_))
              go_roundw
              case rel => exact ⟨j + 1, _, _, _, by omega, by go_num, by rw [HN.out], by rw [HN.out]; exact OI2.out, by rw [HN.out]; exact ROW2.out⟩
              case measure => simp [intOf]; omega
            · rw [hs] at eb
              have HF := FIN.out wr j aF lF cF j1 (Or.inr hs) oj.out rowj.out
              have hjj : (j : Int) < (nf : Int) := by omega
              clear oj rowj
              go_wp2
              go_meet
              exact HF
          · have HF := FIN.out wr j aF lF cF j1 (Or.inl (by omega)) oj.out rowj.out
            have hjj : ¬ (j : Int) < (nf : Int) := by omega
            clear oj rowj
            go_wp2
            go_meet
            exact HF
      case rest =>
        obtain ⟨aF, lF, cF, xF, O4, LT4, LF4, XF⟩ := hcut
        clear O3 LT3 RB
        go_wp2_with fail
        refine (O4.out.num E5.out (by omega)).mono ?_
        rintro e wa3 ⟨rfl, oa, fa⟩
        have k0 : wa3.cell? ⟨gt + 1, 5, none⟩ = some (.int .i64 0) := oa.cell 5
        have k1 := oa.free 5
        have O5 : Hid (Oi W0 w.heap.size (gt + 1) gt bs (wa3.setCell ⟨gt + 1, 5, none⟩ (.int .i64 en)) r4 #[.slice aT lT cT, .slice aF lF cF, .slice none 0 0, .slice none 0 0, .slice none 0 0, .int .i64 en]) := oa.set 5 _
        have LT5 : Hid (LA2 (wa3.setCell ⟨gt + 1, 5, none⟩ (.int .i64 en)) (gt + 1) gt ucell 1 (.slice aT lT cT) xs) := (LT4.out.fr fa.two').fr (fr_set _ _ _ _ _)
        have LF5 : Hid (LA2 (wa3.setCell ⟨gt + 1, 5, none⟩ (.int .i64 en)) (gt + 1) gt Fn.cells 3 (.slice aF lF cF) xF) := (LF4.out.fr fa.two').fr (fr_set _ _ _ _ _)
        clear oa fa O4 LT4 LF4
        go_wp2_with fail
        clear k0 k1
        generalize wa3.setCell ⟨gt + 1, 5, none⟩ (.int .i64 en) = w5 at *
        refine (O5.out.num E6.out (by omega)).mono ?_
        rintro e w6 ⟨rfl, o6, f6⟩
        have O6 : Hid _ := o6
        have RB : Hid r5.byt := o6.tp.byt
        have LT6 : Hid (LA2 w6 (gt + 1) gt ucell 1 (.slice aT lT cT) xs) := LT5.out.fr f6.two'
        have LF6 : Hid (LA2 w6 (gt + 1) gt Fn.cells 3 (.slice aF lF cF) xF) := LF5.out.fr f6.two'
        clear o6 f6 LT5 LF5 O5
        go_upto_block 4 with fail
        go_cut [13] (fun _ wc => ∃ (aB : Option Addr) (lB cB : Nat) (us : List Value) (xB : List (List Int)), Hid (Oi W0 w.heap.size (gt + 1) gt bs wc r6 #[.slice aT lT cT, .slice aF lF cF, .slice aB lB cB, .slice none 0 0, .slice none 0 0, .int .i64 en]) ∧ Hid (LA2 wc (gt + 1) gt ucell 1 (.slice aT lT cT) xs) ∧ Hid (LA2 wc (gt + 1) gt Fn.cells 3 (.slice aF lF cF) xF) ∧ Hid (LA2 wc (gt + 1) gt vcell 1 (.slice aB lB cB) us) ∧ Hid (Tl wc (gt + 1) gt us xB) ∧ Hid (r6.short = false → xB = ts))
        case first =>
          have hlt := O6.out.here.lt
          have hlt2 := O6.out.here.lt2
          have FIN : Hid (∀ (wz : World) (j : Nat) (aB : Option Addr) (lB cB : Nat) (us : List Value) (xB : List (List Int)), j ≤ nt → (j = nt ∨ (many Rd.tab j r5).2.short = true) → Oi w6 w.heap.size (gt + 1) gt bs wz (many Rd.tab j r5).2 #[.slice aT lT cT, .slice aF lF cF, .slice aB lB cB, .slice none 0 0, .slice none 0 0, .int .i64 en] → wz.ownsRow w6.heap.size 25 1 (.slice aB lB cB) us.length (flat vcell us) → Ti w6.heap.size wz us xB → ((many Rd.tab j r5).2.short = false → xB = (many Rd.tab j r5).1) →
              ∃ (aB' : Option Addr) (lB' cB' : Nat) (us : List Value) (xB : List (List Int)), Hid (Oi W0 w.heap.size (gt + 1) gt bs wz r6 #[.slice aT lT cT, .slice aF lF cF, .slice aB' lB' cB', .slice none 0 0, .slice none 0 0, .int .i64 en]) ∧ Hid (LA2 wz (gt + 1) gt ucell 1 (.slice aT lT cT) xs) ∧ Hid (LA2 wz (gt + 1) gt Fn.cells 3 (.slice aF lF cF) xF) ∧ Hid (LA2 wz (gt + 1) gt vcell 1 (.slice aB' lB' cB') us) ∧ Hid (Tl wz (gt + 1) gt us xB) ∧ Hid (r6.short = false → xB = ts)) := fun wz j aB lB cB us xB hj hd ho hr hi hx => by
            have h7 := E7.out
            have er : (many Rd.tab j r5).2 = r6 ∧ (r6.short = false → xB = ts) := by
              rcases hd with rfl | hd
              · rw [h7] at hx ⊢; exact ⟨rfl, hx⟩
              · have q := ho.tp.shut_eq hd
                have q2 := many_shut id Rd.tab tab_shut j nt r5 hj q
                rw [h7] at q2
                have q3 : r6 = ⟨[], true⟩ := q2
                exact ⟨q.trans q3.symm, fun hh => absurd (congrArg Rd.short q3) (by rw [hh]; simp)⟩
            have ho2 := O6.out.join ho
            rw [er.1] at ho2
            exact ⟨aB, lB, cB, us, xB, ho2, LT6.out.fr ho.fr, LF6.out.fr ho.fr, row_la2 vcell_len hr hlt hlt2, ⟨hi.len, fun i u t hu ht => row_la2 icell_len (hi.row i u t hu ht) hlt hlt2⟩, er.2⟩
          go_wp2_with fail
          go_loopw [13] (fun u wr2 => ∃ (j : Nat) (aB : Option Addr) (lB cB : Nat) (us : List Value) (xB : List (List Int)), j ≤ nt ∧ us.length = j ∧ u = .int .i64 (j : Int) ∧ Hid (Oi w6 w.heap.size (gt + 1) gt bs wr2 (many Rd.tab j r5).2 #[.slice aT lT cT, .slice aF lF cF, .slice aB lB cB, .slice none 0 0, .slice none 0 0, .int .i64 en]) ∧ Hid (wr2.ownsRow w6.heap.size 25 1 (.slice aB lB cB) us.length (flat vcell us)) ∧ Hid (Ti w6.heap.size wr2 us xB) ∧ Hid ((many Rd.tab j r5).2.short = false → xB = (many Rd.tab j r5).1)) (fun u _ => (nt - intOf u).toNat)
          case atStart => exact ⟨0, none, 0, 0, [], [], by omega, rfl, rfl, O6.out.here, World.ownsRow_nil _ _ _ _, Ti.nil _ _, fun _ => rfl⟩
          case round =>
            obtain ⟨j, aB, lB, cB, us, xB, j1, jl, rfl, oj, rowj, tij, xj⟩ := hrel
            have JL : Hid _ := jl
            clear jl
            have eb := oj.out.ebit
            by_cases hj : j < nt
            · cases hs : (many Rd.tab j r5).2.short
              · rw [hs] at eb
                obtain ⟨s0, hs0⟩ : ∃ s0, many Rd.tab j r5 = s0 := ⟨_, rfl⟩
                have HN : Hid (many Rd.tab (j + 1) r5 = (s0.1 ++ [s0.2.tab.1], s0.2.tab.2)) := by show _ = _; rw [many, hs0]
                have XJ : Hid (xB = s0.1) := by show _ = _; rw [← hs0]; exact xj.out hs
                clear xj hs
                rw [hs0] at oj
                obtain ⟨fj, rj⟩ := s0
                simp only [] at oj HN XJ
                have hby := oj.out.tp.byt
                obtain ⟨k, rk, hk, k1, kb⟩ := num1_nat rj hby
                have HTB : Hid (rj.tab = many (fun r : Rd => r.num 2) k rk) := by show _ = _; unfold Rd.tab; rw [hk]; rfl
                have KB : Hid rk.byt := kb
                have hjj : (j : Int) < (nt : Int) := by omega
                clear hs0 hby kb
                go_wp2_with fail
                refine (oj.out.num hk (by omega)).mono ?_
                rintro e w7 ⟨rfl, o7, f7⟩
                have row7 : Hid _ := row_frg rowj.out f7 hlt2
                have ti7 : Hid (Ti w6.heap.size w7 us xB) := tij.out.mono fun _ _ _ q => row_frg q f7 hlt2
                have O7 : Hid _ := o7
                clear o7 f7 oj rowj tij eb
                go_upto_block 6 with fail
                go_cut [15] (fun l wc => ∃ (aY : Option Addr) (lY cY : Nat) (zs : List Int), l = .slice aY lY cY ∧ Hid (zs.length ≤ 255) ∧ Hid (Oi w6 w.heap.size (gt + 1) gt bs wc rj.tab.2 #[.slice aT lT cT, .slice aF lF cF, .slice aB lB cB, .slice none 0 0, .slice none 0 0, .int .i64 en]) ∧ Hid (wc.ownsRow w6.heap.size 25 1 (.slice aB lB cB) us.length (flat vcell us)) ∧ Hid (Ti w6.heap.size wc us xB) ∧ Hid (wc.ownsRow w6.heap.size 3 1 (.slice aY lY cY) zs.length (flat icell zs)) ∧ Hid (rj.tab.2.short = false → zs = rj.tab.1))
                case first =>
                  have z7 := O7.out.fr.size
                  have FIN2 : Hid (∀ (wz : World) (i : Nat) (aY : Option Addr) (lY cY : Nat), i ≤ k → (i = k ∨ (many (fun r : Rd => r.num 2) i rk).2.short = true) → Oi w7 w.heap.size (gt + 1) gt bs wz (many (fun r : Rd => r.num 2) i rk).2 #[.slice aT lT cT, .slice aF lF cF, .slice aB lB cB, .slice none 0 0, .slice none 0 0, .int .i64 en] → wz.ownsRow w7.heap.size 3 1 (.slice aY lY cY) i (flat icell (many (fun r : Rd => r.num 2) i rk).1) →
                      ∃ (aY' : Option Addr) (lY' cY' : Nat) (zs : List Int), Value.slice aY lY cY = .slice aY' lY' cY' ∧ Hid (zs.length ≤ 255) ∧ Hid (Oi w6 w.heap.size (gt + 1) gt bs wz rj.tab.2 #[.slice aT lT cT, .slice aF lF cF, .slice aB lB cB, .slice none 0 0, .slice none 0 0, .int .i64 en]) ∧ Hid (wz.ownsRow w6.heap.size 25 1 (.slice aB lB cB) us.length (flat vcell us)) ∧ Hid (Ti w6.heap.size wz us xB) ∧ Hid (wz.ownsRow w6.heap.size 3 1 (.slice aY' lY' cY') zs.length (flat icell zs)) ∧ Hid (rj.tab.2.short = false → zs = rj.tab.1)) := fun wz i aY lY cY hi hd ho hr => by
                    have hml := many_len (fun r : Rd => r.num 2) i rk
                    have hr' : wz.ownsRow w6.heap.size 3 1 (.slice aY lY cY) (many (fun r : Rd => r.num 2) i rk).1.length (flat icell (many (fun r : Rd => r.num 2) i rk).1) := by rw [hml]; exact row_low' hr z7
                    have er : (many (fun r : Rd => r.num 2) i rk).2 = rj.tab.2 ∧ (rj.tab.2.short = false → (many (fun r : Rd => r.num 2) i rk).1 = rj.tab.1) := by
                      rw [HTB.out]
                      rcases hd with rfl | hd
                      · exact ⟨rfl, fun _ => rfl⟩
                      · have q := ho.tp.shut_eq hd
                        have q2 : (many (fun r : Rd => r.num 2) k rk).2 = ⟨[], true⟩ := many_shut id (fun r : Rd => r.num 2) num2_shut i k rk hi q
                        exact ⟨q.trans q2.symm, fun hh => absurd (congrArg Rd.short q2) (by rw [hh]; simp)⟩
                    have ho2 := O7.out.join ho
                    rw [er.1] at ho2
                    exact ⟨aY, lY, cY, _, rfl, (show _ ≤ 255 by omega), ho2, row_fr2 row7.out ho.fr hlt hlt2, ti7.out.mono fun _ _ _ q => row_fr2 q ho.fr hlt hlt2, hr', er.2⟩
                  go_wp2_with fail
                  go_loopw [15, 16] (fun l u wr3 => ∃ (i : Nat) (aY : Option Addr) (lY cY : Nat), i ≤ k ∧ u = .int .i64 (i : Int) ∧ l = .slice aY lY cY ∧ Hid (Oi w7 w.heap.size (gt + 1) gt bs wr3 (many (fun r : Rd => r.num 2) i rk).2 #[.slice aT lT cT, .slice aF lF cF, .slice aB lB cB, .slice none 0 0, .slice none 0 0, .int .i64 en]) ∧ Hid (wr3.ownsRow w7.heap.size 3 1 (.slice aY lY cY) i (flat icell (many (fun r : Rd => r.num 2) i rk).1))) (fun _ u _ => (k - intOf u).toNat)
                  case atStart => exact ⟨0, none, 0, 0, by omega, rfl, rfl, O7.out.here, World.ownsRow_nil _ _ _ _⟩
                  case round =>
                    obtain ⟨i, aY, lY, cY, i1, rfl, rfl, oi, rowi⟩ := hrel
                    have eb := oi.out.ebit
                    by_cases hi : i < k
                    · cases hs : (many (fun r : Rd => r.num 2) i rk).2.short
                      · rw [hs] at eb
                        obtain ⟨s0, hs0⟩ : ∃ s0, many (fun r : Rd => r.num 2) i rk = s0 := ⟨_, rfl⟩
                        have HN2 : Hid (many (fun r : Rd => r.num 2) (i + 1) rk = (s0.1 ++ [(s0.2.num 2).1], (s0.2.num 2).2)) := by show _ = _; rw [many, hs0]
                        rw [hs0] at oi rowi
                        obtain ⟨yj, ri⟩ := s0
                        simp only [] at oi rowi HN2
                        obtain ⟨x, rm, hx, x1, _⟩ := num2_nat ri oi.out.tp.byt
                        rw [hx] at HN2
                        have hii : (i : Int) < (k : Int) := by omega
                        clear hs0 hs
                        go_wp2_with fail
                        refine (oi.out.num hx (by omega)).mono ?_
                        rintro e wc2 ⟨rfl, oc, fc⟩
                        have rowc := row_frg rowi.out fc O7.out.here.lt2
                        clear fc oi rowi eb
                        obtain ⟨v', W, hr, ho, gr, hbx⟩ := row_app 3 25 1 8 _ Try.underlying25 inInt rfl (by decide) rowc oc.fr.size [.int .i64 x] rfl (by intro u hu; simp at hu; subst hu; rfl) (by omega) (by unfold maxLen; omega) (Or.inl rfl)
                        have OI2 : Hid _ := oc.grow rowc hbx gr
                        obtain ⟨a2, l2, k2, rfl⟩ := row_form ho
                        have HR : Hid _ := hr
                        have ROW2 : Hid (W.ownsRow w7.heap.size 3 1 (.slice a2 l2 k2) (i + 1) (flat icell (yj ++ [(x : Int)]))) := by
                          show World.ownsRow _ _ _ _ _ _ _
                          have e : flat icell (yj ++ [(x : Int)]) = flat icell yj ++ [.int .i64 x] := by unfold flat; rw [List.flatMap_append]; rfl
                          rw [e]; exact ho
                        clear hr ho gr hbx oc rowc
                        go_wp2_with (first | (at_builtin; refine wpList_append_two _ rfl (.tmp 122) (.tmp 124) 25 25 rfl _ _ rfl rfl HR.out ?_))
                        go_roundw
                        case rel => exact ⟨i + 1, _, _, _, by omega, by go_num, rfl, by rw [HN2.out]; exact OI2.out, by rw [HN2.out]; exact ROW2.out⟩
                        case measure => simp [intOf]; omega
                      · rw [hs] at eb
                        have HF := FIN2.out wr i aY lY cY i1 (Or.inr hs) oi.out rowi.out
                        have hii : (i : Int) < (k : Int) := by omega
                        clear oi rowi
                        go_wp2
                        go_meet
                        exact HF
                    · have HF := FIN2.out wr i aY lY cY i1 (Or.inl (by omega)) oi.out rowi.out
                      have hii : ¬ (i : Int) < (k : Int) := by omega
                      clear oi rowi
                      go_wp2
                      go_meet
                      exact HF
                case rest =>
                  obtain ⟨aY, lY, cY, zs, rfl, ZL, O8, row8, ti8, rowY, XY⟩ := hcut
                  obtain ⟨v', W, hr, ho, gr, hbx⟩ := row_app 25 24 1 24 _ Try.underlying24 inInts rfl (by decide) row8.out O8.out.fr.size [.slice aY lY cY] rfl (by intro u hu; simp at hu; subst hu; rfl) (by rw [JL.out]; omega) (by rw [JL.out]; unfold maxLen; omega) (Or.inl rfl)
                  obtain ⟨hbox, oi2, row2⟩ := O8.out.app row8.out hbx gr ho 2
                  obtain ⟨a2, l2, k2, rfl⟩ := row_form ho
                  have HR : Hid _ := hr
                  have OI2 : Hid (Oi w6 w.heap.size (gt + 1) gt bs (W.setCell ⟨gt + 1, 2, none⟩ (.slice a2 l2 k2)) rj.tab.2 #[.slice aT lT cT, .slice aF lF cF, .slice a2 l2 k2, .slice none 0 0, .slice none 0 0, .int .i64 en]) := oi2
                  have ROW2 : Hid ((W.setCell ⟨gt + 1, 2, none⟩ (.slice a2 l2 k2)).ownsRow w6.heap.size 25 1 (.slice a2 l2 k2) (us ++ [Value.slice aY lY cY]).length (flat vcell (us ++ [Value.slice aY lY cY]))) := by
                    show World.ownsRow _ _ _ _ _ _ _
                    have e : flat vcell (us ++ [Value.slice aY lY cY]) = flat vcell us ++ [.slice aY lY cY] := by unfold flat; rw [List.flatMap_append]; rfl
                    rw [e, List.length_append]; exact row2
                  have TI2 : Hid (Ti w6.heap.size (W.setCell ⟨gt + 1, 2, none⟩ (.slice a2 l2 k2)) (us ++ [Value.slice aY lY cY]) (xB ++ [zs])) := (ti8.out.mono fun _ _ _ q => row_app_by q row8.out hbx gr (by decide) hlt).snoc (row_app_by rowY.out row8.out hbx gr (by decide) hlt)
                  have t0 : W.cell? ⟨gt + 1, 2, none⟩ = some (.slice aB lB cB) := by simp [World.cell?, hbox]
                  have t1 : W.frozen? ⟨gt + 1, 2, none⟩ = false := by simp [World.frozen?, hbox]
                  have t2 : wc.cell? ⟨gt + 1, 2, none⟩ = some (.slice aB lB cB) := O8.out.cell 2
                  have hltc : gt + 1 < wc.heap.size := Nat.lt_of_lt_of_le O8.out.lt O8.out.fr.size
                  clear hr ho gr hbx hbox oi2 row2
                  go_wp2_with (first | (at_builtin; refine wpList_append_two _ rfl (.tmp 127) (.tmp 129) 24 24 rfl _ _ rfl rfl HR.out ?_))
                  go_roundw
                  case rel =>
                    refine ⟨j + 1, _, _, _, us ++ [Value.slice aY lY cY], xB ++ [zs], by omega, by rw [List.length_append, JL.out]; rfl, by go_num, by rw [HN.out]; exact OI2.out, ROW2.out, TI2.out, fun hh => ?_⟩
                    rw [HN.out] at hh ⊢
                    rw [XJ.out, XY.out hh]
                  case measure => simp [intOf]; omega
              · rw [hs] at eb
                have HF := FIN.out wr j aB lB cB us xB j1 (Or.inr hs) oj.out rowj.out tij.out xj.out
                have hjj : (j : Int) < (nt : Int) := by omega
                clear oj rowj tij xj
                go_wp2
                go_meet
                exact HF
            · have HF := FIN.out wr j aB lB cB us xB j1 (Or.inl (by omega)) oj.out rowj.out tij.out xj.out
              have hjj : ¬ (j : Int) < (nt : Int) := by omega
              clear oj rowj tij xj
              go_wp2
              go_meet
              exact HF
        case rest =>
          obtain ⟨aB, lB, cB, us, xB, O9, LT9, LF9, LB9, TB9, XB⟩ := hcut
          go_wp2_with fail
          refine (O9.out.num E8.out (by omega)).mono ?_
          rintro e w10 ⟨rfl, on9, fn9⟩
          have O10 : Hid _ := on9
          have RB9 : Hid r7.byt := on9.tp.byt
          have LT10 : Hid (LA2 w10 (gt + 1) gt ucell 1 (.slice aT lT cT) xs) := LT9.out.fr fn9.two'
          have LF10 : Hid (LA2 w10 (gt + 1) gt Fn.cells 3 (.slice aF lF cF) xF) := LF9.out.fr fn9.two'
          have LB10 : Hid (LA2 w10 (gt + 1) gt vcell 1 (.slice aB lB cB) us) := LB9.out.fr fn9.two'
          have TB10 : Hid (Tl w10 (gt + 1) gt us xB) := TB9.out.fr fn9.two'
          clear on9 fn9 O9 LT9 LF9 LB9 TB9
          go_upto_block 8 with fail
          go_cut [18] (fun _ wc => ∃ (aD : Option Addr) (lD cD : Nat) (xZ : List Int), Hid (Oi W0 w.heap.size (gt + 1) gt bs wc r8 #[.slice aT lT cT, .slice aF lF cF, .slice aB lB cB, .slice aD lD cD, .slice none 0 0, .int .i64 en]) ∧ Hid (LA2 wc (gt + 1) gt ucell 1 (.slice aT lT cT) xs) ∧ Hid (LA2 wc (gt + 1) gt Fn.cells 3 (.slice aF lF cF) xF) ∧ Hid (LA2 wc (gt + 1) gt vcell 1 (.slice aB lB cB) us) ∧ Hid (Tl wc (gt + 1) gt us xB) ∧ Hid (LA2 wc (gt + 1) gt icell 1 (.slice aD lD cD) xZ) ∧ Hid (r8.short = false → xZ = ds))
          case first =>
            have hlt := O10.out.here.lt
            have hlt2 := O10.out.here.lt2
            have FIN : Hid (∀ (wz : World) (j : Nat) (aD : Option Addr) (lD cD : Nat), j ≤ nd → (j = nd ∨ (many (fun r : Rd => r.num 8) j r7).2.short = true) → Oi w10 w.heap.size (gt + 1) gt bs wz (many (fun r : Rd => r.num 8) j r7).2 #[.slice aT lT cT, .slice aF lF cF, .slice aB lB cB, .slice aD lD cD, .slice none 0 0, .int .i64 en] → wz.ownsRow w10.heap.size 3 1 (.slice aD lD cD) j (flat icell (many (fun r : Rd => r.num 8) j r7).1) →
                ∃ (a' : Option Addr) (l' c' : Nat) (xZ : List Int), Hid (Oi W0 w.heap.size (gt + 1) gt bs wz r8 #[.slice aT lT cT, .slice aF lF cF, .slice aB lB cB, .slice a' l' c', .slice none 0 0, .int .i64 en]) ∧ Hid (LA2 wz (gt + 1) gt ucell 1 (.slice aT lT cT) xs) ∧ Hid (LA2 wz (gt + 1) gt Fn.cells 3 (.slice aF lF cF) xF) ∧ Hid (LA2 wz (gt + 1) gt vcell 1 (.slice aB lB cB) us) ∧ Hid (Tl wz (gt + 1) gt us xB) ∧ Hid (LA2 wz (gt + 1) gt icell 1 (.slice a' l' c') xZ) ∧ Hid (r8.short = false → xZ = ds)) := fun wz j aD lD cD hj hd ho hr => by
              have hml := many_len (fun r : Rd => r.num 8) j r7
              have hr' : wz.ownsRow w10.heap.size 3 1 (.slice aD lD cD) (many (fun r : Rd => r.num 8) j r7).1.length (flat icell (many (fun r : Rd => r.num 8) j r7).1) := by rw [hml]; exact hr
              have h7 := E9.out
              have er : (many (fun r : Rd => r.num 8) j r7).2 = r8 ∧ (r8.short = false → (many (fun r : Rd => r.num 8) j r7).1 = ds) := by
                rcases hd with rfl | hd
                · rw [h7]; exact ⟨rfl, fun _ => rfl⟩
                · have q := ho.tp.shut_eq hd
                  have q2 := many_shut id (fun r : Rd => r.num 8) num8_shut j nd r7 hj q
                  rw [h7] at q2
                  have q3 : r8 = ⟨[], true⟩ := q2
                  exact ⟨q.trans q3.symm, fun hh => absurd (congrArg Rd.short q3) (by rw [hh]; simp)⟩
              have ho2 := O10.out.join ho
              rw [er.1] at ho2
              exact ⟨aD, lD, cD, _, ho2, LT10.out.fr ho.fr, LF10.out.fr ho.fr, LB10.out.fr ho.fr, TB10.out.fr ho.fr, row_la2 icell_len hr' hlt hlt2, er.2⟩
            go_wp2_with fail
            go_loopw [18] (fun u wr2 => ∃ (j : Nat) (aD : Option Addr) (lD cD : Nat), j ≤ nd ∧ u = .int .i64 (j : Int) ∧ Hid (Oi w10 w.heap.size (gt + 1) gt bs wr2 (many (fun r : Rd => r.num 8) j r7).2 #[.slice aT lT cT, .slice aF lF cF, .slice aB lB cB, .slice aD lD cD, .slice none 0 0, .int .i64 en]) ∧ Hid (wr2.ownsRow w10.heap.size 3 1 (.slice aD lD cD) j (flat icell (many (fun r : Rd => r.num 8) j r7).1))) (fun u _ => (nd - intOf u).toNat)
            case atStart => exact ⟨0, none, 0, 0, by omega, rfl, O10.out.here, World.ownsRow_nil _ _ _ _⟩
            case round =>
              obtain ⟨j, aD, lD, cD, j1, rfl, oj, rowj⟩ := hrel
              have eb := oj.out.ebit
              by_cases hj : j < nd
              · cases hs : (many (fun r : Rd => r.num 8) j r7).2.short
                · rw [hs] at eb
                  obtain ⟨s0, hs0⟩ : ∃ s0, many (fun r : Rd => r.num 8) j r7 = s0 := ⟨_, rfl⟩
                  have HN : Hid (many (fun r : Rd => r.num 8) (j + 1) r7 = (s0.1 ++ [(s0.2.num 8).1], (s0.2.num 8).2)) := by show _ = _; rw [many, hs0]
                  rw [hs0] at oj rowj
                  obtain ⟨fj, rj⟩ := s0
                  simp only [] at oj rowj HN
                  obtain ⟨x, rm, hx⟩ : ∃ x rm, rj.num 8 = (x, rm) := ⟨_, _, rfl⟩
                  rw [hx] at HN
                  have hjj : (j : Int) < (nd : Int) := by omega
                  clear hs0 hs
                  go_wp2_with fail
                  refine (oj.out.num hx (by omega)).mono ?_
                  rintro e wc2 ⟨rfl, oc, fc⟩
                  have rowc := row_frg rowj.out fc hlt2
                  clear fc oj rowj eb
                  obtain ⟨v', W, hr, ho, gr, hbx⟩ := row_app 3 25 1 8 _ Try.underlying25 inInt rfl (by decide) rowc oc.fr.size [.int .i64 x] rfl (by intro u hu; simp at hu; subst hu; rfl) (by omega) (by unfold maxLen; omega) (Or.inl rfl)
                  obtain ⟨hbox, oi2, row2⟩ := oc.app rowc hbx gr ho 3
                  obtain ⟨a2, l2, k2, rfl⟩ := row_form ho
                  have HR : Hid _ := hr
                  have OI2 : Hid (Oi w10 w.heap.size (gt + 1) gt bs (W.setCell ⟨gt + 1, 3, none⟩ (.slice a2 l2 k2)) rm #[.slice aT lT cT, .slice aF lF cF, .slice aB lB cB, .slice a2 l2 k2, .slice none 0 0, .int .i64 en]) := oi2
                  have ROW2 : Hid ((W.setCell ⟨gt + 1, 3, none⟩ (.slice a2 l2 k2)).ownsRow w10.heap.size 3 1 (.slice a2 l2 k2) (j + 1) (flat icell (fj ++ [x]))) := by
                    show World.ownsRow _ _ _ _ _ _ _
                    have e : flat icell (fj ++ [x]) = flat icell fj ++ [.int .i64 x] := by unfold flat; rw [List.flatMap_append]; rfl
                    rw [e]; exact row2
                  have t0 : W.cell? ⟨gt + 1, 3, none⟩ = some (.slice aD lD cD) := by simp [World.cell?, hbox]
                  have t1 : W.frozen? ⟨gt + 1, 3, none⟩ = false := by simp [World.frozen?, hbox]
                  have t2 : wc2.cell? ⟨gt + 1, 3, none⟩ = some (.slice aD lD cD) := oc.cell 3
                  have hltc : gt + 1 < wc2.heap.size := Nat.lt_of_lt_of_le oc.lt oc.fr.size
                  clear hr ho gr hbx hbox oi2 row2 oc rowc
                  go_wp2_with (first | (at_builtin; refine wpList_append_two _ rfl (.tmp 149) (.tmp 151) 25 25 rfl _ _ rfl rfl HR.out ?_))
                  go_roundw
                  case rel => exact ⟨j + 1, _, _, _, by omega, by go_num, by rw [HN.out]; exact OI2.out, by rw [HN.out]; exact ROW2.out⟩
                  case measure => simp [intOf]; omega
                · rw [hs] at eb
                  have HF := FIN.out wr j aD lD cD j1 (Or.inr hs) oj.out rowj.out
                  have hjj : (j : Int) < (nd : Int) := by omega
                  clear oj rowj
                  go_wp2
                  go_meet
                  exact HF
              · have HF := FIN.out wr j aD lD cD j1 (Or.inl (by omega)) oj.out rowj.out
                have hjj : ¬ (j : Int) < (nd : Int) := by omega
                clear oj rowj
                go_wp2
                go_meet
                exact HF
          case rest =>
            obtain ⟨aD, lD, cD, xD, O11, LT11, LF11, LB11, TB11, LD11, XD⟩ := hcut
            go_wp2_with fail
            refine (O11.out.num E10.out (by omega)).mono ?_
            rintro e w12 ⟨rfl, on11, fn11⟩
            have O12 : Hid _ := on11
            have RB11 : Hid r9.byt := on11.tp.byt
            have LT12 : Hid (LA2 w12 (gt + 1) gt ucell 1 (.slice aT lT cT) xs) := LT11.out.fr fn11.two'
            have LF12 : Hid (LA2 w12 (gt + 1) gt Fn.cells 3 (.slice aF lF cF) xF) := LF11.out.fr fn11.two'
            have LB12 : Hid (LA2 w12 (gt + 1) gt vcell 1 (.slice aB lB cB) us) := LB11.out.fr fn11.two'
            have LD12 : Hid (LA2 w12 (gt + 1) gt icell 1 (.slice aD lD cD) xD) := LD11.out.fr fn11.two'
            have TB12 : Hid (Tl w12 (gt + 1) gt us xB) := TB11.out.fr fn11.two'
            clear on11 fn11 O11 LT11 LF11 LB11 LD11 TB11
            go_upto_block 10 with fail
            go_cut [20] (fun _ wc => ∃ (aL : Option Addr) (lL cL : Nat) (xZ : List Ln), Hid (Oi W0 w.heap.size (gt + 1) gt bs wc r10 #[.slice aT lT cT, .slice aF lF cF, .slice aB lB cB, .slice aD lD cD, .slice aL lL cL, .int .i64 en]) ∧ Hid (LA2 wc (gt + 1) gt ucell 1 (.slice aT lT cT) xs) ∧ Hid (LA2 wc (gt + 1) gt Fn.cells 3 (.slice aF lF cF) xF) ∧ Hid (LA2 wc (gt + 1) gt vcell 1 (.slice aB lB cB) us) ∧ Hid (LA2 wc (gt + 1) gt icell 1 (.slice aD lD cD) xD) ∧ Hid (Tl wc (gt + 1) gt us xB) ∧ Hid (LA2 wc (gt + 1) gt Ln.cells 2 (.slice aL lL cL) xZ) ∧ Hid (r10.short = false → xZ = ls))
            case first =>
              have hlt := O12.out.here.lt
              have hlt2 := O12.out.here.lt2
              have FIN : Hid (∀ (wz : World) (j : Nat) (aL : Option Addr) (lL cL : Nat), j ≤ nl → (j = nl ∨ (many Rd.line j r9).2.short = true) → Oi w12 w.heap.size (gt + 1) gt bs wz (many Rd.line j r9).2 #[.slice aT lT cT, .slice aF lF cF, .slice aB lB cB, .slice aD lD cD, .slice aL lL cL, .int .i64 en] → wz.ownsRow w12.heap.size 42 2 (.slice aL lL cL) j (flat Ln.cells (many Rd.line j r9).1) →
                  ∃ (a' : Option Addr) (l' c' : Nat) (xZ : List Ln), Hid (Oi W0 w.heap.size (gt + 1) gt bs wz r10 #[.slice aT lT cT, .slice aF lF cF, .slice aB lB cB, .slice aD lD cD, .slice a' l' c', .int .i64 en]) ∧ Hid (LA2 wz (gt + 1) gt ucell 1 (.slice aT lT cT) xs) ∧ Hid (LA2 wz (gt + 1) gt Fn.cells 3 (.slice aF lF cF) xF) ∧ Hid (LA2 wz (gt + 1) gt vcell 1 (.slice aB lB cB) us) ∧ Hid (LA2 wz (gt + 1) gt icell 1 (.slice aD lD cD) xD) ∧ Hid (Tl wz (gt + 1) gt us xB) ∧ Hid (LA2 wz (gt + 1) gt Ln.cells 2 (.slice a' l' c') xZ) ∧ Hid (r10.short = false → xZ = ls)) := fun wz j aL lL cL hj hd ho hr => by
                have hml := many_len Rd.line j r9
                have hr' : wz.ownsRow w12.heap.size 42 2 (.slice aL lL cL) (many Rd.line j r9).1.length (flat Ln.cells (many Rd.line j r9).1) := by rw [hml]; exact hr
                have h7 := E11.out
                have er : (many Rd.line j r9).2 = r10 ∧ (r10.short = false → (many Rd.line j r9).1 = ls) := by
                  rcases hd with rfl | hd
                  · rw [h7]; exact ⟨rfl, fun _ => rfl⟩
                  · have q := ho.tp.shut_eq hd
                    have q2 := many_shut id Rd.line line_shut j nl r9 hj q
                    rw [h7] at q2
                    have q3 : r10 = ⟨[], true⟩ := q2
                    exact ⟨q.trans q3.symm, fun hh => absurd (congrArg Rd.short q3) (by rw [hh]; simp)⟩
                have ho2 := O12.out.join ho
                rw [er.1] at ho2
                exact ⟨aL, lL, cL, _, ho2, LT12.out.fr ho.fr, LF12.out.fr ho.fr, LB12.out.fr ho.fr, LD12.out.fr ho.fr, TB12.out.fr ho.fr, row_la2 lcell_len hr' hlt hlt2, er.2⟩
              go_wp2_with fail
              go_loopw [20] (fun u wr2 => ∃ (j : Nat) (aL : Option Addr) (lL cL : Nat), j ≤ nl ∧ u = .int .i64 (j : Int) ∧ Hid (Oi w12 w.heap.size (gt + 1) gt bs wr2 (many Rd.line j r9).2 #[.slice aT lT cT, .slice aF lF cF, .slice aB lB cB, .slice aD lD cD, .slice aL lL cL, .int .i64 en]) ∧ Hid (wr2.ownsRow w12.heap.size 42 2 (.slice aL lL cL) j (flat Ln.cells (many Rd.line j r9).1))) (fun u _ => (nl - intOf u).toNat)
              case atStart => exact ⟨0, none, 0, 0, by omega, rfl, O12.out.here, World.ownsRow_nil _ _ _ _⟩
              case round =>
                obtain ⟨j, aL, lL, cL, j1, rfl, oj, rowj⟩ := hrel
                have eb := oj.out.ebit
                by_cases hj : j < nl
                · cases hs : (many Rd.line j r9).2.short
                  · rw [hs] at eb
                    obtain ⟨s0, hs0⟩ : ∃ s0, many Rd.line j r9 = s0 := ⟨_, rfl⟩
                    have HN : Hid (many Rd.line (j + 1) r9 = (s0.1 ++ [(s0.2.line).1], (s0.2.line).2)) := by show _ = _; rw [many, hs0]
                    rw [hs0] at oj rowj
                    obtain ⟨fj, rj⟩ := s0
                    simp only [] at oj rowj HN
                    obtain ⟨x, rk, hx, x1, xb⟩ := num2_nat rj oj.out.tp.byt
                    obtain ⟨y, rm, hy, y1, _⟩ := num2_nat rk xb
                    have hln : rj.line = (⟨x, y⟩, rm) := by unfold Rd.line; simp only [hx, hy]
                    rw [hln] at HN
                    clear hln xb
                    have hjj : (j : Int) < (nl : Int) := by omega
                    clear hs0 hs
                    go_wp2_with fail
                    refine (oj.out.num hx (by omega)).mono ?_
                    rintro e wa2 ⟨rfl, oa, fa⟩
                    have rowa : Hid _ := row_frg rowj.out fa hlt2
                    have OA : Hid _ := oa
                    clear oa fa oj rowj eb
                    go_wp2_with fail
                    refine (OA.out.num hy (by omega)).mono ?_
                    rintro e wc2 ⟨rfl, oc, fc⟩
                    have rowc := row_frg rowa.out fc hlt2
                    clear fc OA rowa
                    obtain ⟨v', W, hr, ho, gr, hbx⟩ := row_app 42 26 2 16 _ Try.underlying26 inLn rfl (by decide) rowc oc.fr.size [.int .i64 x, .int .i64 y] rfl (by intro u hu; simp at hu; rcases hu with rfl | rfl <;> rfl) (by omega) (by unfold maxLen; omega) (Or.inl rfl)
                    obtain ⟨hbox, oi2, row2⟩ := oc.app rowc hbx gr ho 4
                    obtain ⟨a2, l2, k2, rfl⟩ := row_form ho
                    have HR : Hid _ := hr
                    have OI2 : Hid (Oi w12 w.heap.size (gt + 1) gt bs (W.setCell ⟨gt + 1, 4, none⟩ (.slice a2 l2 k2)) rm #[.slice aT lT cT, .slice aF lF cF, .slice aB lB cB, .slice aD lD cD, .slice a2 l2 k2, .int .i64 en]) := oi2
                    have ROW2 : Hid ((W.setCell ⟨gt + 1, 4, none⟩ (.slice a2 l2 k2)).ownsRow w12.heap.size 42 2 (.slice a2 l2 k2) (j + 1) (flat Ln.cells (fj ++ [⟨x, y⟩]))) := by
                      show World.ownsRow _ _ _ _ _ _ _
                      have e : flat Ln.cells (fj ++ [⟨x, y⟩]) = flat Ln.cells fj ++ [.int .i64 x, .int .i64 y] := by unfold flat; rw [List.flatMap_append]; rfl
                      rw [e]; exact row2
                    have t0 : W.cell? ⟨gt + 1, 4, none⟩ = some (.slice aL lL cL) := by simp [World.cell?, hbox]
                    have t1 : W.frozen? ⟨gt + 1, 4, none⟩ = false := by simp [World.frozen?, hbox]
                    have t2 : wc2.cell? ⟨gt + 1, 4, none⟩ = some (.slice aL lL cL) := oc.cell 4
                    have hltc : gt + 1 < wc2.heap.size := Nat.lt_of_lt_of_le oc.lt oc.fr.size
                    clear hr ho gr hbx hbox oi2 row2 oc rowc
                    go_wp2_with (first | (at_builtin; refine wpList_append_two _ rfl (.tmp 173) (.tmp 177) 26 26 rfl _ _ rfl rfl HR.out ?_))
                    go_roundw
                    case rel => exact ⟨j + 1, _, _, _, by omega, by go_num, by rw [HN.out]; exact OI2.out, by rw [HN.out]; exact ROW2.out⟩
                    case measure => simp [intOf]; omega
                  · rw [hs] at eb
                    have HF := FIN.out wr j aL lL cL j1 (Or.inr hs) oj.out rowj.out
                    have hjj : (j : Int) < (nl : Int) := by omega
                    clear oj rowj
                    go_wp2
                    go_meet
                    exact HF
                · have HF := FIN.out wr j aL lL cL j1 (Or.inl (by omega)) oj.out rowj.out
                  have hjj : ¬ (j : Int) < (nl : Int) := by omega
                  clear oj rowj
                  go_wp2
                  go_meet
                  exact HF
            case rest =>
              obtain ⟨aL, lL, cL, xL, O13, LT13, LF13, LB13, LD13, TB13, LL13, XL⟩ := hcut
              have eb := O13.out.ebit
              obtain ⟨bz, brz⟩ := BZ.out wc O13.out.fr
              have BZc : Hid (Below w.heap.size w wc) := bz
              have BRz : Hid _ := brz
              have zc1 : w.heap.size < wc.heap.size := (Array.getElem?_eq_some_iff.1 brz).1
              clear bz brz
              cases q3 : r10.short
              rotate_left
              · have HD : Hid (decErr bs = 5) := by show _ = _; unfold decErr; rw [if_neg hq1, if_neg (by rw [HQ.out]; simp), ALL.out, if_pos q3]
                rw [q3] at eb
                obtain ⟨s1, _, _, s4⟩ := six_put (.slice none 0 0) (.slice none 0 0) (.slice none 0 0) (.slice none 0 0) (.slice none 0 0) (.int .i64 0) BRz.out
                have hbz := s4 BZc.out (Nat.le_refl _)
                obtain ⟨Z, hZ⟩ : ∃ Z, (((((wc.setCell ⟨w.heap.size, 0, none⟩ (.slice none 0 0)).setCell ⟨w.heap.size, 1, none⟩ (.slice none 0 0)).setCell ⟨w.heap.size, 2, none⟩ (.slice none 0 0)).setCell ⟨w.heap.size, 3, none⟩ (.slice none 0 0)).setCell ⟨w.heap.size, 4, none⟩ (.slice none 0 0)).setCell ⟨w.heap.size, 5, none⟩ (.int .i64 0) = Z := ⟨_, rfl⟩
                rw [hZ] at s1 hbz
                obtain ⟨d0, d1, d2, d3, d4, d5⟩ := six_cells s1
                have HZ : Hid _ := hZ
                clear hZ s4
                go_wp2_with (first | (with_reducible refine @id (wpList _ _ _ (Oper.mk _ (Op.store _ _ _) _ _ _ _ :: _) _ _) ?_; refine wpList_store6 rfl (.tmp 2) (.tmp 184) rfl w.heap.size rfl rfl BRz.out rfl rfl rfl rfl rfl rfl HZ.out ?_))
                exact bodyPost_ret (v := .tuple #[.agg #[.slice none 0 0, .slice none 0 0, .slice none 0 0, .slice none 0 0, .slice none 0 0, .int .i64 0], .int .i64 5]) (res6 (k := w.heap.size) rfl rfl d0 d1 d2 d3 d4 d5) rfl (Or.inl ⟨by rw [HD.out]; decide, by rw [HD.out], hbz⟩)
              rw [q3] at eb
              obtain ⟨s3, s6, s8⟩ := rdImg_shorts (r := ⟨bs.drop 4, false⟩) (fun x hx => HBY.out x (List.mem_of_mem_drop hx)) E1.out E2.out E3.out E4.out E5.out E6.out E7.out E8.out E9.out E10.out E11.out q3
              obtain rfl := XF.out s3
              obtain rfl := XB.out s6
              obtain rfl := XD.out s8
              obtain rfl := XL.out q3
              obtain ⟨b9, o9, c9, p, hbox, _, _, _, _, hp, hleft⟩ := O13.out.tp.box
              have hleft2 := hleft q3
              have ec : wc.cell? ⟨gt, 1, none⟩ = some (.int .i64 (p : Int)) := by simp [World.cell?, hbox]
              have hll : r10.left.length = bs.length - p := by rw [hleft2, List.length_drop]
              clear hbox hleft hleft2
              by_cases q4 : (p : Int) < (bs.length : Int)
              · have HD : Hid (decErr bs = 4) := by show _ = _; unfold decErr; rw [if_neg hq1, if_neg (by rw [HQ.out]; simp), ALL.out, if_neg (by rw [q3]; simp), if_pos (by show 0 < r10.left.length; omega)]
                obtain ⟨s1, _, _, s4⟩ := six_put (.slice none 0 0) (.slice none 0 0) (.slice none 0 0) (.slice none 0 0) (.slice none 0 0) (.int .i64 0) BRz.out
                have hbz := s4 BZc.out (Nat.le_refl _)
                obtain ⟨Z, hZ⟩ : ∃ Z, (((((wc.setCell ⟨w.heap.size, 0, none⟩ (.slice none 0 0)).setCell ⟨w.heap.size, 1, none⟩ (.slice none 0 0)).setCell ⟨w.heap.size, 2, none⟩ (.slice none 0 0)).setCell ⟨w.heap.size, 3, none⟩ (.slice none 0 0)).setCell ⟨w.heap.size, 4, none⟩ (.slice none 0 0)).setCell ⟨w.heap.size, 5, none⟩ (.int .i64 0) = Z := ⟨_, rfl⟩
                rw [hZ] at s1 hbz
                obtain ⟨d0, d1, d2, d3, d4, d5⟩ := six_cells s1
                have HZ : Hid _ := hZ
                clear hZ s4
                go_wp2_with (first | (with_reducible refine @id (wpList _ _ _ (Oper.mk _ (Op.store _ _ _) _ _ _ _ :: _) _ _) ?_; refine wpList_store6 rfl (.tmp 2) (.tmp 192) rfl w.heap.size rfl rfl BRz.out rfl rfl rfl rfl rfl rfl HZ.out ?_))
                exact bodyPost_ret (v := .tuple #[.agg #[.slice none 0 0, .slice none 0 0, .slice none 0 0, .slice none 0 0, .slice none 0 0, .int .i64 0], .int .i64 4]) (res6 (k := w.heap.size) rfl rfl d0 d1 d2 d3 d4 d5) rfl (Or.inl ⟨by rw [HD.out]; decide, by rw [HD.out], hbz⟩)
              have HD : Hid (decErr bs = imgChk ⟨xs, xF, xB, xD, xL, en⟩) := by show _ = _; unfold decErr; rw [if_neg hq1, if_neg (by rw [HQ.out]; simp), ALL.out, if_neg (by rw [q3]; simp), if_neg (by show ¬ 0 < r10.left.length; omega)]
              have HDI : Hid (decImg bs = ⟨xs, xF, xB, xD, xL, en⟩) := by show _ = _; unfold decImg; rw [ALL.out]
              have HOK : Hid (Img.ok ⟨xs, xF, xB, xD, xL, en⟩) := by
                have := rdImg_ok ⟨bs.drop 4, false⟩ (fun x hx => HBY.out x (List.mem_of_mem_drop hx))
                rw [ALL.out] at this
                exact this
              have IMG : Hid (∀ wz : World, wc.heap.size ≤ wz.heap.size → (∀ k, gt < k → k < wc.heap.size → wz.heap[k]? = wc.heap[k]?) → ImgAt wz (.slice aT lT cT) (.slice aF lF cF) (.slice aB lB cB) (.slice aD lD cD) (.slice aL lL cL) ⟨xs, xF, xB, xD, xL, en⟩) := fun wz hs hk =>
                ⟨LT13.out.on hs hk, LF13.out.on hs hk, ⟨us, LB13.out.on hs hk, TB13.out.len, fun i u t hu ht => (TB13.out.list i u t hu ht).on hs hk⟩, LD13.out.on hs hk, LL13.out.on hs hk⟩
              have hgb : gt + 1 < wc.heap.size := Nat.lt_of_lt_of_le O13.out.lt O13.out.fr.size
              have BM : Hid (wc.heap[gt + 1]? = some (.cells #[.slice aT lT cT, .slice aF lF cF, .slice aB lB cB, .slice aD lD cD, .slice aL lL cL, .int .i64 en] 28)) := O13.out.bx
              obtain ⟨n0, n1, n2, n3, n4, n5⟩ := six_cells BM.out
              clear hll q3 s3 s6 s8 LT13 LF13 LB13 LD13 TB13 LL13 XF XB XD XL O13 BZ ALL E1 E2 E3 E4 E5 E6 E7 E8 E9 E10 E11
              go_wp2_with fail
              clear n0 n1 n2 n3 n4 n5 eb ec
              refine (fault_any _ _ _ _ _ ⟨xs, xF, xB, xD, xL, en⟩ wc (IMG.out wc (Nat.le_refl _) fun _ _ _ => rfl) HOK.out).mono ?_
              rintro e w4 ⟨rfl, hb4⟩
              have BR4 : Hid _ := (hb4.block w.heap.size zc1).trans BRz.out
              have BM4 : Hid _ := (hb4.block (gt + 1) hgb).trans BM.out
              have B4 : Hid (Below w.heap.size w w4) := BZc.out.trans (hb4.mono (by omega))
              have HB4 : Hid _ := hb4
              clear hb4
              generalize imgChk ⟨xs, xF, xB, xD, xL, en⟩ = zc at *
              by_cases q6 : zc = 0
              rotate_left
              · have q6b : (zc != 0) = true := by simp [q6]
                have Q6 : Hid (zc ≠ 0) := q6
                clear q6
                obtain ⟨s1, _, _, s4⟩ := six_put (.slice none 0 0) (.slice none 0 0) (.slice none 0 0) (.slice none 0 0) (.slice none 0 0) (.int .i64 0) BR4.out
                have hbz := s4 B4.out (Nat.le_refl _)
                obtain ⟨Z, hZ⟩ : ∃ Z, (((((w4.setCell ⟨w.heap.size, 0, none⟩ (.slice none 0 0)).setCell ⟨w.heap.size, 1, none⟩ (.slice none 0 0)).setCell ⟨w.heap.size, 2, none⟩ (.slice none 0 0)).setCell ⟨w.heap.size, 3, none⟩ (.slice none 0 0)).setCell ⟨w.heap.size, 4, none⟩ (.slice none 0 0)).setCell ⟨w.heap.size, 5, none⟩ (.int .i64 0) = Z := ⟨_, rfl⟩
                rw [hZ] at s1 hbz
                obtain ⟨d0, d1, d2, d3, d4, d5⟩ := six_cells s1
                have HZ : Hid _ := hZ
                clear hZ s4
                go_wp2_with (first | (with_reducible refine @id (wpList _ _ _ (Oper.mk _ (Op.store _ _ _) _ _ _ _ :: _) _ _) ?_; refine wpList_store6 rfl (.tmp 2) (.tmp 197) rfl w.heap.size rfl rfl BR4.out rfl rfl rfl rfl rfl rfl HZ.out ?_))
                exact bodyPost_ret (v := .tuple #[.agg #[.slice none 0 0, .slice none 0 0, .slice none 0 0, .slice none 0 0, .slice none 0 0, .int .i64 0], .int .i64 zc]) (res6 (k := w.heap.size) rfl rfl d0 d1 d2 d3 d4 d5) rfl (Or.inl ⟨by rw [HD.out]; exact Q6.out, by rw [HD.out], hbz⟩)
              rw [q6] at HD
              obtain ⟨n0, n1, n2, n3, n4, n5⟩ := six_cells BM4.out
              obtain ⟨s1, s2, s3, s4⟩ := six_put (.slice aT lT cT) (.slice aF lF cF) (.slice aB lB cB) (.slice aD lD cD) (.slice aL lL cL) (.int .i64 en) BR4.out
              have hbz := s4 B4.out (Nat.le_refl _)
              have hIz : ImgAt ((((((w4.setCell ⟨w.heap.size, 0, none⟩ (.slice aT lT cT)).setCell ⟨w.heap.size, 1, none⟩ (.slice aF lF cF)).setCell ⟨w.heap.size, 2, none⟩ (.slice aB lB cB)).setCell ⟨w.heap.size, 3, none⟩ (.slice aD lD cD)).setCell ⟨w.heap.size, 4, none⟩ (.slice aL lL cL)).setCell ⟨w.heap.size, 5, none⟩ (.int .i64 en)) (.slice aT lT cT) (.slice aF lF cF) (.slice aB lB cB) (.slice aD lD cD) (.slice aL lL cL) ⟨xs, xF, xB, xD, xL, en⟩ := IMG.out _ (by rw [s3]; exact HB4.out.size) fun k k1 k2 => (s2 k (by omega)).trans (HB4.out.block k k2)
              obtain ⟨Z, hZ⟩ : ∃ Z, (((((w4.setCell ⟨w.heap.size, 0, none⟩ (.slice aT lT cT)).setCell ⟨w.heap.size, 1, none⟩ (.slice aF lF cF)).setCell ⟨w.heap.size, 2, none⟩ (.slice aB lB cB)).setCell ⟨w.heap.size, 3, none⟩ (.slice aD lD cD)).setCell ⟨w.heap.size, 4, none⟩ (.slice aL lL cL)).setCell ⟨w.heap.size, 5, none⟩ (.int .i64 en) = Z := ⟨_, rfl⟩
              rw [hZ] at s1 hbz hIz
              obtain ⟨d0, d1, d2, d3, d4, d5⟩ := six_cells s1
              have HZ : Hid _ := hZ
              clear hZ s2 s3 s4
              go_wp2_with (first | (with_reducible refine @id (wpList _ _ _ (Oper.mk _ (Op.store _ _ _) _ _ _ _ :: _) _ _) ?_; refine wpList_store6 rfl (.tmp 2) (.tmp 199) rfl w.heap.size rfl rfl BR4.out rfl rfl rfl rfl rfl rfl HZ.out ?_))
              exact bodyPost_ret (v := .tuple #[.agg #[.slice aT lT cT, .slice aF lF cF, .slice aB lB cB, .slice aD lD cD, .slice aL lL cL, .int .i64 en], .int .i64 0]) (res6 (k := w.heap.size) rfl rfl d0 d1 d2 d3 d4 d5) rfl (Or.inr ⟨HD.out, _, _, _, _, _, by rw [HDI.out], by rw [HDI.out]; exact hIz, hbz⟩)
end Go.Proofs.Ytmibbjjfijcgpac
