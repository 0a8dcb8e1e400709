/-
  package step: Run: the whole of a run.
-/
import Derived.Test.YtechpdfcgimkkaaDoorMRC
import Derived.Deep.RegionWith
import Derived.Deep.RegionHeld3
import Derived.Deep.DeepCutAuto
import Derived.Deep.QuietTactic
import Derived.BigQuiet
namespace Go.Proofs.YtechpdfcgimkkaaDoor
open Go.RowKit Go.Joins Isa
set_option maxRecDepth 100000 in
set_option maxHeartbeats 4000000 in
theorem run_own (vT vF vB vD vL vI : Value) (m : Img) (ins : List Int) (fuel : Int) (w : World) (hI : ImgAt w vT vF vB vD vL m) (hok : m.ok) (ht : Tabs w) (hin : ListAt w icell 1 vI ins) :
    Calls Tryd.prog 26 #[.agg #[vT, vF, vB, vD, vL, .int .i64 m.entry], vI, .int .i64 fuel] w fun e w' => ∃ vO, e = .returned (.tuple #[.agg #[vO, .int .i64 (runOut m ins fuel).en, .int .i64 (runOut m ins fuel).st, .int .i64 (runOut m ins fuel).pc], .int .i64 (runChk m ins fuel)]) ∧ w'.ownsRow w.heap.size 3 1 vO (runOut m ins fuel).told.length (flat icell (runOut m ins fuel).told) ∧ Below w.heap.size w w' := by
  obtain ⟨aT, cT, rfl, lT⟩ := hI.text.form
  obtain ⟨aF, cF, rfl, lF⟩ := hI.funcs.form
  obtain ⟨aD, cD, rfl, lD⟩ := hI.data.form
  obtain ⟨aL, cL, rfl, lL⟩ := hI.lines.form
  obtain ⟨vs, hvB, hvl, hvE⟩ := hI.tables
  obtain ⟨aB, cB, rfl, lB⟩ := hvB.form
  obtain ⟨aI, cI, rfl, lI⟩ := hin.form
  obtain ⟨W0, hW0⟩ : ∃ W0, (w.alloc (.cells #[.slice aT m.text.length cT, .slice aF m.funcs.length cF, .slice aB vs.length cB, .slice aD m.data.length cD, .slice aL m.lines.length cL, .int .i64 m.entry] 29)).alloc (.cells #[.slice none 0 0, .int .i64 0, .int .i64 0, .int .i64 0] 52) = W0 := ⟨_, rfl⟩
  have hz0 : W0.heap.size = w.heap.size + 2 := by rw [← hW0]; simp
  have HB0 : Hid (Below w.heap.size w W0) := by rw [← hW0]; exact ((Below.refl _ _).alloc (Nat.le_refl _) _).alloc (by simp) _
  have HG0 : Hid (W0.heap[w.heap.size]? = some (.cells #[.slice aT m.text.length cT, .slice aF m.funcs.length cF, .slice aB vs.length cB, .slice aD m.data.length cD, .slice aL m.lines.length cL, .int .i64 m.entry] 29)) := by
    show _ = _
    rw [← hW0]
    exact (((Below.refl w.heap.size.succ (w.alloc (.cells #[.slice aT m.text.length cT, .slice aF m.funcs.length cF, .slice aB vs.length cB, .slice aD m.data.length cD, .slice aL m.lines.length cL, .int .i64 m.entry] 29))).alloc (by simp) (.cells #[.slice none 0 0, .int .i64 0, .int .i64 0, .int .i64 0] 52)).block w.heap.size (Nat.lt_succ_self _)).trans (alloc_at _ _ _ rfl)
  have HG1 : Hid (W0.heap[w.heap.size + 1]? = some (.cells #[.slice none 0 0, .int .i64 0, .int .i64 0, .int .i64 0] 52)) := by
    show _ = _
    rw [← hW0]
    exact alloc_at _ _ _ (by simp)
  have CK : Hid (Calls Tryd.prog 56 #[.agg #[.slice aT m.text.length cT, .slice aF m.funcs.length cF, .slice aB vs.length cB, .slice aD m.data.length cD, .slice aL m.lines.length cL, .int .i64 m.entry], .slice aI ins.length cI, .int .i64 fuel] W0 fun e w' => e = .returned (.int .i64 (runChk m ins fuel)) ∧ Below W0.heap.size W0 w') := rcheck_any _ _ _ _ _ _ m ins fuel W0 (hI.stays (Nat.le_refl _) HB0.out) hok (hin.stays (Nat.le_refl _) HB0.out)
  by_cases hc : runChk m ins fuel = 0
  · obtain ⟨hic, f0, f1, -, -⟩ := runChk_ok hc
    obtain ⟨tl, e0, e1, dl, -⟩ := imgChk_ok hic
    have HT0 : Hid ((mc0 m ins (m.funcs.getD m.entry.toNat noFn)).told.length ≤ 0) := Nat.le_refl 0
    have HL0 : Hid ((mc0 m ins (m.funcs.getD m.entry.toNat noFn)).mem.length ≤ 64) := by show (m.data.map vl0).length ≤ 64; rw [List.length_map]; exact dl
    have OK0 : Hid (McOk (mc0 m ins (m.funcs.getD m.entry.toNat noFn))) := mcok0 hc _
    have HO : Hid (runOut m ins fuel = runOf (runN m.text m.tables fuel.toNat 0 (mc0 m ins (m.funcs.getD m.entry.toNat noFn)))) := by show _ = _; unfold runOut; rw [if_pos hc]
    have hf : m.funcs[m.entry.toNat]? = some (m.funcs.getD m.entry.toNat noFn) := by
      rw [List.getD_eq_getElem?_getD]
      rw [List.getElem?_eq_getElem (show m.entry.toNat < m.funcs.length by omega)]
      rfl
    have ST : Hid (∀ w', Below W0.heap.size W0 w' → Calls Tryd.prog 57 #[.agg #[.slice aT m.text.length cT, .slice aF m.funcs.length cF, .slice aB vs.length cB, .slice aD m.data.length cD, .slice aL m.lines.length cL, .int .i64 m.entry], .slice aI ins.length cI] w' fun e w2 => ∃ gm gd, e = .returned (.pointer (some ⟨gm, 0, none⟩)) ∧ MSt W0 w2 W0.heap.size gm gd (.slice aB vs.length cB) (.slice aI ins.length cI) (.slice none 0 0) (mc0 m ins (m.funcs.getD m.entry.toNat noFn))) := fun w' hb => start_any _ _ _ _ _ _ m ins _ W0 w' hb (hI.stays (Nat.le_refl _) HB0.out) (hin.stays (Nat.le_refl _) HB0.out) hf e0 dl
    have HTX : Hid (TextAt W0 (.slice aT m.text.length cT) m.text) := text_of (hI.text.stays (Nat.le_refl _) HB0.out) hok.text
    have HTB : Hid (Tabs W0) := ht.below ht.sz HB0.out
    have HTV : Hid (ListAt W0 vcell 1 (.slice aB vs.length cB) vs) := hvB.stays (Nat.le_refl _) HB0.out
    have HTE : Hid (∀ (j : Nat) (u : Value) (t : List Int), vs[j]? = some u → m.tables[j]? = some t → ListAt W0 icell 1 u t) := fun j u t h1 h2 => (hvE j u t h1 h2).stays (Nat.le_refl _) HB0.out
    have HTL : Hid (vs.length = m.tables.length) := hvl
    obtain ⟨F, rfl⟩ := Int.eq_ofNat_of_zero_le f0
    rw [hc] at CK
    have HC : Hid _ := hc
    have HZ : Hid _ := hz0
    have HW0 : Hid _ := hW0
    have hF : (F : Int) ≤ 100000 := f1
    rw [Int.toNat_natCast] at HO
    generalize mc0 m ins (m.funcs.getD m.entry.toNat noFn) = s0 at *
    have hlW : w.heap.size + 1 < W0.heap.size := by omega
    clear hI hok ht hin hvB hvl hvE hic e0 e1 dl hf hc f0 f1 lT lF lD lL lB lI hz0 hW0
    go_enter Tryd.func26, Tryd.ntmps26
    go_upto_region 1 with fail
    rw [HW0.out]
    clear HW0
    have i0 : W0.cell? ⟨w.heap.size, 0, none⟩ = some (.slice aT m.text.length cT) := by simp only [World.cell?, HG0.out]; rfl
    have i1 : W0.cell? ⟨w.heap.size, 1, none⟩ = some (.slice aF m.funcs.length cF) := by simp only [World.cell?, HG0.out]; rfl
    have i2 : W0.cell? ⟨w.heap.size, 2, none⟩ = some (.slice aB vs.length cB) := by simp only [World.cell?, HG0.out]; rfl
    have i3 : W0.cell? ⟨w.heap.size, 3, none⟩ = some (.slice aD m.data.length cD) := by simp only [World.cell?, HG0.out]; rfl
    have i4 : W0.cell? ⟨w.heap.size, 4, none⟩ = some (.slice aL m.lines.length cL) := by simp only [World.cell?, HG0.out]; rfl
    have i5 : W0.cell? ⟨w.heap.size, 5, none⟩ = some (.int .i64 m.entry) := by simp only [World.cell?, HG0.out]; rfl
    have CC : Hid (∀ w', Below W0.heap.size W0 w' → ∀ o, w'.cell? ⟨w.heap.size, o, none⟩ = W0.cell? ⟨w.heap.size, o, none⟩) := fun w' hb o => hb.cell (p := ⟨w.heap.size, o, none⟩) (by show w.heap.size < _; omega)
    go_wp2_with (first
      | (go_at_call 56; refine CK.out.mono ?_; rintro e w1 ⟨rfl, hb1⟩; have j0 := (CC.out w1 hb1 0).trans i0; have j1 := (CC.out w1 hb1 1).trans i1; have j2 := (CC.out w1 hb1 2).trans i2; have j3 := (CC.out w1 hb1 3).trans i3; have j4 := (CC.out w1 hb1 4).trans i4; have j5 := (CC.out w1 hb1 5).trans i5)
      | (go_at_call 57; refine (ST.out _ hb1).mono ?_; rintro e w2 ⟨gm, gd, rfl, hM⟩))
    clear i0 i1 i2 i3 i4 i5 j0 j1 j2 j3 j4 j5 ST CK hb1
    have HM : Hid _ := hM
    clear hM
    go_loopw [27] (fun u wr => ∃ (j : Nat) (s : Mc) (vI vO : Value), j ≤ F ∧ u = .int .i64 (j : Int) ∧ Hid (MSt W0 wr W0.heap.size gm gd (.slice aB vs.length cB) vI vO s) ∧ Hid (McOk s) ∧ Hid (s.told.length ≤ j) ∧ Hid (s.mem.length ≤ 64) ∧ Hid (runN m.text m.tables (F - j) j s = runN m.text m.tables F 0 s0)) (fun u _ => (F - intOf u).toNat)
    case atStart => exact ⟨0, s0, _, _, by omega, rfl, HM, OK0, HT0, HL0, rfl⟩
    case round =>
      clear HM OK0 HT0 HL0
      obtain ⟨j, s, vI, vO, j1, rfl, hM, hok, hto, hme, hrn⟩ := hrel
      obtain ⟨aO, lO, cO, rfl⟩ := row_form hM.out.told
      obtain ⟨-, -, -, -, z4, zf⟩ := hM.out.mach.rest
      have hgl := hM.out.mach.lt
      have EN : Hid (∀ en st w', Below wr.heap.size wr w' → Calls Tryd.prog 59 #[.pointer (some ⟨gm, 0, none⟩), .int .i64 en, .int .i64 st] w' fun e w2 => e = .returned (.agg #[.slice aO lO cO, .int .i64 en, .int .i64 st, .int .i64 s.pc]) ∧ Below w'.heap.size w' w2) := fun en st w' hb => ended_any gm s.rs _ _ _ aO lO cO s.pc en st w' (hM.out.up hb).mach
      have FR : Hid (∀ w9, Below wr.heap.size wr w9 → w9.cell? ⟨w.heap.size + 1, 0, none⟩ = some (.slice none 0 0) ∧ w9.cell? ⟨w.heap.size + 1, 1, none⟩ = some (.int .i64 0) ∧ w9.cell? ⟨w.heap.size + 1, 2, none⟩ = some (.int .i64 0) ∧ w9.cell? ⟨w.heap.size + 1, 3, none⟩ = some (.int .i64 0) ∧ (∀ o, w9.frozen? ⟨w.heap.size + 1, o, none⟩ = false) ∧ w.heap.size + 1 < w9.heap.size ∧ Hid (w9.heap[w.heap.size + 1]? = some (.cells #[.slice none 0 0, .int .i64 0, .int .i64 0, .int .i64 0] 52))) := by
        intro w9 hb
        have hg := (fin_run hM.out hb HG1.out).1
        refine ⟨?_, ?_, ?_, ?_, fun o => by simp [World.frozen?, hg], (Array.getElem?_eq_some_iff.1 hg).1, hg⟩
        all_goals (simp only [World.cell?, hg]; rfl)
      have FIN : Hid (∀ w9 en st, Below wr.heap.size wr w9 → runN m.text m.tables F 0 s0 = (s, en, st) → ∃ vO, (Ending.returned (.tuple #[.agg #[.slice aO lO cO, .int .i64 en, .int .i64 st, .int .i64 s.pc], .int .i64 0])) = .returned (.tuple #[.agg #[vO, .int .i64 (runOut m ins F).en, .int .i64 (runOut m ins F).st, .int .i64 (runOut m ins F).pc], .int .i64 (runChk m ins F)]) ∧ World.ownsRow ((((w9.setCell ⟨w.heap.size + 1, 0, none⟩ (.slice aO lO cO)).setCell ⟨w.heap.size + 1, 1, none⟩ (.int .i64 en)).setCell ⟨w.heap.size + 1, 2, none⟩ (.int .i64 st)).setCell ⟨w.heap.size + 1, 3, none⟩ (.int .i64 s.pc)) w.heap.size 3 1 vO (runOut m ins F).told.length (flat icell (runOut m ins F).told) ∧ Below w.heap.size w ((((w9.setCell ⟨w.heap.size + 1, 0, none⟩ (.slice aO lO cO)).setCell ⟨w.heap.size + 1, 1, none⟩ (.int .i64 en)).setCell ⟨w.heap.size + 1, 2, none⟩ (.int .i64 st)).setCell ⟨w.heap.size + 1, 3, none⟩ (.int .i64 s.pc))) := by
        intro w9 en st hb hr
        have hf := (fin_run hM.out hb HG1.out).2 (.slice aO lO cO) (.int .i64 en) (.int .i64 st) (.int .i64 s.pc)
        rw [HC.out, HO.out, hr]
        exact ⟨.slice aO lO cO, rfl, row_low hf.1 (by omega), hf.2 w (by omega) HB0.out⟩
      by_cases hj : j < F
      · have hjj : (j : Int) < (F : Int) := by omega
        obtain ⟨k, d, a, b, n, l, sz, er, hO⟩ : ∃ k d a b n l sz er, decOut m.text s.pc = (⟨k, d, a, b, n, l⟩, sz, er) := ⟨_, _, _, _, _, _, _, _, rfl⟩
        have hst : runN m.text m.tables (F - j) j s = if er ≠ 0 then (s, 2, (j : Int)) else if endN s.rs s.mem.length m.tables k a b n ≠ 0 then (s, endN s.rs s.mem.length m.tables k a b n, (j : Int)) else runN m.text m.tables (F - (j + 1)) ((j : Int) + 1) (doS m.tables s k d a b n sz) := by
          rw [show F - j = (F - (j + 1)) + 1 by omega, runN, hO]
        rw [hrn.out] at hst
        have DEC : Hid (∀ w', Below wr.heap.size wr w' → Calls Tryd.prog 58 #[.slice aT m.text.length cT, .int .i64 s.pc] w' fun e w2 => e = .returned (.tuple #[.agg #[.int .i64 k, .int .i64 d, .int .i64 a, .int .i64 b, .int .i64 n, .bool l], .int .i64 sz, .int .i64 er]) ∧ Below w'.heap.size w' w2) := by
          intro w' hb
          have hb2 : Below W0.heap.size W0 w' := (hM.out.up hb).base
          have := decode_any (.slice aT m.text.length cT) m.text s.pc w' (HTB.out.below HTB.out.sz hb2) (text_up HTX.out hb2)
          rw [hO] at this
          exact this
        have i0 : wr.cell? ⟨w.heap.size, 0, none⟩ = some (.slice aT m.text.length cT) := (CC.out wr hM.out.base 0).trans (by simp only [World.cell?, HG0.out]; rfl)
        have hwl : w.heap.size < wr.heap.size := by have := hM.out.base.size; omega
        have hwn : w.heap.size ≠ wr.heap.size := by omega
        have hgn : gm ≠ wr.heap.size := by omega
        have ZB : Hid (∀ wn, Below (wr.alloc (.cells #[.int .i64 0, .int .i64 0, .int .i64 0, .int .i64 0, .int .i64 0, .bool false] 61)).heap.size (wr.alloc (.cells #[.int .i64 0, .int .i64 0, .int .i64 0, .int .i64 0, .int .i64 0, .bool false] 61)) wn → wn.heap[wr.heap.size]? = some (.cells #[.int .i64 0, .int .i64 0, .int .i64 0, .int .i64 0, .int .i64 0, .bool false] 61)) := fun wn hb => (hb.block _ (by simp)).trans (alloc_at _ _ _ rfl)
        have HST : Hid _ := hst
        have HDO : Hid _ := hO
        clear hst hO
        go_upto_region 8 with fail
        go_cut [11, 12, 13] (fun p x y wc => ∃ gb, p = .pointer (some ⟨gb, 0, none⟩) ∧ x = .int .i64 sz ∧ y = .int .i64 er ∧ Hid (wc.heap[gb]? = some (.cells #[.int .i64 k, .int .i64 d, .int .i64 a, .int .i64 b, .int .i64 n, .bool l] 61)) ∧ Hid (Below wr.heap.size wr wc))
        case first =>
          go_region_with (first
            | (go_at_call 58; refine (DEC.out (wr.alloc (.cells #[.int .i64 0, .int .i64 0, .int .i64 0, .int .i64 0, .int .i64 0, .bool false] 61)).drew (((Below.refl _ _).alloc (Nat.le_refl _) _).drew)).mono ?_; rintro e wn ⟨rfl, hbn⟩; have hbo : Below wr.heap.size wr wn := (((Below.refl wr.heap.size wr).alloc (Nat.le_refl _) (.cells #[.int .i64 0, .int .i64 0, .int .i64 0, .int .i64 0, .int .i64 0, .bool false] 61)).drew.trans (hbn.mono (by simp))); have zb := ZB.out wn ⟨hbn.os, hbn.tape, hbn.output, hbn.size, hbn.block⟩; have zc : ∀ o, wn.cell? ⟨wr.heap.size, o, none⟩ = (#[.int .i64 0, .int .i64 0, .int .i64 0, .int .i64 0, .int .i64 0, .bool false] : Array Value)[o]? := (fun o => by simp only [World.cell?, zb]; rfl); have zg : ∀ o, wn.frozen? ⟨wr.heap.size, o, none⟩ = false := (fun o => by simp [World.frozen?, zb]); have zn : wr.heap.size < wn.heap.size := (Array.getElem?_eq_some_iff.1 zb).1; have zc0 := zc 0; have zc1 := zc 1; have zc2 := zc 2; have zc3 := zc 3; have zc4 := zc 4; have zc5 := zc 5; simp at zc0 zc1 zc2 zc3 zc4 zc5; have ZBB : Hid _ := zb; have HBN : Hid _ := hbo; clear zc zb hbn hbo)
            | (go_at_call 58; refine (DEC.out _ (by first | exact (Below.refl _ _).drew | exact Below.refl _ _ | exact below_drewN (Below.refl _ _) _)).mono ?_; rintro e wn ⟨rfl, hbn⟩; have hbo : Below wr.heap.size wr wn := ((by first | exact (Below.refl wr.heap.size wr).drew | exact Below.refl _ _ | exact below_drewN (Below.refl _ _) _ : Below wr.heap.size wr _).trans (hbn.mono (by simp))); have HBN : Hid _ := hbo; clear hbn hbo))
          all_goals (try go_wp2)
          all_goals go_meet
          all_goals first
            | exact ⟨wr.heap.size, rfl, rfl, rfl, chain6 ZBB.out _ _ _ _ _ _, chain6_below HBN.out (Nat.le_refl _) _ _ _ _ _ _⟩
            | exact ⟨wn.heap.size, rfl, rfl, rfl, alloc_at wn _ _ rfl, HBN.out.alloc HBN.out.size _⟩
        case rest =>
          obtain ⟨gb, rfl, rfl, rfl, HX, hbc⟩ := hcut
          clear DEC ZB i0 hwn hgn z4 zf
          have hgb : gb < wc.heap.size := (Array.getElem?_eq_some_iff.1 HX.out).1
          have GC : Hid (∀ w', Below wc.heap.size wc w' → w'.cell? ⟨gb, 0, none⟩ = some (.int .i64 k) ∧ w'.cell? ⟨gb, 1, none⟩ = some (.int .i64 d) ∧ w'.cell? ⟨gb, 2, none⟩ = some (.int .i64 a) ∧ w'.cell? ⟨gb, 3, none⟩ = some (.int .i64 b) ∧ w'.cell? ⟨gb, 4, none⟩ = some (.int .i64 n) ∧ w'.cell? ⟨gb, 5, none⟩ = some (.bool l)) := by
            intro w' hb
            have hg := (hb.block gb hgb).trans HX.out
            refine ⟨?_, ?_, ?_, ?_, ?_, ?_⟩
            all_goals (simp only [World.cell?, hg]; rfl)
          obtain ⟨g0, g1, g2, g3, g4, g5⟩ := GC.out wc (Below.refl _ _)
          have hbw : Below wr.heap.size wr wc := hbc.out
          have HBW : Hid _ := hbw
          clear hbw
          by_cases her : er = 0
          · subst her
            obtain ⟨p0, p1, hck, q0, q1⟩ := dec_ok (show (decOut m.text s.pc).2.2 = 0 by rw [HDO.out])
            rw [HDO.out] at hck q0 q1
            simp only [Ins.chk] at hck q0 q1
            obtain ⟨-, -, -, ⟨a0, a1⟩, ⟨b0, b1⟩, n0, n1⟩ := chk_bd hck
            have AH : Hid (∀ w', Below wc.heap.size wc w' → Calls Tryd.prog 60 #[.pointer (some ⟨gm, 0, none⟩), .agg #[.int .i64 k, .int .i64 d, .int .i64 a, .int .i64 b, .int .i64 n, .bool l]] w' fun e w2 => e = .returned (.int .i64 (endN s.rs s.mem.length m.tables k a b n)) ∧ Below w'.heap.size w' w2) := by
              intro w' hb
              have u := hM.out.up (HBW.out.trans (hb.mono HBW.out.size))
              exact ahead_any gm s.rs _ s.mem.length s.mem.length _ _ _ m.tables vs s.pc k d a b n l w' u.mach a0 a1 b0 b1 (HTV.out.stays (Nat.le_refl _) u.base) HTL.out (fun j u' t h1 h2 => (HTE.out j u' t h1 h2).stays (Nat.le_refl _) u.base) hok.out.regs n0 n1 (by have := hme.out; unfold maxLen; omega)
            have DOX : Hid (endN s.rs s.mem.length m.tables k a b n = 0 → ∀ w', Below wc.heap.size wc w' → Calls Tryd.prog 61 #[.pointer (some ⟨gm, 0, none⟩), .agg #[.int .i64 k, .int .i64 d, .int .i64 a, .int .i64 b, .int .i64 n, .bool l], .int .i64 sz] w' fun e w2 => e = .returned (.tuple #[]) ∧ ∃ vI' vO', MSt W0 w2 W0.heap.size gm gd (.slice aB vs.length cB) vI' vO' (doS m.tables s k d a b n sz)) := by
              intro hen w' hb
              exact do_any W0 w' W0.heap.size gm gd _ _ _ s m.tables vs k d a b n sz l (hM.out.up (HBW.out.trans (hb.mono HBW.out.size))) hok.out hck p0 (by omega) q0 q1 hen (by have := hto.out; omega) HTV.out HTL.out HTE.out
            have NX : Hid (McOk (doS m.tables s k d a b n sz) ∧ (doS m.tables s k d a b n sz).told.length ≤ j + 1 ∧ (doS m.tables s k d a b n sz).mem.length ≤ 64) := ⟨mcok_step hok.out hck p0 (by omega) q0 q1, Nat.le_trans told_step (Nat.succ_le_succ hto.out), by rw [mem_step]; exact hme.out⟩
            have HS2 : Hid (runN m.text m.tables F 0 s0 = if endN s.rs s.mem.length m.tables k a b n ≠ 0 then (s, endN s.rs s.mem.length m.tables k a b n, (j : Int)) else runN m.text m.tables (F - (j + 1)) ((j : Int) + 1) (doS m.tables s k d a b n sz)) := by
              have := HST.out
              rwa [if_neg (by simp)] at this
            clear HST hck p0 p1 q0 q1 a0 a1 b0 b1 n0 n1
            generalize endN s.rs s.mem.length m.tables k a b n = en at *
            by_cases hen : en = 0
            · subst hen
              have HS3 : Hid (runN m.text m.tables F 0 s0 = runN m.text m.tables (F - (j + 1)) ((j : Int) + 1) (doS m.tables s k d a b n sz)) := by
                have := HS2.out
                rwa [if_neg (by simp)] at this
              clear HS2 EN FR FIN
              go_wp2_with (first
                | (go_at_call 60; refine (AH.out _ (Below.refl _ _)).mono ?_; rintro e w5 ⟨rfl, hb5⟩; obtain ⟨t0, t1, t2, t3, t4, t5⟩ := GC.out w5 hb5; have hg5 : gb < w5.heap.size := Nat.lt_of_lt_of_le hgb hb5.size)
                | (go_at_call 61; refine (DOX.out (by simp) _ hb5).mono ?_; rintro e w6 ⟨rfl, vI', vO', hM6⟩))
              go_roundw
              case rel => exact ⟨j + 1, _, vI', vO', by omega, by go_num, hM6, NX.out.1, NX.out.2.1, NX.out.2.2, by rw [HS3.out]; rfl⟩
              case measure => simp [intOf]; omega
            · have hz : (en != 0) = true := by simp [hen]
              have HS3 : Hid (runN m.text m.tables F 0 s0 = (s, en, (j : Int))) := by
                have := HS2.out
                rwa [if_pos hen] at this
              have HEN : Hid _ := hen
              clear hen HS2 DOX NX
              go_wp2_with (first
                | (go_at_call 60; refine (AH.out _ (Below.refl _ _)).mono ?_; rintro e w5 ⟨rfl, hb5⟩; have hbx : Below wr.heap.size wr w5 := HBW.out.trans (hb5.mono HBW.out.size))
                | (go_at_call 59; refine (EN.out _ _ _ hbx).mono ?_; rintro e w9 ⟨rfl, hb9⟩; have hby : Below wr.heap.size wr w9 := hbx.trans (hb9.mono hbx.size); obtain ⟨r0, r1, r2, r3, rf, rz, RH⟩ := FR.out w9 hby))
              obtain ⟨c0, c1, c2, c3⟩ := chain4 RH.out (.slice aO lO cO) (.int .i64 en) (.int .i64 j) (.int .i64 s.pc)
              refine bodyPost_ret (v := .tuple #[.agg #[.slice aO lO cO, .int .i64 en, .int .i64 j, .int .i64 s.pc], .int .i64 0]) (by simp [results, Tryd.results26, go_sem, c0, c1, c2, c3]) rfl ?_
              exact FIN.out w9 _ _ hby HS3.out
          · have hz : (er != 0) = true := by simp [her]
            have HS3 : Hid (runN m.text m.tables F 0 s0 = (s, 2, (j : Int))) := by
              have := HST.out
              rwa [if_pos her] at this
            have HEN : Hid _ := her
            clear her HST
            go_wp2_with (first
                | (go_at_call 59; refine (EN.out _ _ _ HBW.out).mono ?_; rintro e w9 ⟨rfl, hb9⟩; have hby : Below wr.heap.size wr w9 := HBW.out.trans (hb9.mono HBW.out.size); obtain ⟨r0, r1, r2, r3, rf, rz, RH⟩ := FR.out w9 hby))
            obtain ⟨c0, c1, c2, c3⟩ := chain4 RH.out (.slice aO lO cO) (.int .i64 2) (.int .i64 j) (.int .i64 s.pc)
            refine bodyPost_ret (v := .tuple #[.agg #[.slice aO lO cO, .int .i64 2, .int .i64 j, .int .i64 s.pc], .int .i64 0]) (by simp [results, Tryd.results26, go_sem, c0, c1, c2, c3]) rfl ?_
            exact FIN.out w9 _ _ hby HS3.out
      · have hjF : j = F := by omega
        subst hjF
        have HS3 : Hid (runN m.text m.tables j 0 s0 = (s, 3, (j : Int))) := by
          have := hrn.out
          rw [Nat.sub_self] at this
          exact this.symm
        clear hrn
        go_wp2_with (first
                | (go_at_call 59; refine (EN.out _ _ _ (Below.refl _ _)).mono ?_; rintro e w9 ⟨rfl, hby⟩; obtain ⟨r0, r1, r2, r3, rf, rz, RH⟩ := FR.out w9 hby))
        obtain ⟨c0, c1, c2, c3⟩ := chain4 RH.out (.slice aO lO cO) (.int .i64 3) (.int .i64 j) (.int .i64 s.pc)
        refine bodyPost_ret (v := .tuple #[.agg #[.slice aO lO cO, .int .i64 3, .int .i64 j, .int .i64 s.pc], .int .i64 0]) (by simp [results, Tryd.results26, go_sem, c0, c1, c2, c3]) rfl ?_
        exact FIN.out w9 _ _ hby HS3.out
  · have HO : Hid (runOut m ins fuel = ⟨[], 0, 0, 0⟩) := by show _ = _; unfold runOut; rw [if_neg hc]
    have hz : (runChk m ins fuel != 0) = true := by simp [hc]
    have HC : Hid _ := hc
    have HW0 : Hid _ := hW0
    have CR : Hid (∀ w9, Below W0.heap.size W0 w9 → w9.heap[w.heap.size + 1]? = some (.cells #[.slice none 0 0, .int .i64 0, .int .i64 0, .int .i64 0] 52)) := fun w9 hb => (hb.block _ (by omega)).trans HG1.out
    rw [HO.out]
    generalize runChk m ins fuel = z at *
    clear hI hok ht hin hvB hvl hvE lT lF lD lL lB lI hW0 hc
    go_enter Tryd.func26, Tryd.ntmps26
    go_upto_region 1 with fail
    rw [HW0.out]
    clear HW0
    have i0 : W0.cell? ⟨w.heap.size, 0, none⟩ = some (.slice aT m.text.length cT) := by simp only [World.cell?, HG0.out]; rfl
    have i1 : W0.cell? ⟨w.heap.size, 1, none⟩ = some (.slice aF m.funcs.length cF) := by simp only [World.cell?, HG0.out]; rfl
    have i2 : W0.cell? ⟨w.heap.size, 2, none⟩ = some (.slice aB vs.length cB) := by simp only [World.cell?, HG0.out]; rfl
    have i3 : W0.cell? ⟨w.heap.size, 3, none⟩ = some (.slice aD m.data.length cD) := by simp only [World.cell?, HG0.out]; rfl
    have i4 : W0.cell? ⟨w.heap.size, 4, none⟩ = some (.slice aL m.lines.length cL) := by simp only [World.cell?, HG0.out]; rfl
    have i5 : W0.cell? ⟨w.heap.size, 5, none⟩ = some (.int .i64 m.entry) := by simp only [World.cell?, HG0.out]; rfl
    go_wp2_with (first
      | (go_at_call 56; refine CK.out.mono ?_; rintro e w1 ⟨rfl, hb1⟩; have zb := CR.out w1 hb1; have zc : ∀ o, w1.cell? ⟨w.heap.size + 1, o, none⟩ = (#[.slice none 0 0, .int .i64 0, .int .i64 0, .int .i64 0] : Array Value)[o]? := (fun o => by simp only [World.cell?, zb]; rfl); have zg : ∀ o, w1.frozen? ⟨w.heap.size + 1, o, none⟩ = false := (fun o => by simp [World.frozen?, zb]); have zn : w.heap.size + 1 < w1.heap.size := (Array.getElem?_eq_some_iff.1 zb).1; have zc0 := zc 0; have zc1 := zc 1; have zc2 := zc 2; have zc3 := zc 3; simp at zc0 zc1 zc2 zc3; have ZBB : Hid _ := zb; clear zc zb))
    obtain ⟨c0, c1, c2, c3⟩ := chain4 ZBB.out (.slice none 0 0) (.int .i64 0) (.int .i64 0) (.int .i64 0)
    refine bodyPost_ret (v := .tuple #[.agg #[.slice none 0 0, .int .i64 0, .int .i64 0, .int .i64 0], .int .i64 z]) (by simp [results, Tryd.results26, go_sem, c0, c1, c2, c3]) rfl ?_
    have C := ((((Chg.refl ZBB.out).set 0 (.slice none 0 0)).set 1 (.int .i64 0)).set 2 (.int .i64 0)).set 3 (.int .i64 0)
    exact ⟨.slice none 0 0, rfl, World.ownsRow_nil _ _ _ _, HB0.out.trans ((hb1.mono (by omega)).trans (C.below (by omega)))⟩
theorem run_any (vT vF vB vD vL vI : Value) (m : Img) (ins : List Int) (fuel : Int) (w : World) (hI : ImgAt w vT vF vB vD vL m) (hok : m.ok) (ht : Tabs w) (hin : ListAt w icell 1 vI ins) :
    Calls Tryd.prog 26 #[.agg #[vT, vF, vB, vD, vL, .int .i64 m.entry], vI, .int .i64 fuel] w fun e w' => ∃ vO, e = .returned (.tuple #[.agg #[vO, .int .i64 (runOut m ins fuel).en, .int .i64 (runOut m ins fuel).st, .int .i64 (runOut m ins fuel).pc], .int .i64 (runChk m ins fuel)]) ∧ ListAt w' icell 1 vO (runOut m ins fuel).told ∧ Below w.heap.size w w' := by
  refine (run_own vT vF vB vD vL vI m ins fuel w hI hok ht hin).mono ?_
  rintro e w' ⟨vO, h1, h2, h3⟩
  exact ⟨vO, h1, row_list icell_len h2, h3⟩
end Go.Proofs.YtechpdfcgimkkaaDoor
