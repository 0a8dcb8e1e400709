/-
  The document's answer on Nexts: boltholeref.NextsOf.
-/
import Derived.Test.YtebjfgbjmhhccaaWalkNxC
import Derived.Deep.CutBlock
import Derived.BigQuiet
import Derived.Deep.QuietTactic
namespace Go.Proofs.Ytebjfgbjmhhccaa
open Go.RowKit Go.Joins
theorem no_in (n a b : Int) (w : World) : Calls Try.prog 18 #[.int .i64 n, .int .i64 a, .int .i64 b] w fun e w' => e = .returned (.bool (decide (a ≤ n) && decide (n ≤ b))) ∧ w' = w := by
  by_cases h : a ≤ n
  · go_enter Try.func18, Try.ntmps18
    go_wp2
    go_ret
    exact ⟨by simp [h], rfl⟩
  · go_enter Try.func18, Try.ntmps18
    go_wp2
    go_ret
    exact ⟨by simp; omega, rfl⟩
theorem below_drewN' {B : Nat} {W w1 : World} (h : Below B W w1) (n : Nat) : Below B W (w1.drewN n) := ⟨h.os, h.tape, h.output, h.size, h.block⟩
theorem orow_low {w : World} {B B2 sz n : Nat} {E : TypeId} {v : Value} {xs : List Value} (h : w.ownsRow B E sz v n xs) (hB : B2 ≤ B) : w.ownsRow B2 E sz v n xs := ⟨h.1, h.2.imp id fun ⟨g, cap, cur, e, q1, q2⟩ => ⟨g, cap, cur, e, by omega, q2⟩⟩
theorem lit_ints (w : World) (xs : List Int) (cs : Array Value) (T : TypeId) (h : cs = (flat icell xs).toArray) (n m cap : Nat) (hn : n = w.heap.size) (hm : m = xs.length) (hc : m ≤ cap) (hc2 : cap ≤ maxLen) : ListAt (w.alloc (.cells cs T)) icell 1 (.slice (some ⟨n, 0, none⟩) m cap) xs := by
  subst h hn hm
  refine Or.inr ⟨w.heap.size, 0, cap, rfl, hc, hc2, by simp, fun j x hj o u hu => ?_⟩
  have ho : o = 0 := by
    rcases o with _ | o
    · rfl
    · simp [icell] at hu
  subst ho
  rw [World.cell?_alloc_new, List.getElem?_toArray, Nat.zero_add, flat_at (sz := 1) (fun _ => rfl) xs j x hj 0 (by decide)]
  exact hu
set_option maxRecDepth 100000 in
set_option maxHeartbeats 4000000 in
theorem nextsOf_any (f : Fl) (vB vT vF : Value) (n : Int) (w : World) (hF : FlAt w vB vT vF f) (hs : f.small) (_n1 : -9223372036854775808 ≤ n) (_n2 : n ≤ 9223372036854775807) :
    Calls Try.prog 7 #[.agg #[vB, vT, vF], .int .i64 n] w fun e w' => ∃ v, e = .returned (.tuple #[v, .int .i64 (nxE f n)]) ∧ w'.ownsRow w.heap.size 3 1 v (nxL f n).length (flat icell (nxL f n)) ∧ Below w.heap.size w w' := by
  have HF : Hid _ := hF
  have HS : Hid _ := hs
  obtain ⟨us, hBx, hBl, hBe⟩ := hF.blocks
  obtain ⟨aB, cB, rfl, hB63⟩ := hBx.form
  unfold maxLen at hB63
  obtain ⟨vs, hTx, hTl, hTe⟩ := hF.tables
  obtain ⟨aT, cT, rfl, hT63⟩ := hTx.form
  unfold maxLen at hT63
  obtain ⟨aF, cF, rfl, -⟩ := hF.firsts.form
  have HBX : Hid (ListAt w BkV.cells 14 (.slice aB us.length cB) us) := hBx
  have HBL : Hid (us.length = f.blocks.length) := hBl
  have HBE : Hid (∀ (j : Nat) (u : BkV) (b : Bk), us[j]? = some u → f.blocks[j]? = some b → BkAt w u b) := hBe
  have HTX : Hid (ListAt w vcell 1 (.slice aT vs.length cT) vs) := hTx
  have HTE : Hid (∀ (j : Nat) (u : Value) (t : List Int), vs[j]? = some u → f.tables[j]? = some t → ListAt w icell 1 u t) := hTe
  have HTL : Hid (vs.length = f.tables.length) := hTl
  clear hF hs hBx hBl hBe hTx hTl hTe
  by_cases hn : n < 0 ∨ us.length ≤ n
  · have h1 : nxE f n = 6 := by unfold nxE; rw [if_pos (by rw [← HBL.out]; exact hn)]
    have h2 : nxL f n = [] := by unfold nxL nextsN; rw [if_pos (by rw [← HBL.out]; exact hn)]; rfl
    rw [h1, h2]
    have hd : (decide (0 ≤ n) && decide (n ≤ (us.length : Int) - 1)) = false := by simp; omega
    have NI : Hid (∀ W, Calls Try.prog 18 #[.int .i64 n, .int .i64 0, .int .i64 ((us.length : Int) - 1)] W fun e w' => e = .returned (.bool false) ∧ w' = W) := fun W => by have := no_in n 0 ((us.length : Int) - 1) W; rwa [hd] at this
    clear hn h1 h2 hd
    go_enter Try.func7, Try.ntmps7
    go_wp2_with fail
    refine Calls.mono (NI.out _) ?_
    rintro e w1 ⟨rfl, hw⟩
    rw [hw]
    clear hw w1
    go_wp2_with fail
    go_ret2
    exact ⟨_, rfl, World.ownsRow_nil _ _ _ _, by go_grown⟩
  · obtain ⟨N, rfl⟩ := Int.eq_ofNat_of_zero_le (show 0 ≤ n by omega)
    have hN : N < us.length := by omega
    obtain ⟨u, hu⟩ : ∃ u, us[N]? = some u := ⟨_, List.getElem?_eq_getElem hN⟩
    obtain ⟨b, hb⟩ : ∃ b, f.blocks[N]? = some b := ⟨_, List.getElem?_eq_getElem (by rw [← HBL.out]; exact hN)⟩
    have h1 : nxE f N = 0 := by unfold nxE; rw [if_neg (by rw [← HBL.out]; exact hn)]
    have h2 : nxL f N = risen (waysN f b) := by unfold nxL nextsN; rw [if_neg (by rw [← HBL.out]; exact hn), Int.toNat_natCast, hb]; rfl
    rw [h1, h2]
    have hbk := HBE.out N u b hu hb
    obtain ⟨bB, oB, capB, hv, d1, d2, d3, d4⟩ := HBX.out.resolve_left (by rintro ⟨_, _, _, h⟩; rw [h] at hu; simp at hu)
    cases hv
    have q := d4 N u hu
    have hwl := ways_len f b HS.out
    have hd : (decide ((0 : Int) ≤ (N : Int)) && decide ((N : Int) ≤ (us.length : Int) - 1)) = true := by simp; omega
    have NI : Hid (∀ W, Calls Try.prog 18 #[.int .i64 N, .int .i64 0, .int .i64 ((us.length : Int) - 1)] W fun e w' => e = .returned (.bool true) ∧ w' = W) := fun W => by have := no_in N 0 ((us.length : Int) - 1) W; rwa [hd] at this
    obtain ⟨fn, start, vC, vA, ⟨lk, ld, la, lb, ln, ll⟩, ends, dst, els, vL⟩ := u
    obtain ⟨hbf, hbs, hbl, hbe, hbd, hbL, hC, hA, hLn⟩ := hbk
    simp only at hbf hbs hbl hbe hbd hbL hC hA hLn
    subst hbe hbd hbL
    have q0 := q 0 _ rfl
    have q1 := q 1 _ rfl
    have q2 := q 2 _ rfl
    have q3 := q 3 _ rfl
    have q4 := q 4 _ rfl
    have q5 := q 5 _ rfl
    have q6 := q 6 _ rfl
    have q7 := q 7 _ rfl
    have q8 := q 8 _ rfl
    have q9 := q 9 _ rfl
    have q10 := q 10 _ rfl
    have q11 := q 11 _ rfl
    have q12 := q 12 _ rfl
    have q13 := q 13 _ rfl
    rw [Nat.add_zero] at q0
    have hn2 : (N : Int) < (us.length : Int) := by omega
    obtain ⟨aC, cC, rfl, hC63⟩ := hC.form
    unfold maxLen at hC63
    have HC : Hid (ListAt w FIns.cells 6 (.slice aC b.code.length cC) b.code) := hC
    obtain ⟨aA, cA, rfl, -⟩ := hA.form
    obtain ⟨aL, cL, rfl, -⟩ := hLn.form
    clear q d4 hu hb h1 h2 hn hC hA hLn hd hbl hbf hbs
    go_enter Try.func7, Try.ntmps7
    go_wp2_with fail
    refine Calls.mono (NI.out _) ?_
    rintro e w1 ⟨rfl, hw⟩
    rw [hw]
    clear hw w1 NI
    go_upto_block 0 with fail
    go_cut [7] (fun v wc => ∃ a c, v = .slice a (waysN f b).length c ∧ Hid (ListAt wc icell 1 (.slice a (waysN f b).length c) (waysN f b)) ∧ Hid (Below w.heap.size w wc))
    case first =>
      have hends : (b.ends = 2 ∨ b.ends = 3) ∨ b.ends = 4 ∨ (b.ends ≠ 2 ∧ b.ends ≠ 3 ∧ b.ends ≠ 4) := by omega
      rcases hends with h | h | ⟨h2, h3, h4⟩
      · have HW : Hid (waysN f b = [b.dst]) := by show _ = _; unfold waysN; rw [if_pos h]
        have hd : ((b.ends == 2) = true) ∨ ((b.ends == 2) = false ∧ (b.ends == 3) = true) := by rcases h with h | h <;> simp [h]
        clear h
        rcases hd with hd | ⟨hd, hd2⟩
        all_goals
          go_wp2
          go_meet
          rw [HW.out]
          exact ⟨_, _, rfl, lit_ints _ [b.dst] _ _ rfl _ 1 1 (by simp) rfl (Nat.le_refl _) (by unfold maxLen; omega), by show Below _ _ _; go_grown⟩
      · have HW : Hid (waysN f b = [b.dst, b.els]) := by show _ = _; unfold waysN; rw [if_neg (by omega), if_pos h]
        have h2 : (b.ends == 2) = false := by simp; omega
        have h3 : (b.ends == 3) = false := by simp; omega
        have h4 : (b.ends == 4) = true := by simp [h]
        clear h
        go_wp2
        go_meet
        rw [HW.out]
        exact ⟨_, _, rfl, lit_ints _ [b.dst, b.els] _ _ rfl _ 2 2 (by simp) rfl (Nat.le_refl _) (by unfold maxLen; omega), by show Below _ _ _; go_grown⟩
      · have e2 : (b.ends == 2) = false := by simp [h2]
        have e3 : (b.ends == 3) = false := by simp [h3]
        have e4 : (b.ends == 4) = false := by simp [h4]
        have hw0 : waysN f b = tblN f b.code.getLast? := by unfold waysN; rw [if_neg (by omega), if_neg h4]
        clear h2 h3 h4
        by_cases hc0 : b.code.length = 0
        · have HW : Hid (waysN f b = []) := by show _ = _; rw [hw0, List.length_eq_zero_iff.1 hc0]; rfl
          have hc1 : (b.code.length : Int) ≤ 0 := by omega
          clear hw0 hc0
          go_wp2
          go_meet
          rw [HW.out]
          exact ⟨none, 0, rfl, Or.inl ⟨_, _, rfl, rfl⟩, by show Below _ _ _; go_grown⟩
        · obtain ⟨m, hm⟩ : ∃ m, b.code.length = m + 1 := ⟨b.code.length - 1, by omega⟩
          obtain ⟨i, hi⟩ : ∃ i, b.code[m]? = some i := ⟨_, List.getElem?_eq_getElem (by omega)⟩
          have hgl : b.code.getLast? = some i := by rw [List.getLast?_eq_getElem?, hm]; exact hi
          rw [hgl] at hw0
          obtain ⟨bC, oC, cap, hv, c1, c2, c3, c4⟩ := HC.out.resolve_left (by rintro ⟨_, _, _, h⟩; rw [h] at hm; simp at hm)
          cases hv
          have q := c4 m i hi
          rw [show tblN f (some i) = if i.k = 24 ∧ 0 ≤ i.n ∧ i.n < f.tables.length then f.tables.getD i.n.toNat [] else [] from rfl] at hw0
          obtain ⟨ik, idd, ia, ib, inn, il⟩ := i
          have p0 := q 0 _ rfl
          have p1 := q 1 _ rfl
          have p2 := q 2 _ rfl
          have p3 := q 3 _ rfl
          have p4 := q 4 _ rfl
          have p5 := q 5 _ rfl
          rw [Nat.add_zero] at p0
          simp only at hw0
          have hml : (m : Int) < (b.code.length : Int) := by omega
          have hm63 : (m : Int) ≤ 9223372036854775806 := by omega
          have hmi : (b.code.length : Int) - 1 = (m : Int) := by omega
          clear q c4 hi hgl
          have NI : Hid (∀ W, Calls Try.prog 18 #[.int .i64 inn, .int .i64 0, .int .i64 ((vs.length : Int) - 1)] W fun e w' => e = .returned (.bool (decide (0 ≤ inn) && decide (inn ≤ (vs.length : Int) - 1))) ∧ w' = W) := fun W => no_in inn 0 _ W
          by_cases hT : ik = 24 ∧ 0 ≤ inn ∧ inn < f.tables.length
          · obtain ⟨rfl, n0, n1⟩ := hT
            rw [if_pos ⟨rfl, n0, n1⟩] at hw0
            obtain ⟨M, rfl⟩ := Int.eq_ofNat_of_zero_le n0
            rw [Int.toNat_natCast] at hw0
            have hM : M < f.tables.length := by omega
            obtain ⟨t, ht⟩ : ∃ t, f.tables[M]? = some t := ⟨_, List.getElem?_eq_getElem hM⟩
            obtain ⟨vt, hvt⟩ : ∃ vt, vs[M]? = some vt := ⟨_, List.getElem?_eq_getElem (by have := HTL.out; omega)⟩
            have hgd : f.tables.getD M [] = t := by rw [List.getD_eq_getElem?_getD, ht]; rfl
            rw [hgd] at hw0
            have hlt := HTE.out M vt t hvt ht
            obtain ⟨bT, oT, capT, hv, g1, g2, g3, g4⟩ := HTX.out.resolve_left (by rintro ⟨_, _, _, h⟩; rw [h] at hvt; simp at hvt)
            cases hv
            have y0 := g4 M vt hvt 0 _ rfl
            rw [Nat.mul_one, Nat.add_zero] at y0
            obtain ⟨at', ct, rfl, hct⟩ := hlt.form
            have hMl : (M : Int) < (vs.length : Int) := by have := HTL.out; omega
            have hMl2 : (M : Int) ≤ (vs.length : Int) - 1 := by omega
            have HLT : Hid (ListAt w icell 1 (.slice at' t.length ct) t) := hlt
            have HW : Hid (waysN f b = t) := hw0
            have y3 : ∀ o1 o2 o3, (((w.alloc o1).alloc o2).alloc o3).cell? ⟨bT, oT + M, none⟩ = some (.slice at' t.length ct) := fun o1 o2 o3 => ((((Below.refl w.heap.size w).alloc (Nat.le_refl _) o1).alloc (by simp) o2).alloc (by simp <;> omega) o3).cell (p := ⟨bT, _, none⟩) g3 |>.trans y0
            clear hw0 hgd hvt ht g4 hlt
            go_wp2_with (first | (go_at_call 18; refine (NI.out _).mono ?_; rintro e w' ⟨rfl, rfl⟩))
            go_meet
            rw [HW.out]
            exact ⟨at', ct, rfl, ListAt.stays HLT.out (Nat.le_refl _) (by go_grown), by show Below _ _ _; go_grown⟩
          · rw [if_neg hT] at hw0
            have HW : Hid (waysN f b = []) := hw0
            have hsp : (ik == 24) = false ∨ ((ik == 24) = true ∧ (decide (0 ≤ inn) && decide (inn ≤ (vs.length : Int) - 1)) = false) := by
              by_cases h1 : ik = 24
              · refine Or.inr ⟨by simp [h1], ?_⟩
                have := HTL.out
                simp
                omega
              · exact Or.inl (by simp [h1])
            clear hw0 hT
            have NJ : Hid (∀ W, (decide (0 ≤ inn) && decide (inn ≤ (vs.length : Int) - 1)) = false → Calls Try.prog 18 #[.int .i64 inn, .int .i64 0, .int .i64 ((vs.length : Int) - 1)] W fun e w' => e = .returned (.bool false) ∧ w' = W) := fun W h => by have := NI.out W; rwa [h] at this
            clear NI
            rcases hsp with h | ⟨h, h2⟩
            · go_wp2_with fail
              go_meet
              rw [HW.out]
              exact ⟨none, 0, rfl, Or.inl ⟨_, _, rfl, rfl⟩, by show Below _ _ _; go_grown⟩
            · have HH : Hid _ := h2
              clear h2
              go_wp2_with (first | (go_at_call 18; refine (NJ.out _ HH.out).mono ?_; rintro e w' ⟨rfl, rfl⟩))
              go_meet
              rw [HW.out]
              exact ⟨none, 0, rfl, Or.inl ⟨_, _, rfl, rfl⟩, by show Below _ _ _; go_grown⟩
    case rest =>
      obtain ⟨a, c, rfl, hLL, hBW⟩ := hcut
      generalize hgen : waysN f b = L at *
      obtain ⟨hup, hmem⟩ := risen_up L
      have hsl := up_len hup hmem
      have LN : Hid (∀ k, k ≤ (risen L).length → least (beyond ((risen L).take k)) L = (risen L)[k]?) := fun k hk => least_next hup hmem hk
      clear hup hmem HC HTX HTE HTL HBE HBX HF q0 q1 q2 q3 q4 q5 q6 q7 q8 q9 q10 q11 q12 q13 HBL HS
      generalize hgs : risen L = S at *
      have HGS : Hid (risen (waysN f b) = S) := by show _ = _; rw [hgen, hgs]
      clear hgen hgs
      have hzw : w.heap.size ≤ wc.heap.size := hBW.out.size
      go_wp2_with fail
      go_loopw [9] (fun u wr => ∃ k : Nat, k ≤ S.length ∧ Hid (wr.ownsRow wc.heap.size 3 1 u k (flat icell (S.take k))) ∧ Hid (∃ a c, u = .slice a k c) ∧ Hid (Below wc.heap.size wc wr)) (fun u _ => match u with | .slice _ n _ => L.length - n | _ => 0)
      case atStart => exact ⟨0, Nat.zero_le _, World.ownsRow_nil _ _ _ _, ⟨_, _, rfl⟩, Below.refl _ _⟩
      case round =>
        obtain ⟨k, hk, ho, hv, hb⟩ := hrel
        obtain ⟨aO, cO, hvO⟩ := hv.out
        subst hvO
        rcases k with _ | k'
        · by_cases hkl : 0 < L.length
          · have hkk : (0 : Int) < (L.length : Int) := by omega
            have HLK := LN.out 0 hk
            have HLKH : Hid _ := HLK
            obtain ⟨p, hp⟩ : ∃ p, beyond (S.take 0) = p := ⟨_, rfl⟩
            have HP : Hid _ := hp
            rw [hp] at HLK
            have HLP : Hid (least p L = S[0]?) := HLK
            have hL63 : (L.length : Int) ≤ 9223372036854775807 := by have := hwl; omega
            clear HLKH HLK hp
            go_wp2_with fail
            go_loopw [10, 11] (fun q i wq => ∃ j n : Nat, j ≤ L.length ∧ i = .int .i64 (j : Int) ∧ (∃ z : Int, q = .int .i64 z ∧ Hid ((z = -1 ∧ least p (L.take j) = none) ∨ ∃ (Q : Nat) (v : Int), z = (Q : Int) ∧ Q < j ∧ L[Q]? = some v ∧ least p (L.take j) = some v)) ∧ wq = wr.drewN n) (fun _ i _ => (L.length - intOf i).toNat)
            case atStart => exact ⟨0, 0, Nat.zero_le _, rfl, ⟨-1, rfl, Or.inl ⟨rfl, rfl⟩⟩, rfl⟩
            case round =>
              obtain ⟨j, n, j1, rfl, ⟨z, rfl, hz⟩, rfl⟩ := hrel
              by_cases hj : j < L.length
              · obtain ⟨y, hy⟩ : ∃ y, L[j]? = some y := ⟨_, List.getElem?_eq_getElem hj⟩
                have hsn : least p (L.take (j + 1)) = if p y && (match least p (L.take j) with | none => true | some x => decide (y < x)) then some y else least p (L.take j) := by
                  rw [List.take_add_one, hy]; exact least_snoc p _ y
                obtain ⟨bL, oL, capL, hvL, l1, l2, l3, l4⟩ := hLL.out.resolve_left (by rintro ⟨_, _, _, h⟩; rw [h] at hj; simp at hj)
                cases hvL
                have xx : ∀ (i : Nat) (v : Int), L[i]? = some v → wr.cell? ⟨bL, oL + i, none⟩ = some (.int .i64 v) := fun i v hv => by
                  have := l4 i v hv 0 _ rfl
                  rw [Nat.mul_one, Nat.add_zero] at this
                  exact (hb.out.cell (p := ⟨bL, _, none⟩) l3).trans this
                have x0 := xx j y hy
                have hjj : (j : Int) < (L.length : Int) := by omega
                have HY : Hid _ := hy
                have HSN : Hid _ := hsn
                have XX : Hid _ := xx
                clear hy hsn xx l4
                have hpy : p y = true := by rw [← HP.out, List.take_zero]; rfl
                rcases hz.out with ⟨rfl, hl⟩ | ⟨Q, v, rfl, hQ, hLv, hl⟩
                · have HN : Hid (least p (L.take (j + 1)) = some y) := by show _ = _; rw [HSN.out, hpy, hl]; rfl
                  clear hz hpy hl HSN
                  go_wp2_with fail
                  go_quiet (fail)
                  go_wp2
                  go_roundw
                  case rel => exact ⟨j + 1, _, by omega, by go_num, ⟨j, rfl, Or.inr ⟨j, y, rfl, by omega, HY.out, HN.out⟩⟩, rfl⟩
                  case measure => simp [intOf]; omega
                · have x1 := XX.out Q v hLv
                  have hQ1 : decide ((Q : Int) < 0) = false := by simp
                  have hQ2 : (Q : Int) < (L.length : Int) := by omega
                  have HLV : Hid _ := hLv
                  by_cases hyv : y < v
                  · have HN : Hid (least p (L.take (j + 1)) = some y) := by show _ = _; rw [HSN.out, hpy, hl]; simp [hyv]
                    clear hz hpy hl HSN hLv
                    have hyv2 : decide (y < v) = true := by simp [hyv]
                    go_wp2_with fail
                    go_quiet (fail)
                    go_wp2
                    go_roundw
                    case rel => exact ⟨j + 1, _, by omega, by go_num, ⟨j, rfl, Or.inr ⟨j, y, rfl, by omega, HY.out, HN.out⟩⟩, rfl⟩
                    case measure => simp [intOf]; omega
                  · have HN : Hid (least p (L.take (j + 1)) = some v) := by show _ = _; rw [HSN.out, hpy, hl]; simp [hyv]
                    clear hz hpy hl HSN hLv
                    have hyv2 : decide (y < v) = false := by simp [hyv]
                    go_wp2_with fail
                    go_quiet (fail)
                    go_wp2
                    go_roundw
                    case rel => exact ⟨j + 1, _, by omega, by go_num, ⟨Q, rfl, Or.inr ⟨Q, v, rfl, by omega, HLV.out, HN.out⟩⟩, rfl⟩
                    case measure => simp [intOf]; omega
              · obtain rfl : j = L.length := by omega
                have hz2 := hz.out
                rw [List.take_of_length_le (Nat.le_refl _), HLP.out] at hz2
                clear hz
                rcases hz2 with ⟨rfl, hl⟩ | ⟨Q, v, rfl, hQ, hLv, hl⟩
                · have hKS : 0 = S.length := by have := List.getElem?_eq_none_iff.1 hl; omega
                  have HKS : Hid _ := hKS
                  clear hl hKS
                  go_wp2_with fail
                  go_ret2
                  refine ⟨_, rfl, ?_, hBW.out.trans ((below_drewN' (hb.out.mono hzw) _))⟩
                  have h0 := ho.out
                  rw [List.take_of_length_le (by have := HKS.out; omega)] at h0
                  have hlow := orow_low h0 hzw
                  rw [HGS.out, ← HKS.out]
                  exact hlow
                · obtain ⟨bL, oL, capL, hvL, l1, l2, l3, l4⟩ := hLL.out.resolve_left (by rintro ⟨_, _, _, h⟩; rw [h] at hQ; simp at hQ)
                  cases hvL
                  have x1 : wr.cell? ⟨bL, oL + Q, none⟩ = some (.int .i64 v) := by
                    have := l4 Q v hLv 0 _ rfl
                    rw [Nat.mul_one, Nat.add_zero] at this
                    exact (hb.out.cell (p := ⟨bL, _, none⟩) l3).trans this
                  have hlb : bL < wr.heap.size := Nat.lt_of_lt_of_le l3 hb.out.size
                  have hKS : 0 < S.length := (List.getElem?_eq_some_iff.1 hl).1
                  have HL2 : Hid _ := hl
                  have hQ1 : decide ((Q : Int) < 0) = false := by simp
                  have hQ2 : (Q : Int) < (L.length : Int) := by omega
                  have hcw : wc.heap.size ≤ wr.heap.size := hb.out.size
                  have hbu : Below wr.heap.size wr ((wr.alloc (.cells #[.int .i64 v] 3)).drewN n) := below_drewN' ((Below.refl _ _).alloc (Nat.le_refl _) _) n
                  obtain ⟨v7, W7, hr7, ho7, gr7⟩ := orow_apps 3 24 1 8 _ Try.underlying24 nInt rfl (by decide) (row_up ho.out hbu) (Nat.le_trans hcw hbu.size) wr.heap.size 0 1 1 [.int .i64 v] rfl (fun j u hj => by
                    rw [Nat.zero_add]
                    show (wr.alloc (.cells #[.int .i64 v] 3)).cell? ⟨wr.heap.size, j, none⟩ = some u
                    rw [World.cell?_alloc_new]
                    simpa using hj) (by intro u hu; simp at hu; subst hu; rfl) (by omega) (by unfold maxLen; omega)
                  obtain ⟨a7, c7, rfl⟩ := orow_form' ho7
                  have HR7 : Hid _ := hr7
                  have HO7 : Hid _ := ho7
                  have HB7 : Hid (Below wc.heap.size wc W7) := (hb.out.trans (hbu.mono hcw)).trans (obelow_grown (row_up ho.out hbu) gr7 (Nat.le_refl _) (Nat.le_trans hcw hbu.size))
                  clear hr7 ho7 gr7 hl hLv l4 hbu
                  go_wp2_with (first | (at_builtin; refine wpList_append_pair _ rfl (.tmp 114) (.tmp 119) 24 24 rfl _ _ rfl rfl HR7.out ?_))
                  go_roundw
                  case rel =>
                    refine ⟨0 + 1, by omega, ?_, ⟨a7, c7, rfl⟩, HB7.out⟩
                    show World.ownsRow _ _ _ _ _ _ _
                    rw [List.take_add_one, HL2.out]
                    rw [show (S.take (0) ++ (some v).toList) = S.take (0) ++ [v] from rfl, flat_ints, List.map_append, ← flat_ints]
                    exact HO7.out
                  case measure => simp; omega
          · have hKS : 0 = S.length := by omega
            have HKS : Hid _ := hKS
            clear hKS
            go_wp2_with fail
            go_ret2
            refine ⟨_, rfl, ?_, hBW.out.trans (hb.out.mono hzw)⟩
            have h0 := ho.out
            rw [List.take_of_length_le (by have := HKS.out; omega)] at h0
            have hlow := orow_low h0 hzw
            rw [HGS.out, ← HKS.out]
            exact hlow
        · by_cases hkl : k' + 1 < L.length
          · have hkk : (k' : Int) + 1 < (L.length : Int) := by omega
            obtain ⟨gO, rfl, hgO⟩ : ∃ gO, aO = some ⟨gO, 0, none⟩ ∧ gO < wr.heap.size := by
              obtain ⟨g, cap, hv2, _⟩ := ho.out.form (by omega)
              cases hv2
              obtain ⟨_, cur, hh⟩ := row_block ho.out (k := g) rfl
              exact ⟨g, rfl, (Array.getElem?_eq_some_iff.1 hh).1⟩
            obtain ⟨zl, hzl⟩ : ∃ zl, S[k']? = some zl := ⟨_, List.getElem?_eq_getElem (by omega)⟩
            have hlast : (S.take (k' + 1)).getLast? = some zl := by rw [List.getLast?_eq_getElem?, List.length_take, show min (k' + 1) S.length - 1 = k' by omega, List.getElem?_take_of_lt (by omega)]; exact hzl
            have xo : wr.cell? ⟨gO, k', none⟩ = some (.int .i64 zl) := by
              have := orow_cells ho.out (k' * 1 + 0) (.int .i64 zl) ((flat_at (sz := 1) (fun _ => rfl) (S.take (k' + 1)) k' zl (by rw [List.getElem?_take_of_lt (by omega)]; exact hzl) 0 (by decide)).trans rfl)
              rwa [Nat.mul_one, Nat.add_zero] at this
            have hk0 : ((k' : Int) + 1 == 0) = false := by rw [beq_eq_false_iff_ne]; omega
            have hcO : k' + 1 ≤ cO := by
              rcases ho.out.2 with ⟨hv2, _⟩ | ⟨_, _, _, hv2, _, _, hcap, _⟩
              · cases hv2
              · cases hv2; exact hcap
            have hk63 : (k' : Int) ≤ 9223372036854775806 := by omega
            have HLK := LN.out (k' + 1) hk
            have HLKH : Hid _ := HLK
            obtain ⟨p, hp⟩ : ∃ p, beyond (S.take (k' + 1)) = p := ⟨_, rfl⟩
            have HP : Hid _ := hp
            rw [hp] at HLK
            have HLP : Hid (least p L = S[k' + 1]?) := HLK
            have hL63 : (L.length : Int) ≤ 9223372036854775807 := by have := hwl; omega
            clear HLKH HLK hp
            have HLAST : Hid ((S.take (k' + 1)).getLast? = some zl) := hlast
            clear hlast hzl
            go_wp2_with fail
            go_loopw [10, 11] (fun q i wq => ∃ j n : Nat, j ≤ L.length ∧ i = .int .i64 (j : Int) ∧ (∃ z : Int, q = .int .i64 z ∧ Hid ((z = -1 ∧ least p (L.take j) = none) ∨ ∃ (Q : Nat) (v : Int), z = (Q : Int) ∧ Q < j ∧ L[Q]? = some v ∧ least p (L.take j) = some v)) ∧ wq = wr.drewN n) (fun _ i _ => (L.length - intOf i).toNat)
            case atStart => exact ⟨0, 0, Nat.zero_le _, rfl, ⟨-1, rfl, Or.inl ⟨rfl, rfl⟩⟩, rfl⟩
            case round =>
              obtain ⟨j, n, j1, rfl, ⟨z, rfl, hz⟩, rfl⟩ := hrel
              by_cases hj : j < L.length
              · obtain ⟨y, hy⟩ : ∃ y, L[j]? = some y := ⟨_, List.getElem?_eq_getElem hj⟩
                have hsn : least p (L.take (j + 1)) = if p y && (match least p (L.take j) with | none => true | some x => decide (y < x)) then some y else least p (L.take j) := by
                  rw [List.take_add_one, hy]; exact least_snoc p _ y
                obtain ⟨bL, oL, capL, hvL, l1, l2, l3, l4⟩ := hLL.out.resolve_left (by rintro ⟨_, _, _, h⟩; rw [h] at hj; simp at hj)
                cases hvL
                have xx : ∀ (i : Nat) (v : Int), L[i]? = some v → wr.cell? ⟨bL, oL + i, none⟩ = some (.int .i64 v) := fun i v hv => by
                  have := l4 i v hv 0 _ rfl
                  rw [Nat.mul_one, Nat.add_zero] at this
                  exact (hb.out.cell (p := ⟨bL, _, none⟩) l3).trans this
                have x0 := xx j y hy
                have hjj : (j : Int) < (L.length : Int) := by omega
                have HY : Hid _ := hy
                have HSN : Hid _ := hsn
                have XX : Hid _ := xx
                clear hy hsn xx l4
                have hpy : p y = decide (zl < y) := by rw [← HP.out]; unfold beyond; rw [HLAST.out]
                by_cases hzy : zl < y
                · have hzy2 : decide (zl < y) = true := by simp [hzy]
                  rcases hz.out with ⟨rfl, hl⟩ | ⟨Q, v, rfl, hQ, hLv, hl⟩
                  · have HN : Hid (least p (L.take (j + 1)) = some y) := by show _ = _; rw [HSN.out, hpy, hl]; simp [hzy]
                    clear hz hpy hl HSN
                    go_wp2_with fail
                    go_quiet (fail)
                    go_wp2
                    go_roundw
                    case rel => exact ⟨j + 1, _, by omega, by go_num, ⟨j, rfl, Or.inr ⟨j, y, rfl, by omega, HY.out, HN.out⟩⟩, rfl⟩
                    case measure => simp [intOf]; omega
                  · have x1 := XX.out Q v hLv
                    have hQ1 : decide ((Q : Int) < 0) = false := by simp
                    have hQ2 : (Q : Int) < (L.length : Int) := by omega
                    have HLV : Hid _ := hLv
                    by_cases hyv : y < v
                    · have HN : Hid (least p (L.take (j + 1)) = some y) := by show _ = _; rw [HSN.out, hpy, hl]; simp [hyv, hzy]
                      clear hz hpy hl HSN hLv
                      have hyv2 : decide (y < v) = true := by simp [hyv]
                      go_wp2_with fail
                      go_quiet (fail)
                      go_wp2
                      go_roundw
                      case rel => exact ⟨j + 1, _, by omega, by go_num, ⟨j, rfl, Or.inr ⟨j, y, rfl, by omega, HY.out, HN.out⟩⟩, rfl⟩
                      case measure => simp [intOf]; omega
                    · have HN : Hid (least p (L.take (j + 1)) = some v) := by show _ = _; rw [HSN.out, hpy, hl]; simp [hyv]
                      clear hz hpy hl HSN hLv
                      have hyv2 : decide (y < v) = false := by simp [hyv]
                      go_wp2_with fail
                      go_quiet (fail)
                      go_wp2
                      go_roundw
                      case rel => exact ⟨j + 1, _, by omega, by go_num, ⟨Q, rfl, Or.inr ⟨Q, v, rfl, by omega, HLV.out, HN.out⟩⟩, rfl⟩
                      case measure => simp [intOf]; omega
                · have hzy2 : decide (zl < y) = false := by simp [hzy]
                  have HN : Hid (least p (L.take (j + 1)) = least p (L.take j)) := by show _ = _; rw [HSN.out, hpy]; simp [hzy]
                  have HZ : Hid _ := hz.out
                  clear hz hpy HSN
                  go_wp2_with fail
                  go_quiet (fail)
                  go_wp2
                  go_roundw
                  case rel =>
                    refine ⟨j + 1, _, by omega, by go_num, ⟨z, rfl, ?_⟩, rfl⟩
                    rcases HZ.out with ⟨h1, h2⟩ | ⟨Q, v, h1, h2, h3, h4⟩
                    · exact Or.inl ⟨h1, HN.out.trans h2⟩
                    · exact Or.inr ⟨Q, v, h1, by omega, h3, HN.out.trans h4⟩
                  case measure => simp [intOf]; omega
              · obtain rfl : j = L.length := by omega
                have hz2 := hz.out
                rw [List.take_of_length_le (Nat.le_refl _), HLP.out] at hz2
                clear hz
                rcases hz2 with ⟨rfl, hl⟩ | ⟨Q, v, rfl, hQ, hLv, hl⟩
                · have hKS : k' + 1 = S.length := by have := List.getElem?_eq_none_iff.1 hl; omega
                  have HKS : Hid _ := hKS
                  clear hl hKS
                  go_wp2_with fail
                  go_ret2
                  refine ⟨_, rfl, ?_, hBW.out.trans ((below_drewN' (hb.out.mono hzw) _))⟩
                  have h0 := ho.out
                  rw [List.take_of_length_le (by have := HKS.out; omega)] at h0
                  have hlow := orow_low h0 hzw
                  rw [HGS.out, ← HKS.out]
                  exact hlow
                · obtain ⟨bL, oL, capL, hvL, l1, l2, l3, l4⟩ := hLL.out.resolve_left (by rintro ⟨_, _, _, h⟩; rw [h] at hQ; simp at hQ)
                  cases hvL
                  have x1 : wr.cell? ⟨bL, oL + Q, none⟩ = some (.int .i64 v) := by
                    have := l4 Q v hLv 0 _ rfl
                    rw [Nat.mul_one, Nat.add_zero] at this
                    exact (hb.out.cell (p := ⟨bL, _, none⟩) l3).trans this
                  have hlb : bL < wr.heap.size := Nat.lt_of_lt_of_le l3 hb.out.size
                  have hKS : k' + 1 < S.length := (List.getElem?_eq_some_iff.1 hl).1
                  have HL2 : Hid _ := hl
                  have hQ1 : decide ((Q : Int) < 0) = false := by simp
                  have hQ2 : (Q : Int) < (L.length : Int) := by omega
                  have hcw : wc.heap.size ≤ wr.heap.size := hb.out.size
                  have hbu : Below wr.heap.size wr ((wr.alloc (.cells #[.int .i64 v] 3)).drewN n) := below_drewN' ((Below.refl _ _).alloc (Nat.le_refl _) _) n
                  obtain ⟨v7, W7, hr7, ho7, gr7⟩ := orow_apps 3 24 1 8 _ Try.underlying24 nInt rfl (by decide) (row_up ho.out hbu) (Nat.le_trans hcw hbu.size) wr.heap.size 0 1 1 [.int .i64 v] rfl (fun j u hj => by
                    rw [Nat.zero_add]
                    show (wr.alloc (.cells #[.int .i64 v] 3)).cell? ⟨wr.heap.size, j, none⟩ = some u
                    rw [World.cell?_alloc_new]
                    simpa using hj) (by intro u hu; simp at hu; subst hu; rfl) (by omega) (by unfold maxLen; omega)
                  obtain ⟨a7, c7, rfl⟩ := orow_form' ho7
                  have HR7 : Hid _ := hr7
                  have HO7 : Hid _ := ho7
                  have HB7 : Hid (Below wc.heap.size wc W7) := (hb.out.trans (hbu.mono hcw)).trans (obelow_grown (row_up ho.out hbu) gr7 (Nat.le_refl _) (Nat.le_trans hcw hbu.size))
                  clear hr7 ho7 gr7 hl hLv l4 hbu
                  go_wp2_with (first | (at_builtin; refine wpList_append_pair _ rfl (.tmp 114) (.tmp 119) 24 24 rfl _ _ rfl rfl HR7.out ?_))
                  go_roundw
                  case rel =>
                    refine ⟨k' + 1 + 1, by omega, ?_, ⟨a7, c7, rfl⟩, HB7.out⟩
                    show World.ownsRow _ _ _ _ _ _ _
                    rw [List.take_add_one, HL2.out]
                    rw [show (S.take (k' + 1) ++ (some v).toList) = S.take (k' + 1) ++ [v] from rfl, flat_ints, List.map_append, ← flat_ints]
                    exact HO7.out
                  case measure => simp; omega
          · have hKS : k' + 1 = S.length := by omega
            have HKS : Hid _ := hKS
            clear hKS
            go_wp2_with fail
            go_ret2
            refine ⟨_, rfl, ?_, hBW.out.trans (hb.out.mono hzw)⟩
            have h0 := ho.out
            rw [List.take_of_length_le (by have := HKS.out; omega)] at h0
            have hlow := orow_low h0 hzw
            rw [HGS.out, ← HKS.out]
            exact hlow
end Go.Proofs.Ytebjfgbjmhhccaa
