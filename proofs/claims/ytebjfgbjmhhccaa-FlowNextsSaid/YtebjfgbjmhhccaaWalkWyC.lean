/-
  package flow: ways.
-/
import Derived.Test.YtebjfgbjmhhccaaPureFlC
import Derived.Test.YtebjfgbjmhhccaaRowMoreC
import Derived.Test.YtebjfgbjmhhccaaAppListC
import Derived.Deep.CutBlock
namespace Go.Proofs.Ytebjfgbjmhhccaa
open Go.RowKit Go.Joins
theorem nInt : (Try.prog.info? 3).map (fun i => (i.zero, i.size, i.bytes)) = some (some (.int .i64 0), 1, 8) := by kernel_rfl
theorem wcell_one (x : Int) : ∀ u ∈ icell x, u.oneCell' = true := by intro u hu; simp [icell] at hu; subst hu; rfl
/-- append([]int(nil), l...): a row of the call's own. -/
theorem nil_app (w : World) (v : Value) (xs : List Int) (h : ListAt w icell 1 v xs) (hb : xs.length * 8 ≤ 140737488355328) :
    ∃ a n c W, (Builtin.append_ #[24, 24] 24 #[.slice none 0 0, v]).run Try.prog w = .ok (.slice a n c) W ∧ W.ownsRow w.heap.size 3 1 (.slice a n c) xs.length (flat icell xs) ∧ Below w.heap.size w W := by
  have hz : xs = [] → ∃ a n c W, (Builtin.append_ #[24, 24] 24 #[.slice none 0 0, v]).run Try.prog w = .ok (.slice a n c) W ∧ W.ownsRow w.heap.size 3 1 (.slice a n c) xs.length (flat icell xs) ∧ Below w.heap.size w W := by
    rintro rfl
    obtain ⟨i, hi, hz, hs, hbs⟩ := info_of nInt
    obtain ⟨a, cap, rfl, _⟩ := h.form
    have hsrc : Src Try.prog i.size 24 (.slice a 0 cap) 0 [] w := by
      cases a with
      | none => exact Src.ofNil _ Try.underlying24 cap
      | some a => exact Src.ofSlice _ Try.underlying24 a 0 cap [] (by simp) (fun j u hj => by simp at hj) (fun u hu => by simp at hu)
    exact ⟨none, 0, 0, w, run_append_nothing w _ _ _ _ i Try.underlying24 hi none 0 0 (Nat.le_refl _) _ hsrc, World.ownsRow_nil _ _ _ _, Below.refl _ _⟩
  rcases h with ⟨a, cap, rfl, rfl⟩ | ⟨bb, oo, cap, rfl, h1, h2, h3, h4⟩
  · exact hz rfl
  · by_cases h0 : xs = []
    · exact hz h0
    · obtain ⟨v', W, hr, ho, gr⟩ := orow_apps 3 24 1 8 _ Try.underlying24 nInt rfl (by decide) (World.ownsRow_nil w w.heap.size 3 1) (Nat.le_refl _) bb oo xs.length cap (flat icell xs) (flat_len (sz := 1) (fun _ => rfl) xs) (fun j u hj => by
        have := list_src (sz := 1) (by decide) (fun _ => rfl) h4 j u hj
        rwa [Addr.add_lit] at this) (flat_one wcell_one xs) (by omega) (by unfold maxLen at *; omega)
      rw [Nat.zero_add, List.nil_append] at ho
      obtain ⟨a, c, rfl⟩ := orow_form' ho
      exact ⟨a, _, c, W, hr, ho, obelow_grown (World.ownsRow_nil w w.heap.size 3 1) gr (Nat.le_refl _) (Nat.le_refl _)⟩
set_option maxRecDepth 100000 in
set_option maxHeartbeats 2000000 in
theorem ways_any (f : Fl) (vB vT vF : Value) (u : BkV) (b : Bk) (w : World) (hF : FlAt w vB vT vF f) (hb : BkAt w u b) (hs : f.small) :
    Calls Try.prog 15 #[.agg #[vB, vT, vF], u.val] w fun e w' => ∃ v, e = .returned v ∧ w'.ownsRow w.heap.size 3 1 v (waysN f b).length (flat icell (waysN f b)) ∧ Below w.heap.size w w' := by
  obtain ⟨us, hBx, -, -⟩ := hF.blocks
  obtain ⟨aB, cB, rfl, -⟩ := hBx.form
  obtain ⟨vs, hTx, hTl, hTe⟩ := hF.tables
  obtain ⟨aT, cT, rfl, -⟩ := hTx.form
  obtain ⟨aF, cF, rfl, -⟩ := hF.firsts.form
  obtain ⟨fn, start, vC, vA, ⟨lk, ld, la, lb, ln, ll⟩, ends, dst, els, vL⟩ := u
  obtain ⟨rfl, rfl, hl, rfl, rfl, rfl, hC, hA, hL⟩ := hb
  simp only at hl hC hA hL
  obtain ⟨aC, cC, rfl, hC2⟩ := hC.form
  obtain ⟨aA, cA, rfl, -⟩ := hA.form
  obtain ⟨aL, cL, rfl, -⟩ := hL.form
  unfold maxLen at hC2
  have HC : Hid (ListAt w FIns.cells 6 (.slice aC b.code.length cC) b.code) := hC
  have HT : Hid (ListAt w vcell 1 (.slice aT vs.length cT) vs) := hTx
  have HTE : Hid (∀ (j : Nat) (u : Value) (t : List Int), vs[j]? = some u → f.tables[j]? = some t → ListAt w icell 1 u t) := hTe
  have HTL : Hid (vs.length = f.tables.length) := hTl
  have HS : Hid f.small := hs
  have HB1 : ∀ o1 o2, Below w.heap.size w ((w.alloc o1).alloc o2) := fun o1 o2 => ((Below.refl _ _).alloc (Nat.le_refl _) _).alloc (by simp) _
  have HBB : Hid _ := HB1
  unfold BkV.val
  simp only
  clear hC hA hL hBx hTx hTe hTl hF hs hl HB1
  have hends : (b.ends = 2 ∨ b.ends = 3) ∨ b.ends = 4 ∨ (b.ends ≠ 2 ∧ b.ends ≠ 3 ∧ b.ends ≠ 4) := by omega
  rcases hends with h | h | ⟨h2, h3, h4⟩
  · have hw : waysN f b = [b.dst] := by unfold waysN; rw [if_pos h]
    have HW : Hid _ := hw
    rw [hw]
    have hd : ((b.ends == 2) = true) ∨ ((b.ends == 2) = false ∧ (b.ends == 3) = true) := by rcases h with h | h <;> simp [h]
    clear h hw
    rcases hd with hd | ⟨hd, hd2⟩
    all_goals
      go_enter Try.func15, Try.ntmps15
      go_wp2
      go_ret
      refine ⟨_, rfl, ?_, by go_grown⟩
      refine row_lit _ w.heap.size 1 1 _ 3 (flat icell [b.dst]) _ ?_ ?_ rfl rfl (by unfold maxLen; omega) <;> simp <;> omega
  · have hw : waysN f b = [b.dst, b.els] := by unfold waysN; rw [if_neg (by omega), if_pos h]
    rw [hw]
    have h2 : (b.ends == 2) = false := by simp; omega
    have h3 : (b.ends == 3) = false := by simp; omega
    have h4 : (b.ends == 4) = true := by simp [h]
    clear h hw
    go_enter Try.func15, Try.ntmps15
    go_wp2
    go_ret
    refine ⟨_, rfl, ?_, by go_grown⟩
    refine row_lit _ w.heap.size 1 2 _ 3 (flat icell [b.dst, b.els]) _ ?_ ?_ rfl rfl (by unfold maxLen; omega) <;> simp <;> omega
  · have e2 : (b.ends == 2) = false := by simp [h2]
    have e3 : (b.ends == 3) = false := by simp [h3]
    have e4 : (b.ends == 4) = false := by simp [h4]
    have hw0 : waysN f b = tblN f b.code.getLast? := by
      unfold waysN; rw [if_neg (by omega), if_neg h4]
    clear h2 h3 h4
    by_cases hc0 : b.code.length = 0
    · have hw : waysN f b = [] := by rw [hw0, List.length_eq_zero_iff.1 hc0]; rfl
      rw [hw]
      have hc1 : ((b.code.length : Int) == 0) = true := by rw [hc0]; rfl
      clear hw hw0 hc0
      go_enter Try.func15, Try.ntmps15
      go_wp2
      go_ret
      exact ⟨_, rfl, World.ownsRow_nil _ _ _ _, by go_grown⟩
    · have hc1 : ((b.code.length : Int) == 0) = false := by rw [beq_eq_false_iff_ne]; omega
      obtain ⟨m, hm⟩ : ∃ m, b.code.length = m + 1 := ⟨b.code.length - 1, by omega⟩
      obtain ⟨i, hi⟩ : ∃ i, b.code[m]? = some i := ⟨_, List.getElem?_eq_getElem (by omega)⟩
      have hgl : b.code.getLast? = some i := by rw [List.getLast?_eq_getElem?, hm]; exact hi
      rw [hgl] at hw0
      rw [show tblN f (some i) = if i.k = 24 ∧ 0 ≤ i.n ∧ i.n < f.tables.length then f.tables.getD i.n.toNat [] else [] from rfl] at hw0
      obtain ⟨bC, oC, cap, hv, c1, c2, c3, c4⟩ := HC.out.resolve_left (by rintro ⟨_, _, _, h⟩; rw [h] at hm; simp at hm)
      cases hv
      have q := c4 m i hi
      obtain ⟨ik, idd, ia, ib, inn, il⟩ := i
      have q0 := q 0 _ rfl
      have q1 := q 1 _ rfl
      have q2 := q 2 _ rfl
      have q3 := q 3 _ rfl
      have q4 := q 4 _ rfl
      have q5 := q 5 _ rfl
      rw [Nat.add_zero] at q0
      have hmi : (b.code.length : Int) - 1 = (m : Int) := by omega
      have hml : (m : Int) < (b.code.length : Int) := by omega
      simp only at hw0
      have hm63 : (m : Int) ≤ 9223372036854775806 := by omega
      clear q c4 hi hgl hC2
      rw [hm] at *
      by_cases hT : ik = 24 ∧ 0 ≤ inn ∧ inn < f.tables.length
      · obtain ⟨rfl, n0, n1⟩ := hT
        rw [if_pos ⟨rfl, n0, n1⟩] at hw0
        obtain ⟨N, rfl⟩ := Int.eq_ofNat_of_zero_le n0
        rw [Int.toNat_natCast] at hw0
        have hN : N < f.tables.length := by omega
        obtain ⟨t, ht⟩ : ∃ t, f.tables[N]? = some t := ⟨_, List.getElem?_eq_getElem hN⟩
        obtain ⟨vt, hvt⟩ : ∃ vt, vs[N]? = some vt := ⟨_, List.getElem?_eq_getElem (by have := HTL.out; omega)⟩
        have hgd : f.tables.getD N [] = t := by rw [List.getD_eq_getElem?_getD, ht]; rfl
        rw [hgd] at hw0
        have hlt := HTE.out N vt t hvt ht
        have hts := HS.out t (List.mem_of_getElem? ht)
        obtain ⟨bT, oT, capT, hv, d1, d2, d3, d4⟩ := HT.out.resolve_left (by rintro ⟨_, _, _, h⟩; rw [h] at hvt; simp at hvt)
        cases hv
        have y0 := d4 N vt hvt 0 _ rfl
        rw [Nat.mul_one, Nat.add_zero] at y0
        obtain ⟨at', ct, rfl, hct⟩ := hlt.form
        have hNl : (N : Int) < (vs.length : Int) := by have := HTL.out; omega
        rw [hw0]
        have NA := nil_app (((w.alloc (.cells #[.slice aB us.length cB, .slice (some ⟨bT, oT, none⟩) vs.length cT, .slice aF f.firsts.length cF] 26)).alloc (.cells #[.int .i64 b.fn, .int .i64 b.start, .slice (some ⟨bC, oC, none⟩) (m + 1) cC, .slice aA b.ats.length cA, .int .i64 lk, .int .i64 ld, .int .i64 la, .int .i64 lb, .int .i64 ln, .bool ll, .int .i64 b.ends, .int .i64 b.dst, .int .i64 b.els, .slice aL b.lines.length cL] 46)).alloc (.cells #[.int .i64 24, .int .i64 idd, .int .i64 ia, .int .i64 ib, .int .i64 N, .bool il] 44)) _ t (hlt.stays (Nat.le_refl _) (by go_grown)) (by omega)
        obtain ⟨a9, n9, c9, W9, hr9, ho9, hb9⟩ := NA
        have HR9 : Hid _ := hr9
        have HO9 : Hid (W9.ownsRow w.heap.size 3 1 (.slice a9 n9 c9) t.length (flat icell t)) := ⟨ho9.1, ho9.2.imp id fun ⟨g, cap, cur, e, q1, q2⟩ => ⟨g, cap, cur, e, by simp at q1; omega, q2⟩⟩
        have HB9 : Hid (Below w.heap.size w W9) := (show Below w.heap.size w _ by go_grown).trans (hb9.mono (by simp <;> omega))
        clear hr9 ho9 hb9 hw0 hlt hct ht hvt hgd hts d4
        have y3 : ∀ o1 o2 o3, (((w.alloc o1).alloc o2).alloc o3).cell? ⟨bT, oT + N, none⟩ = some (.slice at' t.length ct) := fun o1 o2 o3 => ((((Below.refl w.heap.size w).alloc (Nat.le_refl _) o1).alloc (by simp) o2).alloc (by simp <;> omega) o3).cell (p := ⟨bT, _, none⟩) d3 |>.trans y0
        go_enter Try.func15, Try.ntmps15
        go_wp2_with (first | (at_builtin; refine wpList_append_pair _ rfl (.const (.slice none 0 0)) (.tmp 54) 24 24 rfl _ _ rfl rfl HR9.out ?_))
        go_ret
        exact ⟨_, rfl, HO9.out, HB9.out⟩
      · rw [if_neg hT] at hw0
        rw [hw0]
        have hsp : (ik != 24) = true ∨ ((ik != 24) = false ∧ inn < 0) ∨ ((ik != 24) = false ∧ ¬ inn < 0 ∧ (vs.length : Int) ≤ inn) := by
          by_cases h1 : ik = 24
          · by_cases h2 : inn < 0
            · exact Or.inr (Or.inl ⟨by simp [h1], h2⟩)
            · exact Or.inr (Or.inr ⟨by simp [h1], h2, by have := HTL.out; omega⟩)
          · exact Or.inl (by simp [h1])
        clear hT hw0
        rcases hsp with h | ⟨h, h2⟩ | ⟨h, h2, h3⟩
        all_goals
          go_enter Try.func15, Try.ntmps15
          go_wp2
          go_ret
          exact ⟨_, rfl, World.ownsRow_nil _ _ _ _, by go_grown⟩
end Go.Proofs.Ytebjfgbjmhhccaa
