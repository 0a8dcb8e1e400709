/-
  The call of boltholekeep.ImageApart returns true at every slice of Raws.
-/
import Derived.Test.YtechpdfcgimkkaaDoorWalkPiC
import Derived.Test.YtechpdfcgimkkaaDoorMNBC
import Derived.Test.YtechpdfcgimkkaaDoorWalkSmC
import Derived.BigQuiet
import Derived.Deep.QuietTactic
namespace Go.Proofs.YtechpdfcgimkkaaDoor
open Go.RowKit Go.Joins Isa
set_option maxRecDepth 100000 in
set_option maxHeartbeats 8000000 in
theorem imageApart_law (v : Value) (l : List Rw) (w : World) (ht : Tabs w) (hR : RawsAt w v l) :
    Calls Tryd.prog 6 #[v] w fun e w' => e = .returned (.bool true) ∧ Below w.heap.size w w' := by
  have PR := hid (program_img v l w hR ht)
  clear hR ht
  go_enter Tryd.func6, Tryd.ntmps6
  go_upto_region 1 with fail
  go_wp2_with fail
  refine Calls.mono PR.out ?_
  rintro e w1 ⟨vT, vF, vB, vD, vL, m, rfl, hm, hO, hb⟩
  have hen := hm.entry
  have HM := hid hm
  have HO := hid hO
  have HB : Hid (Below w.heap.size w w1) := hb
  have hz : w.heap.size ≤ w1.heap.size := hb.size
  obtain ⟨aT, cT, rfl⟩ := orow_form' hO.text
  obtain ⟨aF, cF, rfl⟩ := orow_form' hO.funcs
  obtain ⟨us, hus, -, -⟩ := hO.tables
  obtain ⟨aB, cB, rfl⟩ := orow_form' hus
  obtain ⟨aD, cD, rfl⟩ := orow_form' hO.data
  obtain ⟨aL, cL, rfl⟩ := orow_form' hO.lines
  have HEN := hid hen
  clear hO hm hus hb PR hen
  go_upto_region 2 with fail
  obtain ⟨w2, hw2⟩ : ∃ w2, w1.alloc (.cells #[.slice aT m.text.length cT, .slice aF m.funcs.length cF, .slice aB us.length cB, .slice aD m.data.length cD, .slice aL m.lines.length cL, .int .i64 0] 29) = w2 := ⟨_, rfl⟩
  rw [hw2]
  have HX2 : Hid (w2.heap[w1.heap.size]? = some (.cells #[.slice aT m.text.length cT, .slice aF m.funcs.length cF, .slice aB us.length cB, .slice aD m.data.length cD, .slice aL m.lines.length cL, .int .i64 0] 29)) := by rw [← hw2]; exact heap_alloc_new _ _
  have HB2 : Hid (Below w1.heap.size w1 w2) := by rw [← hw2]; exact (Below.refl _ _).alloc (Nat.le_refl _) _
  have hgl : w1.heap.size < w2.heap.size := (Array.getElem?_eq_some_iff.1 HX2.out).1
  have HI2 : Hid (ImgAt w2 (.slice aT m.text.length cT) (.slice aF m.funcs.length cF) (.slice aB us.length cB) (.slice aD m.data.length cD) (.slice aL m.lines.length cL) m) := HO.out.at.stays (Nat.le_refl _) HB2.out
  clear hw2
  have CP : Hid (Calls Tryd.prog 23 #[.agg #[.slice aT m.text.length cT, .slice aF m.funcs.length cF, .slice aB us.length cB, .slice aD m.data.length cD, .slice aL m.lines.length cL, .int .i64 0]] w2 fun e w' => ∃ bT bF bB bD bL, e = .returned (.agg #[bT, bF, bB, bD, bL, .int .i64 0]) ∧ RowsAt w' w2.heap.size bT bF bB bD bL m ∧ Below w2.heap.size w2 w') := by
    have := copy_rows _ _ _ _ _ m w2 HI2.out HM.out.small
    rwa [HEN.out] at this
  have EN : Hid (∀ W, Below w2.heap.size w2 W → Calls Tryd.prog 17 #[.agg #[.slice aT m.text.length cT, .slice aF m.funcs.length cF, .slice aB us.length cB, .slice aD m.data.length cD, .slice aL m.lines.length cL, .int .i64 0]] W fun e w' => ∃ a c, e = .returned (.tuple #[.slice a (encImg m).length c, .int .i64 0]) ∧ (∃ B, W.heap.size ≤ B ∧ Own w' B (.slice a (encImg m).length c) (encImg m)) ∧ Below W.heap.size W w') := fun W hW => by
    have := encode_img _ _ _ _ _ m W (HI2.out.stays (Nat.le_refl _) hW) HM.out.chk.2.1
    rw [HEN.out] at this
    refine this.mono ?_
    rintro e w' (⟨h, _⟩ | ⟨_, v, rfl, ⟨B, hB, ho⟩, hb⟩)
    · exact absurd HM.out.chk.1 h
    · obtain ⟨a, c, rfl⟩ := ho.form
      exact ⟨a, c, rfl, ⟨B, hB, ho⟩, hb⟩
  obtain ⟨s0, s1, s2, s3, s4, s5⟩ := img_six HX2.out
  go_wp2_with fail
  refine Calls.mono CP.out ?_
  rintro e w3 ⟨bT, bF, bB, bD, bL, rfl, hc, hb3⟩
  have HC := hid hc
  have HB3 := hid hb3
  have htl : m.text.length ≠ 0 := by have := HM.out.chk.2.2.1; omega
  have hfl : m.funcs.length ≠ 0 := by have := HM.out.one; omega
  obtain ⟨gT, cT', rfl, -, -⟩ := own_some hc.text htl
  obtain ⟨gF, cF', rfl, -, -⟩ := own_some hc.funcs hfl
  obtain ⟨gD, cD', rfl, -, -⟩ := own_some hc.data (by rw [HM.out.data]; decide)
  obtain ⟨ub, hub, -, -⟩ := hc.tables
  obtain ⟨aB', cB', rfl⟩ := orow_form' hub
  obtain ⟨aL', cL', rfl⟩ := orow_form' hc.lines
  have HUB := hid hub
  have hz3 : w2.heap.size ≤ w3.heap.size := hb3.size
  clear hc hb3 CP hub s0 s1 s2 s3 s4 s5
  have HX3 := hid ((HB3.out.block _ hgl).trans HX2.out)
  obtain ⟨s0, s1, s2, s3, s4, s5⟩ := img_six HX3.out
  have hgl3 : w1.heap.size < w3.heap.size := by omega
  have hgn3 : ¬ w1.heap.size = w3.heap.size := by omega
  go_upto_region 3 with fail
  obtain ⟨w4, hw4⟩ : ∃ w4, w3.alloc (.cells #[.slice (some ⟨gT, 0, none⟩) m.text.length cT', .slice (some ⟨gF, 0, none⟩) m.funcs.length cF', .slice aB' ub.length cB', .slice (some ⟨gD, 0, none⟩) m.data.length cD', .slice aL' m.lines.length cL', .int .i64 0] 29) = w4 := ⟨_, rfl⟩
  rw [hw4]
  have HY4 : Hid (w4.heap[w3.heap.size]? = some (.cells #[.slice (some ⟨gT, 0, none⟩) m.text.length cT', .slice (some ⟨gF, 0, none⟩) m.funcs.length cF', .slice aB' ub.length cB', .slice (some ⟨gD, 0, none⟩) m.data.length cD', .slice aL' m.lines.length cL', .int .i64 0] 29)) := by rw [← hw4]; exact heap_alloc_new _ _
  have HBA : Hid (Below w3.heap.size w3 w4) := by rw [← hw4]; exact (Below.refl _ _).alloc (Nat.le_refl _) _
  have hz4 : w3.heap.size < w4.heap.size := (Array.getElem?_eq_some_iff.1 HY4.out).1
  have HX4 := hid ((HBA.out.block _ hgl3).trans HX3.out)
  have HB4 : Hid (Below w2.heap.size w2 w4) := HB3.out.trans (HBA.out.mono hz3)
  clear hw4 s0 s1 s2 s3 s4 s5
  obtain ⟨s0, s1, s2, s3, s4, s5⟩ := img_six HX4.out
  have hgl4 : w1.heap.size < w4.heap.size := by omega
  go_wp2_with fail
  refine Calls.mono (EN.out _ HB4.out) ?_
  rintro e w5 ⟨a5, c5, rfl, ⟨B5, hB5, ho5⟩, hb5⟩
  have HO5 := hid ho5
  have HB5 := hid hb5
  have hz5 : w4.heap.size ≤ w5.heap.size := hb5.size
  clear ho5 hb5 s0 s1 s2 s3 s4 s5
  have HC5 : Hid (RowsAt w5 w2.heap.size (.slice (some ⟨gT, 0, none⟩) m.text.length cT') (.slice (some ⟨gF, 0, none⟩) m.funcs.length cF') (.slice aB' ub.length cB') (.slice (some ⟨gD, 0, none⟩) m.data.length cD') (.slice aL' m.lines.length cL') m) := by
    have hb : Below w3.heap.size w3 w5 := HBA.out.trans (HB5.out.mono (by omega))
    obtain ⟨u, h1, h2, h3⟩ := HC.out.tables
    exact ⟨row_up HC.out.text hb, row_up HC.out.funcs hb, ⟨u, row_up h1 hb, h2, fun j x t a b => row_up (h3 j x t a b) hb⟩, row_up HC.out.data hb, row_up HC.out.lines hb⟩
  have HUB5 : Hid (w5.ownsRow w2.heap.size 26 1 (.slice aB' ub.length cB') ub.length (flat vcell ub)) := row_up HUB.out (HBA.out.trans (HB5.out.mono (by omega)))
  have HY5 := hid ((HB5.out.block _ (by omega)).trans HY4.out)
  have HX5 := hid ((HB5.out.block _ hgl4).trans HX4.out)
  obtain ⟨kT1, kT2, curT, kT3⟩ := own_block HC5.out.text
  obtain ⟨kF1, kF2, curF, kF3⟩ := own_block HC5.out.funcs
  obtain ⟨kD1, kD2, curD, kD3⟩ := own_block HC5.out.data
  have nTF : gT ≠ gF := by rintro rfl; rw [kT3] at kF3; simp at kF3
  have nTD : gT ≠ gD := by rintro rfl; rw [kT3] at kD3; simp at kD3
  have nFD : gF ≠ gD := by rintro rfl; rw [kF3] at kD3; simp at kD3
  have nT3 : w3.heap.size ≠ gT := by rintro h; rw [← h, HY5.out] at kT3; simp at kT3
  have nF3 : w3.heap.size ≠ gF := by rintro h; rw [← h, HY5.out] at kF3; simp at kF3
  have nD3 : w3.heap.size ≠ gD := by rintro h; rw [← h, HY5.out] at kD3; simp at kD3
  have hTl : gT < w3.heap.size := (own_block HC.out.text).2.1
  have hFl : gF < w3.heap.size := (own_block HC.out.funcs).2.1
  have hDl : gD < w3.heap.size := (own_block HC.out.data).2.1
  obtain ⟨x0, tr, hxt⟩ : ∃ x r, m.text = x :: r := by
    cases h : m.text with
    | nil => rw [h] at htl; simp at htl
    | cons x r => exact ⟨x, r, rfl⟩
  obtain ⟨f0, fr, hxf⟩ : ∃ x r, m.funcs = x :: r := by
    cases h : m.funcs with
    | nil => rw [h] at hfl; simp at hfl
    | cons x r => exact ⟨x, r, rfl⟩
  have cellT : w5.cell? ⟨gT, 0, none⟩ = some (.int .u8 x0) := by have := HC5.out.text.cells (g := gT) rfl 0 (.int .u8 x0) (by rw [hxt]; rfl); simpa [Addr.add_lit] using this
  have cellF : w5.cell? ⟨gF, 0, none⟩ = some (.string f0.name) := by have := HC5.out.funcs.cells (g := gF) rfl 0 (.string f0.name) (by rw [hxf]; rfl); simpa [Addr.add_lit] using this
  have cellD : w5.cell? ⟨gD, 0, none⟩ = some (.int .i64 5) := by have := HC5.out.data.cells (g := gD) rfl 0 (.int .i64 5) (by rw [HM.out.data]; rfl); simpa [Addr.add_lit] using this
  have frT : w5.frozen? ⟨gT, 0, none⟩ = false := by simp [World.frozen?, kT3]
  clear hxt hxf
  obtain ⟨y0, y1, y2, y3, y4, y5⟩ := img_six HY5.out
  have e1 : ((m.text.length : Int) == 0) = false := by rw [beq_eq_false_iff_ne]; omega
  have e2 : ((m.funcs.length : Int) == 0) = false := by rw [beq_eq_false_iff_ne]; omega
  have e3 : ((m.data.length : Int) == 0) = false := by rw [HM.out.data]; rfl
  have l1 : (0 : Int) < (m.text.length : Int) := by omega
  have l2 : (0 : Int) < (m.funcs.length : Int) := by omega
  have l3 : (0 : Int) < (m.data.length : Int) := by rw [HM.out.data]; decide
  go_upto_region 7 with fail
  generalize hw6 : World.setCell w5 ⟨gT, 0, none⟩ _ = w6
  have K6 : ∀ k, k ≠ gT → w6.heap[k]? = w5.heap[k]? := fun k hk => by rw [← hw6]; exact heap_setCell_other _ _ _ _ hk
  have B6 : Below w2.heap.size w5 w6 := by rw [← hw6]; exact (Below.refl _ _).setCell (p := ⟨gT, 0, none⟩) kT1 _
  have z6 : w5.heap.size ≤ w6.heap.size := B6.size
  have HY6 := hid ((K6 _ nT3).trans HY5.out)
  have kF6 := (K6 gF (Ne.symm nTF)).trans kF3
  have kD6 := (K6 gD (Ne.symm nTD)).trans kD3
  have cellF6 : w6.cell? ⟨gF, 0, none⟩ = some (.string f0.name) := (World.cell?_of_block (a := ⟨gF, 0, none⟩) (K6 gF (Ne.symm nTF))).trans cellF
  have cellD6 : w6.cell? ⟨gD, 0, none⟩ = some (.int .i64 5) := (World.cell?_of_block (a := ⟨gD, 0, none⟩) (K6 gD (Ne.symm nTD))).trans cellD
  have frF6 : w6.frozen? ⟨gF, 0, none⟩ = false := by simp [World.frozen?, kF6]
  have HUB6 := hid (row_same HUB5.out fun k hk => K6 k (by
    rintro rfl
    obtain ⟨_, cur, h⟩ := row_block HUB5.out hk
    rw [kT3] at h; simp at h))
  clear hw6 y0 y1 y2 y3 y4 y5 cellT cellF cellD frT
  obtain ⟨y0, y1, y2, y3, y4, y5⟩ := img_six HY6.out
  go_upto_region 8 with fail
  generalize hw7 : World.setCell w6 ⟨gF, 0, none⟩ _ = w7
  have K7 : ∀ k, k ≠ gF → w7.heap[k]? = w6.heap[k]? := fun k hk => by rw [← hw7]; exact heap_setCell_other _ _ _ _ hk
  have B7 : Below w2.heap.size w6 w7 := by rw [← hw7]; exact (Below.refl _ _).setCell (p := ⟨gF, 0, none⟩) kF1 _
  have z7 : w6.heap.size ≤ w7.heap.size := B7.size
  have HY7 := hid ((K7 _ nF3).trans HY6.out)
  have kD7 := (K7 gD (Ne.symm nFD)).trans kD6
  have cellD7 : w7.cell? ⟨gD, 0, none⟩ = some (.int .i64 5) := (World.cell?_of_block (a := ⟨gD, 0, none⟩) (K7 gD (Ne.symm nFD))).trans cellD6
  have frD7 : w7.frozen? ⟨gD, 0, none⟩ = false := by simp [World.frozen?, kD7]
  have HUB7 := hid (row_same HUB6.out fun k hk => K7 k (by
    rintro rfl
    obtain ⟨_, cur, h⟩ := row_block HUB6.out hk
    rw [kF6] at h; simp at h))
  clear hw7 y0 y1 y2 y3 y4 y5 cellF6 cellD6 frF6
  obtain ⟨y0, y1, y2, y3, y4, y5⟩ := img_six HY7.out
  go_upto_region 9 with fail
  generalize hw8 : World.setCell w7 ⟨gD, 0, none⟩ _ = w8
  have K8 : ∀ k, k ≠ gD → w8.heap[k]? = w7.heap[k]? := fun k hk => by rw [← hw8]; exact heap_setCell_other _ _ _ _ hk
  have B8 : Below w2.heap.size w7 w8 := by rw [← hw8]; exact (Below.refl _ _).setCell (p := ⟨gD, 0, none⟩) kD1 _
  have z8 : w7.heap.size ≤ w8.heap.size := B8.size
  have HY8 := hid ((K8 _ nD3).trans HY7.out)
  have HUB8 := hid (row_same HUB7.out fun k hk => K8 k (by
    rintro rfl
    obtain ⟨_, cur, h⟩ := row_block HUB7.out hk
    rw [kD7] at h; simp at h))
  clear hw8 y0 y1 y2 y3 y4 y5 cellD7 frD7
  obtain ⟨y0, y1, y2, y3, y4, y5⟩ := img_six HY8.out
  have hul : ub.length ≤ 100000 := by
    have := HUB8.out.1
    have h9 := HM.out.may.nt
    obtain ⟨u2, g1, g2, -⟩ := HC5.out.tables
    obtain ⟨a9, c9, e9⟩ := orow_form' g1
    have : ub.length = u2.length := by simpa using (Value.slice.inj e9).2.1
    omega
  obtain ⟨v9, W9, r1, r2, gr⟩ := orow_apps 26 25 1 24 _ Tryd.underlying25 inInts1 rfl (by decide) (row_up HUB8.out ((Below.refl w8.heap.size w8).alloc (Nat.le_refl _) (.cells #[.slice none 0 0] 26))) (by simp; omega) w8.heap.size 0 1 1 [.slice none 0 0] rfl (fun j u hj => by
    rw [World.cell?_alloc_new, Nat.zero_add]
    rcases j with _ | j
    · simpa using hj
    · simp at hj) (by intro u hu; simp at hu; subst hu; rfl) (by omega) (by unfold maxLen; omega)
  obtain ⟨a9, c9, rfl⟩ := orow_form' r2
  have h38 : w3.heap.size < w8.heap.size := by omega
  obtain ⟨i2, k1, k2, i3, -⟩ := img_grow (o := 2) ((heap_alloc_old _ _ h38).trans HY8.out) (row_up HUB8.out ((Below.refl w8.heap.size w8).alloc (Nat.le_refl _) (.cells #[.slice none 0 0] 26))) gr r2 (by decide)
  have HR1 := hid r1
  have f9 : W9.frozen? ⟨w3.heap.size, 2, none⟩ = false := by simp [World.frozen?, i2]
  have q9 : W9.cell? ⟨w3.heap.size, 2, none⟩ = some (.slice aB' ub.length cB') := by simp [World.cell?, i2]
  have b9 := obelow_grown (C := w2.heap.size) (row_up HUB8.out ((Below.refl w8.heap.size w8).alloc (Nat.le_refl _) (.cells #[.slice none 0 0] 26))) gr (Nat.le_refl _) (by simp; omega)
  obtain ⟨w10, hw10⟩ : ∃ w, W9.setCell ⟨w3.heap.size, 2, none⟩ (.slice a9 (ub.length + 1) c9) = w := ⟨_, rfl⟩
  have HW10 := hid hw10
  have B10 : Below w2.heap.size w2 w10 := by
    rw [← hw10]
    exact (HB4.out.trans (HB5.out.mono (by omega))).trans (B6.trans (B7.trans (B8.trans ((((Below.refl w8.heap.size w8).alloc (Nat.le_refl _) (.cells #[.slice none 0 0] 26)).mono (by omega)).trans (b9.setCell (p := ⟨w3.heap.size, 2, none⟩) hz3 _)))))
  have HOB : Hid (Own w10 B5 (.slice a5 (encImg m).length c5) (encImg m)) := HO5.out.same fun k hk => by
    obtain ⟨h1, cur, fr', h2⟩ := HO5.out.block hk
    have h3 := (Array.getElem?_eq_some_iff.1 h2).1
    rw [← hw10, heap_setCell_other _ _ _ _ (by show k ≠ w3.heap.size; omega), gr.block k (by simp; omega) (by
      intro h
      obtain ⟨_, cur2, h4⟩ := row_block (row_up HUB8.out ((Below.refl w8.heap.size w8).alloc (Nat.le_refl _) (.cells #[.slice none 0 0] 26))) h.symm
      rw [heap_alloc_old _ _ (by omega), K8 k (by omega), K7 k (by omega), K6 k (by omega), h2] at h4
      simp at h4), heap_alloc_old _ _ (by omega), K8 k (by omega), K7 k (by omega), K6 k (by omega)]
  have HB10 := hid B10
  have hz10 : w2.heap.size ≤ w10.heap.size := B10.size
  have HX10 := hid ((B10.block _ hgl).trans HX2.out)
  clear r1 r2 gr i2 k1 k2 i3 b9 B10 hw10 B6 B7 B8 K6 K7 K8
  go_upto_region 10 with (first | (at_builtin; refine wpList_append_pair _ rfl (.tmp 51) (.tmp 52) 25 25 rfl _ _ rfl rfl HR1.out ?_))
  rw [HW10.out]
  clear HW10 HR1 f9 q9 y0 y1 y2 y3 y4 y5
  obtain ⟨s0, s1, s2, s3, s4, s5⟩ := img_six HX10.out
  go_wp2_with fail
  refine Calls.mono (EN.out _ HB10.out) ?_
  rintro e w11 ⟨a11, c11, rfl, ⟨B11, hB11, ho11⟩, hb11⟩
  have hlen := encImg_le m HM.out.may
  have cn1 := conv_list ((HOB.out.list (by unfold maxLen; omega)).stays (Nat.le_refl _) hb11)
  have cn2 := conv_list (ho11.list (by unfold maxLen; omega))
  have HBF : Hid (Below w.heap.size w w11) := HB.out.trans ((HB2.out.trans ((HB10.out.trans (hb11.mono hz10)).mono (by omega))).mono hz)
  clear ho11 hb11 hlen
  go_wp2_with fail
  go_ret
  exact ⟨by simp, HBF.out⟩
end Go.Proofs.YtechpdfcgimkkaaDoor
