/-
  The reader's image: the walk.
-/
import Derived.Test.YtmibbjjfijcgpacWalkRm
namespace Go.Proofs.Ytmibbjjfijcgpac
open Go.RowKit Go.Joins
set_option maxHeartbeats 8000000 in
theorem image_any (B g : Nat) (r : Rd) (w : World) (h : RdAt w B g r) :
    Calls Try.prog 30 #[.pointer (some ⟨g, 0, none⟩)] w fun e w' =>
      ∃ vT vF vB vD vL, e = .returned (.agg #[vT, vF, vB, vD, vL, .int .i64 (rdImg r).1.entry]) ∧ RdAt w' B g (rdImg r).2 ∧ ImgNew w' w.heap.size vT vF vB vD vL (rdImg r).1 ∧ FrG g w w' := by
  have HR : Hid (RdAt w B g r) := h
  have hgl := h.lt
  have hgB := h.ge
  obtain ⟨ra, r1, r2, r3, r4, r5, r6, r7, r8, r9, r10, n, nf, nt, nd, nl, xs, fs, z, en, ts, ds, ls, ⟨e1, e2, e3, e4, e5, e6, e7, e8, e9, e10, e11⟩, b1, b2, b3, b4, b5, b6, z1, z2, z3, z4, z5⟩ := rdImg_all r h.bytes
  have HE : Hid (rdImg r = (⟨xs, fs, ts, ds, ls, en⟩, r10)) := rdImg_parts e1 e2 e3 e4 e5 e6 e7 e8 e9 e10 e11
  have E1 : Hid _ := e1
  have E2 : Hid _ := e2
  have E3 : Hid _ := e3
  have E4 : Hid _ := e4
  have E5 : Hid _ := e5
  have E6 : Hid _ := e6
  have E7 : Hid _ := e7
  have E8 : Hid _ := e8
  have E9 : Hid _ := e9
  have E10 : Hid _ := e10
  have E11 : Hid _ := e11
  have Z1 : Hid _ := z1
  have Z2 : Hid _ := z2
  have Z3 : Hid _ := z3
  have Z4 : Hid _ := z4
  have Z5 : Hid _ := z5
  clear h e1 e2 e3 e4 e5 e6 e7 e8 e9 e10 e11 z1 z2 z3 z4 z5
  rw [HE.out]
  go_enter Try.func30, Try.ntmps30
  go_wp2_with fail
  obtain ⟨W, hW⟩ : ∃ W, (((w.alloc (.cells #[.pointer (some ⟨g, 0, none⟩)] 70)).alloc (.cells #[.slice none 0 0, .slice none 0 0, .slice none 0 0, .slice none 0 0, .slice none 0 0, .int .i64 0] 28)).alloc (.cells #[.slice none 0 0, .slice none 0 0, .slice none 0 0, .slice none 0 0, .slice none 0 0, .int .i64 0] 28)) = W := ⟨_, rfl⟩
  have I0 : Im w B g W r (.slice none 0 0) (.slice none 0 0) (.slice none 0 0) (.slice none 0 0) (.slice none 0 0) (.int .i64 0) := by
    subst hW
    obtain ⟨y1, y2, y3⟩ := a_three w (.cells #[.pointer (some ⟨g, 0, none⟩)] 70) (.cells #[.slice none 0 0, .slice none 0 0, .slice none 0 0, .slice none 0 0, .slice none 0 0, .int .i64 0] 28) (.cells #[.slice none 0 0, .slice none 0 0, .slice none 0 0, .slice none 0 0, .slice none 0 0, .int .i64 0] 28)
    exact ⟨((HR.out.alloc _).alloc _).alloc _, y1, y2, y3, (((FrG.refl g w).alloc _).alloc _).alloc _, hgl⟩
  rw [hW]
  rw [show w.heap.size + 1 + 1 = w.heap.size + 2 from rfl]
  have HI0 : Hid _ := I0
  have p0 := I0.ptr
  clear hW I0
  have tlm : 1 * xs.length ≤ 281474976710656 := by omega
  go_region_with
    (first
      | (go_at_call 42; refine (HI0.out.drew.num E1.out (by decide)).mono ?_; rintro e w1 ⟨rfl, I1, _⟩; have p1 := I1.ptr)
      | (go_at_call 41; refine (I1.take E2.out (by omega)).mono ?_; rintro e w2 ⟨v2, rfl, I2, hl2, _⟩)
      | (go_at_call 19; refine (copyByte_any v2 _ w2 hl2 tlm).mono ?_; rintro e w3 ⟨rfl, hw3⟩; have I3 := I2.made hw3; obtain ⟨c0, _, _, _, _, _⟩ := I3.cells; have f0 := I3.frozen 0; have HI3 : Hid _ := I3; have HW3 : Hid _ := hw3; clear hw3 I3))
  all_goals
    have HT : Hid (w3.heap[w2.heap.size]? = some (.cells (flat ucell xs).toArray 5)) := by show _ = _; rw [HW3.out]; exact a_new _ _
    have hT1 : w.heap.size + 2 < w2.heap.size := I2.lt
    have I4 := HI3.out.put0 (.slice (some ⟨w2.heap.size, 0, none⟩) xs.length xs.length)
    obtain ⟨u3, hu3⟩ : ∃ u3, w3.setCell ⟨w.heap.size + 2, 0, none⟩ (.slice (some ⟨w2.heap.size, 0, none⟩) xs.length xs.length) = u3 := ⟨_, rfl⟩
    have F3 : Hid (Fr2 g (w.heap.size + 2) w3 u3) := by show Fr2 _ _ _ _; rw [← hu3]; exact (Fr2.refl _ _ _).set (Or.inr rfl) _
    rw [hu3] at I4
    rw [hu3]
    obtain ⟨vT, hvT⟩ : ∃ vT, Value.slice (some ⟨w2.heap.size, 0, none⟩) xs.length xs.length = vT := ⟨_, rfl⟩
    rw [hvT] at I4
    rw [hvT]
    have HvT : Hid _ := hvT
    have HI4 : Hid _ := I4
    have p4 := I4.ptr
    have q4 : w.heap.size < u3.heap.size := by have := I4.lt; omega
    have q4b : w.heap.size + 2 < u3.heap.size := I4.lt
    clear c0 f0 hu3 hvT I4 I1 I2 p0 p1 hl2 HI0
    go_wp2_with fail
    refine ((HI4.out.made rfl).num E3.out (by decide)).mono ?_
    rintro e w5 ⟨rfl, I5, o5⟩
    have he5 : w5.heap[u3.heap.size]? = some (.cells #[.int .i64 0] 3) := (o5.block _ (by omega)).trans (a_new _ _)
    have HE5 : Hid _ := he5
    have HI5 : Hid _ := I5
    have F5 : Hid (Fr2 g (w.heap.size + 2) w3 w5) := F3.out.trans (FrG.trans ((FrG.refl g u3).alloc _) o5.fr).two
    have p5 := I5.ptr
    have l35 : w3.heap.size ≤ u3.heap.size := F3.out.size
    have q5 : u3.heap.size < w5.heap.size := (Array.getElem?_eq_some_iff.1 he5).1
    clear he5 I5 o5 p4 F3 HI4
    go_wp2_with fail
    refine (HI5.out.funcs E4.out (by omega) HE5.out (by omega)).mono ?_
    rintro e w6 ⟨rfl, I6, hF, o6⟩
    have HF : Hid _ := hF
    have F6 : Hid (Fr2 g (w.heap.size + 2) w3 w6) := F5.out.via o6 (by omega)
    obtain ⟨_, c1, _, _, _, _⟩ := I6.cells
    have f1 := I6.frozen 1
    have p6 := I6.ptr
    have HI6 : Hid _ := I6
    clear hF o6 I6 p5 HI5 HE5 F5
    go_wp2_with fail
    have l56 : w.heap.size + 2 < w5.heap.size := by omega
    have G6 : Hid (Fr2 g (w.heap.size + 2) w6 (w6.setCell ⟨w.heap.size + 2, 1, none⟩ (.slice (some ⟨w5.heap.size, 0, none⟩) nf nf))) := (Fr2.refl _ _ _).set (Or.inr rfl) _
    refine ((HI6.out.put1 (.slice (some ⟨w5.heap.size, 0, none⟩) nf nf)).num E5.out (by decide)).mono ?_
    rintro e w7 ⟨rfl, I7, o7⟩
    have G7 : Hid (Fr2 g (w.heap.size + 2) w6 w7) := G6.out.trans o7.fr.two
    obtain ⟨_, _, _, _, _, c5⟩ := I7.cells
    have f5 := I7.frozen 5
    have p7 := I7.ptr
    have HI7 : Hid _ := I7
    clear o7 I7 p6 c1 f1 HI6 G6
    go_wp2_with fail
    have G8 : Hid (Fr2 g (w.heap.size + 2) w6 (w7.setCell ⟨w.heap.size + 2, 5, none⟩ (.int .i64 en))) := G7.out.set (Or.inr rfl) _
    refine ((HI7.out.put5 (.int .i64 en)).num E6.out (by decide)).mono ?_
    rintro e w8 ⟨rfl, I8, o8⟩
    have G9 : Hid (Fr2 g (w.heap.size + 2) w6 w8) := G8.out.trans o8.fr.two
    have p8 := I8.ptr
    have HI8 : Hid _ := I8
    have l8 : w.heap.size + 2 < w8.heap.size := I8.lt
    clear o8 I8 p7 c5 f5 HI7 G7 G8
    go_wp2_with fail
    refine (HI8.out.tabs E7.out (by omega)).mono ?_
    rintro e w9 ⟨rfl, I9, o9, us, hus, hB, hin⟩
    have HB : Hid _ := hB
    have HIN : Hid _ := hin
    have HUS : Hid _ := hus
    have G10 : Hid (Fr2 g (w.heap.size + 2) w6 w9) := G9.out.trans o9.two
    obtain ⟨_, _, c2, _, _, _⟩ := I9.cells
    have f2 := I9.frozen 2
    have p9 := I9.ptr
    have HI9 : Hid _ := I9
    clear hB hin hus o9 I9 p8 HI8 G9
    go_wp2_with fail
    have K10 : Hid (Fr2 g (w.heap.size + 2) w9 (w9.setCell ⟨w.heap.size + 2, 2, none⟩ (.slice (some ⟨w8.heap.size, 0, none⟩) nt nt))) := (Fr2.refl _ _ _).set (Or.inr rfl) _
    refine ((HI9.out.put2 (.slice (some ⟨w8.heap.size, 0, none⟩) nt nt)).num E8.out (by decide)).mono ?_
    rintro e w10 ⟨rfl, I10, o10⟩
    have K11 : Hid (Fr2 g (w.heap.size + 2) w9 w10) := K10.out.trans o10.fr.two
    have p10 := I10.ptr
    have HI10 : Hid _ := I10
    have l10 : w.heap.size + 2 < w10.heap.size := I10.lt
    clear o10 I10 p9 c2 f2 HI9 K10
    go_wp2_with fail
    refine (HI10.out.datas E9.out (by omega)).mono ?_
    rintro e w11 ⟨rfl, I11, hD, o11⟩
    have HD : Hid _ := hD
    have K12 : Hid (Fr2 g (w.heap.size + 2) w9 w11) := K11.out.trans o11.two
    obtain ⟨_, _, _, c3, _, _⟩ := I11.cells
    have f3 := I11.frozen 3
    have p11 := I11.ptr
    have HI11 : Hid _ := I11
    clear hD o11 I11 p10 HI10 K11
    go_wp2_with fail
    have M12 : Hid (Fr2 g (w.heap.size + 2) w11 (w11.setCell ⟨w.heap.size + 2, 3, none⟩ (.slice (some ⟨w10.heap.size, 0, none⟩) nd nd))) := (Fr2.refl _ _ _).set (Or.inr rfl) _
    refine ((HI11.out.put3 (.slice (some ⟨w10.heap.size, 0, none⟩) nd nd)).num E10.out (by decide)).mono ?_
    rintro e w12 ⟨rfl, I12, o12⟩
    have M13 : Hid (Fr2 g (w.heap.size + 2) w11 w12) := M12.out.trans o12.fr.two
    have p12 := I12.ptr
    have HI12 : Hid _ := I12
    have l12 : w.heap.size + 2 < w12.heap.size := I12.lt
    clear o12 I12 p11 c3 f3 HI11 M12
    go_wp2_with fail
    refine (HI12.out.lines E11.out (by omega)).mono ?_
    rintro e w13 ⟨rfl, I13, hL, o13⟩
    have HL : Hid _ := hL
    have M14 : Hid (Fr2 g (w.heap.size + 2) w11 w13) := M13.out.trans o13.two
    obtain ⟨c0, c1, c2, c3, c4, c5⟩ := I13.cells
    have f4 := I13.frozen 4
    have br := I13.br
    have HI13 : Hid _ := I13
    clear hL o13 I13 p12 HI12 M13
    have x0 : w13.cell? ⟨w.heap.size + 1, 0, none⟩ = some (.slice none 0 0) := by simp [World.cell?, br]
    have x1 : w13.cell? ⟨w.heap.size + 1, 1, none⟩ = some (.slice none 0 0) := by simp [World.cell?, br]
    have x2 : w13.cell? ⟨w.heap.size + 1, 2, none⟩ = some (.slice none 0 0) := by simp [World.cell?, br]
    have x3 : w13.cell? ⟨w.heap.size + 1, 3, none⟩ = some (.slice none 0 0) := by simp [World.cell?, br]
    have x4 : w13.cell? ⟨w.heap.size + 1, 4, none⟩ = some (.slice none 0 0) := by simp [World.cell?, br]
    have x5 : w13.cell? ⟨w.heap.size + 1, 5, none⟩ = some (.int .i64 0) := by simp [World.cell?, br]
    have yy : ∀ o, w13.frozen? ⟨w.heap.size + 1, o, none⟩ = false := fun o => by simp [World.frozen?, br]
    have y0 := yy 0; have y1 := yy 1; have y2 := yy 2; have y3 := yy 3; have y4 := yy 4; have y5 := yy 5
    clear yy br
    have hvT := HvT.out
    clear HvT
    subst hvT
    have HJ : Hid _ := HI13.out.put4 (.slice (some ⟨w12.heap.size, 0, none⟩) nl nl)
    go_wp2_with fail
    obtain ⟨hz1, hz2, hz3, hz4⟩ := HJ.out.last
    obtain ⟨Z, hZ⟩ : ∃ Z, ((((((w13.setCell ⟨w.heap.size + 2, 4, none⟩ (.slice (some ⟨w12.heap.size, 0, none⟩) nl nl)).setCell ⟨w.heap.size + 1, 0, none⟩ (.slice (some ⟨w2.heap.size, 0, none⟩) xs.length xs.length)).setCell ⟨w.heap.size + 1, 1, none⟩ (.slice (some ⟨w5.heap.size, 0, none⟩) nf nf)).setCell ⟨w.heap.size + 1, 2, none⟩ (.slice (some ⟨w8.heap.size, 0, none⟩) nt nt)).setCell ⟨w.heap.size + 1, 3, none⟩ (.slice (some ⟨w10.heap.size, 0, none⟩) nd nd)).setCell ⟨w.heap.size + 1, 4, none⟩ (.slice (some ⟨w12.heap.size, 0, none⟩) nl nl)).setCell ⟨w.heap.size + 1, 5, none⟩ (.int .i64 en) = Z := ⟨_, rfl⟩
    rw [hZ] at hz1 hz2 hz3 hz4
    rw [hZ]
    have d0 : Z.cell? ⟨w.heap.size + 1, 0, none⟩ = some (.slice (some ⟨w2.heap.size, 0, none⟩) xs.length xs.length) := by simp [World.cell?, hz1]
    have d1 : Z.cell? ⟨w.heap.size + 1, 1, none⟩ = some (.slice (some ⟨w5.heap.size, 0, none⟩) nf nf) := by simp [World.cell?, hz1]
    have d2 : Z.cell? ⟨w.heap.size + 1, 2, none⟩ = some (.slice (some ⟨w8.heap.size, 0, none⟩) nt nt) := by simp [World.cell?, hz1]
    have d3 : Z.cell? ⟨w.heap.size + 1, 3, none⟩ = some (.slice (some ⟨w10.heap.size, 0, none⟩) nd nd) := by simp [World.cell?, hz1]
    have d4 : Z.cell? ⟨w.heap.size + 1, 4, none⟩ = some (.slice (some ⟨w12.heap.size, 0, none⟩) nl nl) := by simp [World.cell?, hz1]
    have d5 : Z.cell? ⟨w.heap.size + 1, 5, none⟩ = some (.int .i64 en) := by simp [World.cell?, hz1]
    have hq : ∀ k o, k ≠ w.heap.size + 1 → k ≠ w.heap.size + 2 → w13.heap[k]? = some o → Z.heap[k]? = some o := fun k o k1 k2 hk => (hz4 k k1).trans ((heap_setCell_other _ _ _ _ (by simpa using k2)).trans hk)
    have l9 : w.heap.size + 2 < w9.heap.size := by have := (Array.getElem?_eq_some_iff.1 HB.out).1; omega
    have bT := hq _ _ (by omega) (by omega) (M14.out.at (K12.out.at (G10.out.at (F6.out.at HT.out (by omega) (by omega)) (by omega) (by omega)) (by omega) (by omega)) (by omega) (by omega))
    have bF := hq _ _ (by omega) (by omega) (M14.out.at (K12.out.at (G10.out.at HF.out (by omega) (by omega)) (by omega) (by omega)) (by omega) (by omega))
    have bB := hq _ _ (by omega) (by omega) (M14.out.at (K12.out.at HB.out (by omega) (by omega)) (by omega) (by omega))
    have bD := hq _ _ (by omega) (by omega) (M14.out.at HD.out (by omega) (by omega))
    have bL := hq _ _ (by omega) (by omega) HL.out
    have z1 := Z1.out
    have z2 := Z2.out
    have z3 := Z3.out
    have z4 := Z4.out
    have hus := HUS.out
    have m0 : xs.length ≤ maxLen := by unfold maxLen; omega
    have m1 : fs.length ≤ maxLen := by unfold maxLen; omega
    have m3 : ds.length ≤ maxLen := by unfold maxLen; omega
    have m4 : ls.length ≤ maxLen := by unfold maxLen; omega
    have hI : ImgNew Z w.heap.size (.slice (some ⟨w2.heap.size, 0, none⟩) xs.length xs.length) (.slice (some ⟨w5.heap.size, 0, none⟩) nf nf) (.slice (some ⟨w8.heap.size, 0, none⟩) nt nt) (.slice (some ⟨w10.heap.size, 0, none⟩) nd nd) (.slice (some ⟨w12.heap.size, 0, none⟩) nl nl) ⟨xs, fs, ts, ds, ls, en⟩ := by
      intro wz hwz
      have hq2 : ∀ k o, w.heap.size ≤ k → Z.heap[k]? = some o → wz.heap[k]? = some o := fun k o k1 hk => (hwz k k1 (Array.getElem?_eq_some_iff.1 hk).1).trans hk
      refine ⟨list_block ucell_len (hq2 _ _ (by omega) bT) rfl m0, list_block fcell_len (hq2 _ _ (by omega) bF) z1.symm m1, ⟨us, list_block vcell_len (hq2 _ _ (by omega) bB) hus.symm (by unfold maxLen; omega), by rw [hus]; exact z2.symm, fun j u t hu ht => ?_⟩, list_block icell_len (hq2 _ _ (by omega) bD) z3.symm m3, list_block lcell_len (hq2 _ _ (by omega) bL) z4.symm m4⟩
      obtain ⟨bb, rfl, hb1, hb2⟩ := HIN.out j u t hu ht
      have h5 := Z5.out t (List.mem_of_getElem? ht)
      exact list_block icell_len (hq2 _ _ (by omega) (hq _ _ (by omega) (by omega) (M14.out.at (K12.out.at hb2 (by omega) (by omega)) (by omega) (by omega)))) rfl (by unfold maxLen; omega)
    exact bodyPost_ret (v := .agg #[.slice (some ⟨w2.heap.size, 0, none⟩) xs.length xs.length, .slice (some ⟨w5.heap.size, 0, none⟩) nf nf, .slice (some ⟨w8.heap.size, 0, none⟩) nt nt, .slice (some ⟨w10.heap.size, 0, none⟩) nd nd, .slice (some ⟨w12.heap.size, 0, none⟩) nl nl, .int .i64 en]) (by simp [results, Try.results30, go_sem, d0, d1, d2, d3, d4, d5]) rfl ⟨_, _, _, _, _, rfl, hz2, hI, hz3⟩
end Go.Proofs.Ytmibbjjfijcgpac
