/-
  The reader's image: the walk.
-/
import Derived.Test.YtechpdfcgimkkaaDoorMNDC
import Derived.Test.YtechpdfcgimkkaaDoorMCC
import Derived.Deep.QuietTactic
import Derived.Test.YtechpdfcgimkkaaDoorMQC
namespace Go.Proofs.YtechpdfcgimkkaaDoor
open Go.RowKit Go.Joins
set_option maxRecDepth 100000
set_option maxHeartbeats 8000000 in
theorem image_any (B g : Nat) (r : Rd) (w : World) (h : RdAt w B g r) :
    Calls Tryd.prog 42 #[.pointer (some ⟨g, 0, none⟩)] w fun e w' =>
      ∃ vT vF vB vD vL, e = .returned (.agg #[vT, vF, vB, vD, vL, .int .i64 (rdImg r).1.entry]) ∧ RdAt w' B g (rdImg r).2 ∧ ImgNew w' w.heap.size vT vF vB vD vL (rdImg r).1 ∧ FrG g w w' := by
  have HR : Hid (RdAt w B g r) := h
  have hgl := h.lt
  have hgB := h.ge
  obtain ⟨ra, r1, r2, r3, r4, r5, r6, r7, r8, r9, r10, n, nf, nt, nd, nl, xs, fs, z, en, ts, ds, ls, ⟨e1, e2, e3, e4, e5, e6, e7, e8, e9, e10, e11⟩, b1, b2, b3, b4, b5, b6, z1, z2, z3, z4, z5⟩ := rdImg_all r h.bytes
  have HE : Hid (rdImg r = (⟨xs, fs, ts, ds, ls, en⟩, r10)) := rdImg_parts e1 e2 e3 e4 e5 e6 e7 e8 e9 e10 e11
  have E1 : Hid _ := e1
  have E2 : Hid _ := e2
  have E3 : Hid _ := e3
  have E4 : Hid _ := e4
  have E5 : Hid _ := e5
  have E6 : Hid _ := e6
  have E7 : Hid _ := e7
  have E8 : Hid _ := e8
  have E9 : Hid _ := e9
  have E10 : Hid _ := e10
  have E11 : Hid _ := e11
  have Z1 : Hid _ := z1
  have Z2 : Hid _ := z2
  have Z3 : Hid _ := z3
  have Z4 : Hid _ := z4
  have Z5 : Hid _ := z5
  clear h e1 e2 e3 e4 e5 e6 e7 e8 e9 e10 e11 z1 z2 z3 z4 z5
  rw [HE.out]
  go_enter Tryd.func42, Tryd.ntmps42
  go_wp2_with fail
  obtain ⟨W, hW⟩ : ∃ W, (((w.alloc (.cells #[.pointer (some ⟨g, 0, none⟩)] 122)).alloc (.cells #[.slice none 0 0, .slice none 0 0, .slice none 0 0, .slice none 0 0, .slice none 0 0, .int .i64 0] 29)).alloc (.cells #[.slice none 0 0, .slice none 0 0, .slice none 0 0, .slice none 0 0, .slice none 0 0, .int .i64 0] 29)) = W := ⟨_, rfl⟩
  have I0 : Im w B g W r (.slice none 0 0) (.slice none 0 0) (.slice none 0 0) (.slice none 0 0) (.slice none 0 0) (.int .i64 0) := by
    subst hW
    obtain ⟨y1, y2, y3⟩ := a_three w (.cells #[.pointer (some ⟨g, 0, none⟩)] 122) (.cells #[.slice none 0 0, .slice none 0 0, .slice none 0 0, .slice none 0 0, .slice none 0 0, .int .i64 0] 29) (.cells #[.slice none 0 0, .slice none 0 0, .slice none 0 0, .slice none 0 0, .slice none 0 0, .int .i64 0] 29)
    exact ⟨((HR.out.alloc _).alloc _).alloc _, y1, y2, y3, (((FrG.refl g w).alloc _).alloc _).alloc _, hgl⟩
  rw [hW]
  rw [show w.heap.size + 1 + 1 = w.heap.size + 2 from rfl]
  have HI0 : Hid _ := I0
  have p0 := I0.ptr
  clear hW I0
  have tlm : 1 * xs.length ≤ 281474976710656 := by omega
  go_region_with
    (first
      | (go_at_call 76; refine (HI0.out.drew.num E1.out (by decide)).mono ?_; rintro e w1 ⟨rfl, I1, _⟩; have p1 := I1.ptr)
      | (go_at_call 75; refine (I1.take E2.out (by omega)).mono ?_; rintro e w2 ⟨v2, rfl, I2, hl2, _⟩)
      | (go_at_call 52; refine (copyByte_any v2 _ w2 hl2 tlm).mono ?_; rintro e w3 ⟨rfl, hw3⟩; have I3 := I2.made hw3; obtain ⟨c0, _, _, _, _, _⟩ := I3.cells; have f0 := I3.frozen 0; have HI3 : Hid _ := I3; have HW3 : Hid _ := hw3; clear hw3 I3))
  all_goals
    have HT : Hid (w3.heap[w2.heap.size]? = some (.cells (flat ucell xs).toArray 5)) := by show _ = _; rw [HW3.out]; exact a_new _ _
    have hT1 : w.heap.size + 2 < w2.heap.size := I2.lt
    have I4 := HI3.out.put0 (.slice (some ⟨w2.heap.size, 0, none⟩) xs.length xs.length)
    obtain ⟨u3, hu3⟩ : ∃ u3, w3.setCell ⟨w.heap.size + 2, 0, none⟩ (.slice (some ⟨w2.heap.size, 0, none⟩) xs.length xs.length) = u3 := ⟨_, rfl⟩
    have F3 : Hid (Fr2 g (w.heap.size + 2) w3 u3) := by show Fr2 _ _ _ _; rw [← hu3]; exact (Fr2.refl _ _ _).set (Or.inr rfl) _
    rw [hu3] at I4
    rw [hu3]
    obtain ⟨vT, hvT⟩ : ∃ vT, Value.slice (some ⟨w2.heap.size, 0, none⟩) xs.length xs.length = vT := ⟨_, rfl⟩
    rw [hvT] at I4
    rw [hvT]
    have HvT : Hid _ := hvT
    have HI4 : Hid _ := I4
    have p4 := I4.ptr
    have q4 : w.heap.size < u3.heap.size := by have := I4.lt; omega
    have q4b : w.heap.size + 2 < u3.heap.size := I4.lt
    clear c0 f0 hu3 hvT I4 I1 I2 p0 p1 hl2 HI0
    go_wp2_with fail
    refine ((HI4.out.made rfl).num E3.out (by decide)).mono ?_
    rintro e w5 ⟨rfl, I5, o5⟩
    have he5 : w5.heap[u3.heap.size]? = some (.cells #[.int .i64 0] 3) := (o5.block _ (by omega)).trans (a_new _ _)
    have HE5 : Hid _ := he5
    have HI5 : Hid _ := I5
    have F5 : Hid (Fr2 g (w.heap.size + 2) w3 w5) := F3.out.trans (FrG.trans ((FrG.refl g u3).alloc _) o5.fr).two
    have p5 := I5.ptr
    have l35 : w3.heap.size ≤ u3.heap.size := F3.out.size
    have q5 : u3.heap.size < w5.heap.size := (Array.getElem?_eq_some_iff.1 he5).1
    clear he5 I5 o5 p4 F3 HI4
    go_wp2_with fail
    refine (HI5.out.funcs E4.out (by omega) HE5.out (by omega)).mono ?_
    rintro e w6 ⟨rfl, I6, hF, o6⟩
    have HF : Hid _ := hF
    have F6 : Hid (Fr2 g (w.heap.size + 2) w3 w6) := F5.out.via o6 (by omega)
    obtain ⟨_, c1, _, _, _, _⟩ := I6.cells
    have f1 := I6.frozen 1
    have p6 := I6.ptr
    have HI6 : Hid _ := I6
    clear hF o6 I6 p5 HI5 HE5 F5
    go_wp2_with fail
    have l56 : w.heap.size + 2 < w5.heap.size := by omega
    have G6 : Hid (Fr2 g (w.heap.size + 2) w6 (w6.setCell ⟨w.heap.size + 2, 1, none⟩ (.slice (some ⟨w5.heap.size, 0, none⟩) nf nf))) := (Fr2.refl _ _ _).set (Or.inr rfl) _
    refine ((HI6.out.put1 (.slice (some ⟨w5.heap.size, 0, none⟩) nf nf)).num E5.out (by decide)).mono ?_
    rintro e w7 ⟨rfl, I7, o7⟩
    have G7 : Hid (Fr2 g (w.heap.size + 2) w6 w7) := G6.out.trans o7.fr.two
    obtain ⟨_, _, _, _, _, c5⟩ := I7.cells
    have f5 := I7.frozen 5
    have p7 := I7.ptr
    have HI7 : Hid _ := I7
    clear o7 I7 p6 c1 f1 HI6 G6
    go_wp2_with fail
    have G8 : Hid (Fr2 g (w.heap.size + 2) w6 (w7.setCell ⟨w.heap.size + 2, 5, none⟩ (.int .i64 en))) := G7.out.set (Or.inr rfl) _
    refine ((HI7.out.put5 (.int .i64 en)).num E6.out (by decide)).mono ?_
    rintro e w8 ⟨rfl, I8, o8⟩
    have G9 : Hid (Fr2 g (w.heap.size + 2) w6 w8) := G8.out.trans o8.fr.two
    have p8 := I8.ptr
    have HI8 : Hid _ := I8
    have l8 : w.heap.size + 2 < w8.heap.size := I8.lt
    clear o8 I8 p7 c5 f5 HI7 G7 G8
    go_wp2_with fail
    refine (HI8.out.tabs E7.out (by omega)).mono ?_
    rintro e w9 ⟨rfl, I9, o9, us, hus, hB, hin⟩
    have HB : Hid _ := hB
    have HIN : Hid _ := hin
    have HUS : Hid _ := hus
    have G10 : Hid (Fr2 g (w.heap.size + 2) w6 w9) := G9.out.trans o9.two
    obtain ⟨_, _, c2, _, _, _⟩ := I9.cells
    have f2 := I9.frozen 2
    have p9 := I9.ptr
    have HI9 : Hid _ := I9
    clear hB hin hus o9 I9 p8 HI8 G9
    go_wp2_with fail
    have K10 : Hid (Fr2 g (w.heap.size + 2) w9 (w9.setCell ⟨w.heap.size + 2, 2, none⟩ (.slice (some ⟨w8.heap.size, 0, none⟩) nt nt))) := (Fr2.refl _ _ _).set (Or.inr rfl) _
    refine ((HI9.out.put2 (.slice (some ⟨w8.heap.size, 0, none⟩) nt nt)).num E8.out (by decide)).mono ?_
    rintro e w10 ⟨rfl, I10, o10⟩
    have K11 : Hid (Fr2 g (w.heap.size + 2) w9 w10) := K10.out.trans o10.fr.two
    have p10 := I10.ptr
    have HI10 : Hid _ := I10
    have l10 : w.heap.size + 2 < w10.heap.size := I10.lt
    clear o10 I10 p9 c2 f2 HI9 K10
    go_wp2_with fail
    refine (HI10.out.datas E9.out (by omega)).mono ?_
    rintro e w11 ⟨rfl, I11, hD, o11⟩
    have HD : Hid _ := hD
    have K12 : Hid (Fr2 g (w.heap.size + 2) w9 w11) := K11.out.trans o11.two
    obtain ⟨_, _, _, c3, _, _⟩ := I11.cells
    have f3 := I11.frozen 3
    have p11 := I11.ptr
    have HI11 : Hid _ := I11
    clear hD o11 I11 p10 HI10 K11
    go_wp2_with fail
    have M12 : Hid (Fr2 g (w.heap.size + 2) w11 (w11.setCell ⟨w.heap.size + 2, 3, none⟩ (.slice (some ⟨w10.heap.size, 0, none⟩) nd nd))) := (Fr2.refl _ _ _).set (Or.inr rfl) _
    refine ((HI11.out.put3 (.slice (some ⟨w10.heap.size, 0, none⟩) nd nd)).num E10.out (by decide)).mono ?_
    rintro e w12 ⟨rfl, I12, o12⟩
    have M13 : Hid (Fr2 g (w.heap.size + 2) w11 w12) := M12.out.trans o12.fr.two
    have p12 := I12.ptr
    have HI12 : Hid _ := I12
    have l12 : w.heap.size + 2 < w12.heap.size := I12.lt
    clear o12 I12 p11 c3 f3 HI11 M12
    go_wp2_with fail
    refine (HI12.out.lines E11.out (by omega)).mono ?_
    rintro e w13 ⟨rfl, I13, hL, o13⟩
    have HL : Hid _ := hL
    have M14 : Hid (Fr2 g (w.heap.size + 2) w11 w13) := M13.out.trans o13.two
    obtain ⟨c0, c1, c2, c3, c4, c5⟩ := I13.cells
    have f4 := I13.frozen 4
    have br := I13.br
    have HI13 : Hid _ := I13
    clear hL o13 I13 p12 HI12 M13
    have x0 : w13.cell? ⟨w.heap.size + 1, 0, none⟩ = some (.slice none 0 0) := by simp [World.cell?, br]
    have x1 : w13.cell? ⟨w.heap.size + 1, 1, none⟩ = some (.slice none 0 0) := by simp [World.cell?, br]
    have x2 : w13.cell? ⟨w.heap.size + 1, 2, none⟩ = some (.slice none 0 0) := by simp [World.cell?, br]
    have x3 : w13.cell? ⟨w.heap.size + 1, 3, none⟩ = some (.slice none 0 0) := by simp [World.cell?, br]
    have x4 : w13.cell? ⟨w.heap.size + 1, 4, none⟩ = some (.slice none 0 0) := by simp [World.cell?, br]
    have x5 : w13.cell? ⟨w.heap.size + 1, 5, none⟩ = some (.int .i64 0) := by simp [World.cell?, br]
    have yy : ∀ o, w13.frozen? ⟨w.heap.size + 1, o, none⟩ = false := fun o => by simp [World.frozen?, br]
    have y0 := yy 0; have y1 := yy 1; have y2 := yy 2; have y3 := yy 3; have y4 := yy 4; have y5 := yy 5
    clear yy br
    have hvT := HvT.out
    clear HvT
    subst hvT
    have HJ : Hid _ := HI13.out.put4 (.slice (some ⟨w12.heap.size, 0, none⟩) nl nl)
    go_wp2_with fail
    obtain ⟨hz1, hz2, hz3, hz4⟩ := HJ.out.last
    obtain ⟨Z, hZ⟩ : ∃ Z, ((((((w13.setCell ⟨w.heap.size + 2, 4, none⟩ (.slice (some ⟨w12.heap.size, 0, none⟩) nl nl)).setCell ⟨w.heap.size + 1, 0, none⟩ (.slice (some ⟨w2.heap.size, 0, none⟩) xs.length xs.length)).setCell ⟨w.heap.size + 1, 1, none⟩ (.slice (some ⟨w5.heap.size, 0, none⟩) nf nf)).setCell ⟨w.heap.size + 1, 2, none⟩ (.slice (some ⟨w8.heap.size, 0, none⟩) nt nt)).setCell ⟨w.heap.size + 1, 3, none⟩ (.slice (some ⟨w10.heap.size, 0, none⟩) nd nd)).setCell ⟨w.heap.size + 1, 4, none⟩ (.slice (some ⟨w12.heap.size, 0, none⟩) nl nl)).setCell ⟨w.heap.size + 1, 5, none⟩ (.int .i64 en) = Z := ⟨_, rfl⟩
    rw [hZ] at hz1 hz2 hz3 hz4
    rw [hZ]
    have d0 : Z.cell? ⟨w.heap.size + 1, 0, none⟩ = some (.slice (some ⟨w2.heap.size, 0, none⟩) xs.length xs.length) := by simp [World.cell?, hz1]
    have d1 : Z.cell? ⟨w.heap.size + 1, 1, none⟩ = some (.slice (some ⟨w5.heap.size, 0, none⟩) nf nf) := by simp [World.cell?, hz1]
    have d2 : Z.cell? ⟨w.heap.size + 1, 2, none⟩ = some (.slice (some ⟨w8.heap.size, 0, none⟩) nt nt) := by simp [World.cell?, hz1]
    have d3 : Z.cell? ⟨w.heap.size + 1, 3, none⟩ = some (.slice (some ⟨w10.heap.size, 0, none⟩) nd nd) := by simp [World.cell?, hz1]
    have d4 : Z.cell? ⟨w.heap.size + 1, 4, none⟩ = some (.slice (some ⟨w12.heap.size, 0, none⟩) nl nl) := by simp [World.cell?, hz1]
    have d5 : Z.cell? ⟨w.heap.size + 1, 5, none⟩ = some (.int .i64 en) := by simp [World.cell?, hz1]
    have hq : ∀ k o, k ≠ w.heap.size + 1 → k ≠ w.heap.size + 2 → w13.heap[k]? = some o → Z.heap[k]? = some o := fun k o k1 k2 hk => (hz4 k k1).trans ((heap_setCell_other _ _ _ _ (by simpa using k2)).trans hk)
    have l9 : w.heap.size + 2 < w9.heap.size := by have := (Array.getElem?_eq_some_iff.1 HB.out).1; omega
    have bT := hq _ _ (by omega) (by omega) (M14.out.at (K12.out.at (G10.out.at (F6.out.at HT.out (by omega) (by omega)) (by omega) (by omega)) (by omega) (by omega)) (by omega) (by omega))
    have bF := hq _ _ (by omega) (by omega) (M14.out.at (K12.out.at (G10.out.at HF.out (by omega) (by omega)) (by omega) (by omega)) (by omega) (by omega))
    have bB := hq _ _ (by omega) (by omega) (M14.out.at (K12.out.at HB.out (by omega) (by omega)) (by omega) (by omega))
    have bD := hq _ _ (by omega) (by omega) (M14.out.at HD.out (by omega) (by omega))
    have bL := hq _ _ (by omega) (by omega) HL.out
    have z1 := Z1.out
    have z2 := Z2.out
    have z3 := Z3.out
    have z4 := Z4.out
    have hus := HUS.out
    have m0 : xs.length ≤ maxLen := by unfold maxLen; omega
    have m1 : fs.length ≤ maxLen := by unfold maxLen; omega
    have m3 : ds.length ≤ maxLen := by unfold maxLen; omega
    have m4 : ls.length ≤ maxLen := by unfold maxLen; omega
    have hI : ImgNew Z w.heap.size (.slice (some ⟨w2.heap.size, 0, none⟩) xs.length xs.length) (.slice (some ⟨w5.heap.size, 0, none⟩) nf nf) (.slice (some ⟨w8.heap.size, 0, none⟩) nt nt) (.slice (some ⟨w10.heap.size, 0, none⟩) nd nd) (.slice (some ⟨w12.heap.size, 0, none⟩) nl nl) ⟨xs, fs, ts, ds, ls, en⟩ := by
      intro wz hwz
      have hq2 : ∀ k o, w.heap.size ≤ k → Z.heap[k]? = some o → wz.heap[k]? = some o := fun k o k1 hk => (hwz k k1 (Array.getElem?_eq_some_iff.1 hk).1).trans hk
      refine ⟨list_block ucell_len (hq2 _ _ (by omega) bT) rfl m0, list_block fcell_len (hq2 _ _ (by omega) bF) z1.symm m1, ⟨us, list_block vcell_len (hq2 _ _ (by omega) bB) hus.symm (by unfold maxLen; omega), by rw [hus]; exact z2.symm, fun j u t hu ht => ?_⟩, list_block icell_len (hq2 _ _ (by omega) bD) z3.symm m3, list_block lcell_len (hq2 _ _ (by omega) bL) z4.symm m4⟩
      obtain ⟨bb, rfl, hb1, hb2⟩ := HIN.out j u t hu ht
      have h5 := Z5.out t (List.mem_of_getElem? ht)
      exact list_block icell_len (hq2 _ _ (by omega) (hq _ _ (by omega) (by omega) (M14.out.at (K12.out.at hb2 (by omega) (by omega)) (by omega) (by omega)))) rfl (by unfold maxLen; omega)
    exact bodyPost_ret (v := .agg #[.slice (some ⟨w2.heap.size, 0, none⟩) xs.length xs.length, .slice (some ⟨w5.heap.size, 0, none⟩) nf nf, .slice (some ⟨w8.heap.size, 0, none⟩) nt nt, .slice (some ⟨w10.heap.size, 0, none⟩) nd nd, .slice (some ⟨w12.heap.size, 0, none⟩) nl nl, .int .i64 en]) (by simp [results, Tryd.results42, go_sem, d0, d1, d2, d3, d4, d5]) rfl ⟨_, _, _, _, _, rfl, hz2, hI, hz3⟩
end Go.Proofs.YtechpdfcgimkkaaDoor
/-
  image.checkMark.
-/
namespace Go.Proofs.YtechpdfcgimkkaaDoor
open Go.RowKit Go.Joins
set_option maxRecDepth 100000
/-- The mark that the bytes of an image begin with. -/
def markChk : List Int → List Int → Int
  | [], _ => 0
  | _ :: _, [] => 5
  | m :: ms, b :: bs => if b = m then markChk ms bs else 4
theorem imark_at (j : Nat) (bs : List Int) (m b : Int) (h1 : magic[j]? = some m) (h2 : bs[j]? = some b) : markChk (magic.drop j) (bs.drop j) = if b = m then markChk (magic.drop (j + 1)) (bs.drop (j + 1)) else 4 := by
  obtain ⟨l1, e1⟩ := List.getElem?_eq_some_iff.1 h1
  obtain ⟨l2, e2⟩ := List.getElem?_eq_some_iff.1 h2
  rw [List.drop_eq_getElem_cons l1, List.drop_eq_getElem_cons l2, e1, e2, markChk]
set_option maxHeartbeats 2000000 in
theorem mark_any (v : Value) (bs : List Int) (w : World) (h : ListAt w ucell 1 v bs) :
    Calls Tryd.prog 41 #[v] w fun e w' => e = .returned (.int .i64 (markChk magic bs)) ∧ Below w.heap.size w w' := by
  obtain ⟨a, cap, rfl, hlen⟩ := h.form
  have HL : Hid (ListAt w ucell 1 (.slice a bs.length cap) bs) := h
  unfold maxLen at hlen
  clear h
  go_enter Tryd.func41, Tryd.ntmps41
  go_wp2_with fail
  go_loopw [4] (fun u wr => ∃ j : Nat, j ≤ 4 ∧ j ≤ bs.length ∧ u = .int .i64 (j : Int) ∧ Hid (markChk magic bs = markChk (magic.drop j) (bs.drop j)) ∧ Hid (Below w.heap.size w wr)) (fun u _ => (4 - intOf u).toNat)
  case atStart => exact ⟨0, by omega, by omega, rfl, rfl, Below.refl _ _⟩
  case round =>
    obtain ⟨j, j1, j2, rfl, hm, hb⟩ := hrel
    rcases Nat.lt_or_ge j 4 with hj | hj
    · rcases Nat.lt_or_ge j bs.length with hl | hl
      · obtain ⟨y, hy⟩ : ∃ y, bs[j]? = some y := ⟨_, List.getElem?_eq_getElem (by omega)⟩
        obtain ⟨bb, oo, cp, hv, c1, c2, c3, c4⟩ := HL.out.resolve_left (by rintro ⟨_, _, _, h⟩; subst h; simp at hl)
        cases hv
        have d0 := c4 j y hy 0 (.int .u8 y) rfl
        rw [Nat.mul_one, Nat.add_zero] at d0
        have e0 := (hb.out.cell (p := ⟨bb, oo + j, none⟩) c3).trans d0
        have hj4 : j = 0 ∨ j = 1 ∨ j = 2 ∨ j = 3 := by omega
        obtain ⟨m, hmj⟩ : ∃ m, magic[j]? = some m := ⟨_, List.getElem?_eq_getElem (by simp [magic]; omega)⟩
        have HM : Hid _ := imark_at j bs m y hmj hy
        clear c4 hy d0
        have hjj : (j : Int) < (bs.length : Int) := by omega
        have hne : ¬ bs = [] := by rintro rfl; simp at hl
        by_cases q : y = m
        · have HQ : Hid (markChk magic bs = markChk (magic.drop (j + 1)) (bs.drop (j + 1))) := by show _ = _; rw [hm.out, HM.out, if_pos q]
          subst q
          clear hm HM
          rcases hj4 with rfl | rfl | rfl | rfl
          all_goals
            simp [magic] at hmj
            subst hmj
            simp at hl hjj
            have e1 := e0
            try rw [Nat.add_zero] at e1
            go_wp2
            go_quiet (fail)
            go_wp2
            go_roundw
            case rel => exact ⟨_, by omega, by omega, by go_num, HQ.out, jdrewN hb.out _⟩
            case measure => simp [intOf]
        · have HQ : Hid (markChk magic bs = 4) := by show _ = _; rw [hm.out, HM.out, if_neg q]
          clear hm HM
          rcases hj4 with rfl | rfl | rfl | rfl
          all_goals
            simp [magic] at hmj
            subst hmj
            simp at hl hjj
            have e1 := e0
            try rw [Nat.add_zero] at e1
            go_wp2
            go_quiet (fail)
            go_wp2
            · go_ret
              exact ⟨by rw [HQ.out]; rfl, jdrewN hb.out _⟩
            · rename_i hh
              exact absurd (bne_eq_false_iff_eq.1 hh) q
      · have hjl : j = bs.length := by omega
        have HQ : Hid (markChk magic bs = 5) := by
          show _ = _
          rw [hm.out, List.drop_of_length_le (l := bs) (by omega), List.drop_eq_getElem_cons (l := magic) (i := j) (by simp [magic]; omega), markChk]
        clear hm
        have hjj : ¬ (j : Int) < (bs.length : Int) := by omega
        have hj3 : (j : Int) < 4 := by omega
        go_wp2
        go_ret
        exact ⟨by rw [HQ.out]; rfl, hb.out⟩
    · have hj4 : j = 4 := by omega
      subst hj4
      have HQ : Hid (markChk magic bs = 0) := by show _ = _; rw [hm.out]; rfl
      clear hm
      go_wp2
      go_ret
      exact ⟨by rw [HQ.out]; rfl, hb.out⟩
end Go.Proofs.YtechpdfcgimkkaaDoor
/-
  What P2.4 says, in plain lists: the image that the bytes say may be walked over; an image's bytes are the bytes that it was read from.
-/
namespace Go.Proofs.YtechpdfcgimkkaaDoor
open Go.RowKit Go.Joins
set_option maxRecDepth 100000
abbrev Rd.byt (r : Rd) : Prop := ∀ x ∈ r.left, 0 ≤ x ∧ x ≤ 255
theorem many_inv {σ α : Type} (I : Nat → σ → Prop) (P : α → Prop) (f : σ → α × σ) (n : Nat) (s : σ) (h0 : I 0 s) (hs : ∀ k s, k < n → I k s → P (f s).1 ∧ I (k + 1) (f s).2) : (∀ a ∈ (many f n s).1, P a) ∧ I n (many f n s).2 := by
  induction n with
  | zero => exact ⟨fun a ha => (by cases ha), h0⟩
  | succ n ih =>
    obtain ⟨h1, h2⟩ := ih (fun k s hk => hs k s (by omega))
    obtain ⟨h3, h4⟩ := hs n _ (by omega) h2
    refine ⟨fun a ha => ?_, h4⟩
    rw [many] at ha
    rcases List.mem_append.1 ha with q | q
    · exact h1 a q
    · rw [List.mem_singleton.1 q]; exact h3
theorem jstr_list (ns : List Int) : ∀ acc : ByteArray, (ns.foldl (fun r n => r.push (UInt8.ofNat n.toNat)) acc).data.toList = acc.data.toList ++ ns.map (fun n => UInt8.ofNat n.toNat) := by
  induction ns with
  | nil => intro acc; simp
  | cons n ns ih => intro acc; rw [List.foldl_cons, ih]; simp [ByteArray.push]
theorem jstr_data (ns : List Int) : (jstr ns).data.toList = ns.map (fun n => UInt8.ofNat n.toNat) := by unfold jstr; rw [jstr_list]; rfl
theorem jstr_size (ns : List Int) : (jstr ns).size = ns.length := by
  have := congrArg List.length (jstr_data ns)
  simpa using this
theorem nameB_jstr (ns : List Int) (h : ∀ x ∈ ns, 0 ≤ x ∧ x ≤ 255) : nameB (jstr ns) = ns := by
  unfold nameB
  rw [jstr_data, List.map_map]
  have : ∀ x ∈ ns, ((fun b : UInt8 => (b.toNat : Int)) ∘ fun n : Int => UInt8.ofNat n.toNat) x = x := fun x hx => by
    obtain ⟨h1, h2⟩ := h x hx
    simp [UInt8.toNat_ofNat']
    omega
  rw [List.map_congr_left this]
  simp
theorem num8_bd (r : Rd) (h : r.byt) : i64 (r.num 8).1 := by
  have b1 := bval_bd _ (take_bytes r 8 h)
  have c1 := bval_64 _ (take_bytes r 8 h) 8 (take_len r 8)
  have e1 : bval (r.take 8).1 < 18446744073709551616 := c1
  unfold Rd.num toI i64
  simp only []
  split <;> omega
theorem fn_okm (n : Nat) (hn : n ≤ 255) (r : Rd) (h : r.byt) : ∀ f ∈ (many rdFn n (r, 0)).1, f.ok :=
  (many_inv (fun (k : Nat) (s : Rd × Int) => s.1.byt ∧ (0 : Int) ≤ s.2 ∧ s.2 ≤ (k : Int) * 65535) Fn.ok rdFn n (r, 0) ⟨h, by simp, by simp⟩ (fun k s hk ⟨h1, h2, h3⟩ => by
    obtain ⟨z1, z2, z3⟩ := rdFn_size s h1
    obtain ⟨⟨y1, y2⟩, _⟩ := num_bd _ h1
    have hl := take_len (s.1.num 1).2 (s.1.num 1).1.toNat
    have hsz : (rdFn s).1.name.size = ((s.1.num 1).2.take (s.1.num 1).1.toNat).1.length := jstr_size _
    have hst : (rdFn s).1.start = s.2 := rfl
    refine ⟨⟨by rw [hsz]; unfold maxLen; omega, by rw [hst]; unfold i64; omega, by unfold i64; omega⟩, rdFn_left s h1, by rw [z3]; omega, by rw [z3]; omega⟩)).1
theorem tab_okm (s : Rd) (hs : s.byt) : ∀ x ∈ s.tab.1, i64 x :=
  (many_inv (fun (_ : Nat) (s : Rd) => s.byt) i64 (fun r : Rd => r.num 2) (s.num 1).1.toNat (s.num 1).2 (num_left s 1 hs) (fun k s _ h1 => by
    obtain ⟨_, ⟨y1, y2⟩⟩ := num_bd s h1
    exact ⟨by unfold i64; omega, num_left s 2 h1⟩)).1
theorem tabs_okm (n : Nat) (r : Rd) (h : r.byt) : ∀ t ∈ (many Rd.tab n r).1, ∀ x ∈ t, i64 x :=
  (many_inv (fun (_ : Nat) (s : Rd) => s.byt) (fun t : List Int => ∀ x ∈ t, i64 x) Rd.tab n r h (fun _ s _ h1 => ⟨tab_okm s h1, tab_left s h1⟩)).1
theorem data_okm (n : Nat) (r : Rd) (h : r.byt) : ∀ x ∈ (many (fun r : Rd => r.num 8) n r).1, i64 x :=
  (many_inv (fun (_ : Nat) (s : Rd) => s.byt) i64 (fun r : Rd => r.num 8) n r h (fun _ s _ h1 => ⟨num8_bd s h1, num_left s 8 h1⟩)).1
theorem lines_okm (n : Nat) (r : Rd) (h : r.byt) : ∀ x ∈ (many Rd.line n r).1, x.ok :=
  (many_inv (fun (_ : Nat) (s : Rd) => s.byt) Ln.ok Rd.line n r h (fun k s _ h1 => by
    obtain ⟨_, ⟨y1, y2⟩⟩ := num_bd s h1
    obtain ⟨_, ⟨y3, y4⟩⟩ := num_bd _ (num_left s 2 h1)
    exact ⟨⟨by show i64 (s.num 2).1; unfold i64; omega, by show i64 ((s.num 2).2.num 2).1; unfold i64; omega⟩, line_left s h1⟩)).1
/-- What is left stays bytes, step by step. -/
theorem rdImg_bytes {r ra r1 r2 r3 r4 r5 r6 r7 r8 r9 r10 : Rd} {n nf nt nd nl : Nat} {xs : List Int} {fs : List Fn} {z en : Int} {ts : List (List Int)} {ds : List Int} {ls : List Ln} (hb : r.byt)
    (e1 : r.num 2 = ((n : Int), ra)) (e2 : ra.take n = (xs, r1)) (e3 : r1.num 1 = ((nf : Int), r2)) (e4 : many rdFn nf (r2, 0) = (fs, (r3, z))) (e5 : r3.num 1 = (en, r4)) (e6 : r4.num 1 = ((nt : Int), r5)) (e7 : many Rd.tab nt r5 = (ts, r6))
    (e8 : r6.num 1 = ((nd : Int), r7)) (e9 : many (fun r : Rd => r.num 8) nd r7 = (ds, r8)) (e10 : r8.num 2 = ((nl : Int), r9)) (_e11 : many Rd.line nl r9 = (ls, r10)) : ra.byt ∧ r1.byt ∧ r2.byt ∧ r3.byt ∧ r4.byt ∧ r5.byt ∧ r6.byt ∧ r7.byt ∧ r8.byt ∧ r9.byt := by
  have la : ra.byt := by have := num_left r 2 hb; rw [e1] at this; exact this
  have l1 : r1.byt := by have := take_left ra n la; rw [e2] at this; exact this
  have l2 : r2.byt := by have := num_left r1 1 l1; rw [e3] at this; exact this
  have l3 : r3.byt := by have := many_left Prod.fst rdFn rdFn_left nf (r2, 0) l2; rw [e4] at this; exact this
  have l4 : r4.byt := by have := num_left r3 1 l3; rw [e5] at this; exact this
  have l5 : r5.byt := by have := num_left r4 1 l4; rw [e6] at this; exact this
  have l6 : r6.byt := by have := many_left id Rd.tab tab_left nt r5 l5; rw [e7] at this; exact this
  have l7 : r7.byt := by have := num_left r6 1 l6; rw [e8] at this; exact this
  have l8 : r8.byt := by have := many_left id (fun r : Rd => r.num 8) (fun s hs => num_left s 8 hs) nd r7 l7; rw [e9] at this; exact this
  have l9 : r9.byt := by have := num_left r8 2 l8; rw [e10] at this; exact this
  exact ⟨la, l1, l2, l3, l4, l5, l6, l7, l8, l9⟩
theorem rdImg_ok (r : Rd) (h : r.byt) : (rdImg r).1.ok := by
  obtain ⟨ra, r1, r2, r3, r4, r5, r6, r7, r8, r9, r10, n, nf, nt, nd, nl, xs, fs, z, en, ts, ds, ls, ⟨e1, e2, e3, e4, e5, e6, e7, e8, e9, e10, e11⟩, b1, b2, b3, b4, b5, b6, z1, z2, z3, z4, z5⟩ := rdImg_all r h
  obtain ⟨la, l1, l2, l3, l4, l5, l6, l7, l8, l9⟩ := rdImg_bytes h e1 e2 e3 e4 e5 e6 e7 e8 e9 e10 e11
  rw [rdImg_parts e1 e2 e3 e4 e5 e6 e7 e8 e9 e10 e11]
  obtain ⟨⟨en1, en2⟩, _⟩ := num_bd r3 l3
  rw [e5] at en1 en2
  simp only [] at en1 en2
  have k1 := take_bytes ra n la
  rw [e2] at k1
  have k2 := fn_okm nf (by omega) r2 l2
  rw [e4] at k2
  have k3 := tabs_okm nt r5 l5
  rw [e7] at k3
  have k4 := data_okm nd r7 l7
  rw [e9] at k4
  have k5 := lines_okm nl r9 l9
  rw [e11] at k5
  exact ⟨k1, k2, k3, k4, k5, by show i64 en; unfold i64; omega⟩
theorem p256 (k : Nat) : (2 : Int) ^ (8 * k) = 256 ^ k := by
  have h : (2 : Nat) ^ (8 * k) = 256 ^ k := by rw [Nat.pow_mul]
  have := congrArg (fun n : Nat => (n : Int)) h
  simpa using this
theorem bval_from (bs : List Int) : ∀ a : Int, bs.foldl (fun n b => n * 256 + b) a = a * 256 ^ bs.length + bval bs := by
  induction bs with
  | nil => intro a; simp [bval]
  | cons b bs ih =>
    intro a
    have e : bval (b :: bs) = b * 256 ^ bs.length + bval bs := by unfold bval; rw [List.foldl_cons, ih]; simp [bval]
    rw [List.foldl_cons, ih, e, List.length_cons, Int.pow_succ, Int.add_mul, Int.mul_assoc, Int.mul_comm 256, Int.add_assoc]
theorem bval_cons (b : Int) (bs : List Int) : bval (b :: bs) = b * 256 ^ bs.length + bval bs := by unfold bval; rw [List.foldl_cons, bval_from]; simp [bval]
theorem be_of (bs : List Int) (h : ∀ x ∈ bs, 0 ≤ x ∧ x ≤ 255) : ∀ c : Int, be bs.length (bval bs + c * 256 ^ bs.length) = bs := by
  induction bs with
  | nil => intro c; rfl
  | cons b bs ih =>
    intro c
    obtain ⟨b1, b2⟩ := h b (List.mem_cons_self ..)
    have hb : ∀ x ∈ bs, 0 ≤ x ∧ x ≤ 255 := fun x hx => h x (List.mem_cons_of_mem _ hx)
    obtain ⟨v1, v2⟩ := bval_bd bs hb
    have ih' := ih hb (b + c * 256)
    have e : bval (b :: bs) + c * 256 ^ (b :: bs).length = bval bs + (b + c * 256) * 256 ^ bs.length := by
      rw [bval_cons, List.length_cons, Int.pow_succ, Int.add_mul, Int.mul_assoc, Int.mul_comm 256]
      omega
    rw [e, List.length_cons, be, ih', p256]
    have hp : (0 : Int) < 256 ^ bs.length := by omega
    rw [Int.add_mul_ediv_right _ _ (by omega), Int.ediv_eq_zero_of_lt v1 v2]
    congr 1
    omega
theorem be_num (bs : List Int) (h : ∀ x ∈ bs, 0 ≤ x ∧ x ≤ 255) (k : Nat) (hk : bs.length = k) (h8 : k ≤ 8) : be k (toI (bval bs)) = bs := by
  subst hk
  obtain ⟨v1, v2⟩ := bval_bd bs h
  unfold toI
  split
  · have := be_of bs h 0
    rw [Int.zero_mul, Int.add_zero] at this
    exact this
  · rename_i q
    have h8' : bs.length = 8 := by
      rcases Nat.lt_or_ge bs.length 8 with q2 | q2
      · have := bval_64 bs h 7 (by omega)
        have e : (256 : Int) ^ 7 = 72057594037927936 := by decide
        rw [e] at this
        omega
      · omega
    have := be_of bs h (-1)
    rw [h8'] at this ⊢
    have e : (256 : Int) ^ 8 = 18446744073709551616 := by decide
    rw [e] at this
    rw [show bval bs - 18446744073709551616 = bval bs + -1 * 18446744073709551616 by omega]
    exact this
theorem take_keep (r : Rd) (n : Nat) (h : (r.take n).2.short = false) : r.short = false ∧ r.left = (r.take n).1 ++ (r.take n).2.left ∧ (r.take n).1.length = n := by
  unfold Rd.take at h ⊢
  split at h
  · cases h
  · rename_i q
    rw [if_neg q]
    exact ⟨h, (List.take_append_drop n r.left).symm, by rw [List.length_take]; omega⟩
theorem num_keep (r : Rd) (hb : r.byt) (k : Nat) (hk : k ≤ 8) (h : (r.num k).2.short = false) : r.short = false ∧ r.left = be k (r.num k).1 ++ (r.num k).2.left := by
  obtain ⟨h1, h2, h3⟩ := take_keep r k h
  refine ⟨h1, ?_⟩
  have e : be k (r.num k).1 = (r.take k).1 := be_num _ (take_bytes r k hb) k h3 hk
  rw [e]
  exact h2
theorem many_keep {σ α : Type} (p : σ → Rd) (f : σ → α × σ) (enc : α → List Int) (hb : ∀ s, (p s).byt → (p (f s).2).byt) (hf : ∀ s, (p s).byt → (p (f s).2).short = false → (p s).short = false ∧ (p s).left = enc (f s).1 ++ (p (f s).2).left) (n : Nat) (s : σ) (h : (p s).byt) (hs : (p (many f n s).2).short = false) :
    (p s).short = false ∧ (p s).left = (many f n s).1.flatMap enc ++ (p (many f n s).2).left := by
  induction n with
  | zero => exact ⟨hs, rfl⟩
  | succ n ih =>
    obtain ⟨h1, h2⟩ := hf _ (many_left p f hb n s h) hs
    obtain ⟨h3, h4⟩ := ih h1
    refine ⟨h3, ?_⟩
    rw [h4, h2]
    show _ = ((many f n s).1 ++ [(f (many f n s).2).1]).flatMap enc ++ (p (f (many f n s).2).2).left
    rw [List.flatMap_append, List.append_assoc]
    simp
theorem rdFn_keep (s : Rd × Int) (hb : s.1.byt) (h : (rdFn s).2.1.short = false) : s.1.short = false ∧ s.1.left = encF (rdFn s).1 ++ (rdFn s).2.1.left := by
  have l1 := num_left s.1 1 hb
  have l2 := take_left _ (s.1.num 1).1.toNat l1
  obtain ⟨⟨y1, y2⟩, _⟩ := num_bd _ hb
  obtain ⟨a1, a2⟩ := num_keep _ l2 2 (by omega) h
  obtain ⟨b1, b2, b3⟩ := take_keep _ _ a1
  obtain ⟨c1, c2⟩ := num_keep _ hb 1 (by omega) b1
  refine ⟨c1, ?_⟩
  have e1 : nameB (rdFn s).1.name = ((s.1.num 1).2.take (s.1.num 1).1.toNat).1 := nameB_jstr _ (take_bytes _ _ l1)
  have e2 : ((rdFn s).1.name.size : Int) = (s.1.num 1).1 := by
    have : (rdFn s).1.name.size = ((s.1.num 1).2.take (s.1.num 1).1.toNat).1.length := jstr_size _
    rw [this, b3]; omega
  unfold encF
  rw [e1, e2, c2, b2, a2, List.append_assoc, List.append_assoc]
  rfl
theorem tab_keep (r : Rd) (hb : r.byt) (h : r.tab.2.short = false) : r.short = false ∧ r.left = encT r.tab.1 ++ r.tab.2.left := by
  obtain ⟨⟨y1, y2⟩, _⟩ := num_bd _ hb
  obtain ⟨a1, a2⟩ := many_keep id (fun r : Rd => r.num 2) (be 2) (fun s hs => num_left s 2 hs) (fun s hs h => num_keep s hs 2 (by omega) h) _ _ (num_left r 1 hb) h
  obtain ⟨c1, c2⟩ := num_keep _ hb 1 (by omega) a1
  refine ⟨c1, ?_⟩
  have e : (r.tab.1.length : Int) = (r.num 1).1 := by unfold Rd.tab; rw [many_len]; omega
  unfold encT
  rw [e, c2, List.append_assoc]
  exact congrArg (be 1 (r.num 1).1 ++ ·) a2
theorem line_keep (r : Rd) (hb : r.byt) (h : r.line.2.short = false) : r.short = false ∧ r.left = encLn r.line.1 ++ r.line.2.left := by
  obtain ⟨a1, a2⟩ := num_keep _ (num_left r 2 hb) 2 (by omega) h
  obtain ⟨c1, c2⟩ := num_keep _ hb 2 (by omega) a1
  refine ⟨c1, ?_⟩
  unfold encLn
  rw [c2, a2, List.append_assoc]
  rfl
/-- No image has two forms. -/
theorem rdImg_keep (r : Rd) (hb : r.byt) (h : (rdImg r).2.short = false) : r.short = false ∧ magic ++ r.left = encImg (rdImg r).1 ++ (rdImg r).2.left := by
  obtain ⟨ra, r1, r2, r3, r4, r5, r6, r7, r8, r9, r10, n, nf, nt, nd, nl, xs, fs, z, en, ts, ds, ls, ⟨e1, e2, e3, e4, e5, e6, e7, e8, e9, e10, e11⟩, b1, b2, b3, b4, b5, b6, z1, z2, z3, z4, z5⟩ := rdImg_all r hb
  rw [rdImg_parts e1 e2 e3 e4 e5 e6 e7 e8 e9 e10 e11] at h ⊢
  obtain ⟨la, l1, l2, l3, l4, l5, l6, l7, l8, l9⟩ := rdImg_bytes hb e1 e2 e3 e4 e5 e6 e7 e8 e9 e10 e11
  have k11 := many_keep id Rd.line encLn line_left line_keep nl r9 l9 (by rw [e11]; exact h)
  rw [e11] at k11
  have k10 := num_keep r8 l8 2 (by omega) (by rw [e10]; exact k11.1)
  rw [e10] at k10
  have k9 := many_keep id (fun r : Rd => r.num 8) (be 8) (fun s hs => num_left s 8 hs) (fun s hs h => num_keep s hs 8 (by omega) h) nd r7 l7 (by rw [e9]; exact k10.1)
  rw [e9] at k9
  have k8 := num_keep r6 l6 1 (by omega) (by rw [e8]; exact k9.1)
  rw [e8] at k8
  have k7 := many_keep id Rd.tab encT tab_left tab_keep nt r5 l5 (by rw [e7]; exact k8.1)
  rw [e7] at k7
  have k6 := num_keep r4 l4 1 (by omega) (by rw [e6]; exact k7.1)
  rw [e6] at k6
  have k5 := num_keep r3 l3 1 (by omega) (by rw [e5]; exact k6.1)
  rw [e5] at k5
  have k4 := many_keep Prod.fst rdFn encF rdFn_left rdFn_keep nf (r2, 0) l2 (by rw [e4]; exact k5.1)
  rw [e4] at k4
  have k3 := num_keep r1 l1 1 (by omega) (by rw [e3]; exact k4.1)
  rw [e3] at k3
  have k2 := take_keep ra n (by rw [e2]; exact k3.1)
  rw [e2] at k2
  have k1 := num_keep r hb 2 (by omega) (by rw [e1]; exact k2.1)
  rw [e1] at k1
  refine ⟨k1.1, ?_⟩
  have x1 := k1.2
  have x2 := k2.2.1
  have x3 := k3.2
  have x4 : r2.left = fs.flatMap encF ++ r3.left := k4.2
  have x5 := k5.2
  have x6 := k6.2
  have x7 : r5.left = ts.flatMap encT ++ r6.left := k7.2
  have x8 := k8.2
  have x9 : r7.left = ds.flatMap (be 8) ++ r8.left := k9.2
  have x10 := k10.2
  have x11 : r9.left = ls.flatMap encLn ++ r10.left := k11.2
  have y2 : xs.length = n := k2.2.2
  simp only [] at x1 x2 x3 x5 x6 x8 x10
  rw [x1, x2, x3, x4, x5, x6, x7, x8, x9, x10, x11]
  unfold encImg
  simp only [y2, z1, z2, z3, z4, List.append_assoc]
/-- P2.4: what is wrong with the bytes. -/
def decErr (bs : List Int) : Int :=
  if 100000 < bs.length then 1
  else if markChk magic bs ≠ 0 then markChk magic bs
  else if (rdImg ⟨bs.drop 4, false⟩).2.short = true then 5
  else if 0 < (rdImg ⟨bs.drop 4, false⟩).2.left.length then 4
  else imgChk (rdImg ⟨bs.drop 4, false⟩).1
def decImg (bs : List Int) : Img := (rdImg ⟨bs.drop 4, false⟩).1
theorem mark_zero (ms : List Int) : ∀ bs, markChk ms bs = 0 → bs = ms ++ bs.drop ms.length := by
  induction ms with
  | nil => intro bs _; rfl
  | cons m ms ih =>
    intro bs h
    cases bs with
    | nil => cases h
    | cons b bs =>
      rw [markChk] at h
      split at h
      · rename_i q
        rw [q, List.length_cons, List.drop_succ_cons, List.cons_append]
        exact congrArg (m :: ·) (ih bs h)
      · cases h
theorem dec_parts (bs : List Int) (h : decErr bs = 0) : bs.length ≤ 100000 ∧ markChk magic bs = 0 ∧ (rdImg ⟨bs.drop 4, false⟩).2.short = false ∧ (rdImg ⟨bs.drop 4, false⟩).2.left = [] ∧ imgChk (decImg bs) = 0 := by
  unfold decErr at h
  split at h
  · cases h
  · split at h
    · rename_i q; exact absurd h q
    · split at h
      · cases h
      · split at h
        · cases h
        · rename_i q1 q2 q3 q4
          exact ⟨by omega, by simpa using q2, by simpa using q3, List.length_eq_zero_iff.1 (by omega), h⟩
theorem dec_enc (bs : List Int) (hb : ∀ x ∈ bs, 0 ≤ x ∧ x ≤ 255) (h : decErr bs = 0) : encImg (decImg bs) = bs := by
  obtain ⟨_, h2, h3, h4, _⟩ := dec_parts bs h
  obtain ⟨_, k⟩ := rdImg_keep ⟨bs.drop 4, false⟩ (fun x hx => hb x (List.mem_of_mem_drop hx)) h3
  rw [h4, List.append_nil] at k
  unfold decImg
  rw [← k]
  exact (mark_zero magic bs h2).symm
end Go.Proofs.YtechpdfcgimkkaaDoor
/-
  image.Decode.
-/
namespace Go.Proofs.YtechpdfcgimkkaaDoor
open Go.RowKit Go.Joins
set_option maxRecDepth 100000
theorem FrG.below {g : Nat} {w0 w w' : World} (h0 : Below w0.heap.size w0 w) (h : FrG g w w') (hg : w0.heap.size ≤ g) : Below w0.heap.size w0 w' :=
  ⟨h.os.trans h0.os, h.tape.trans h0.tape, h.output.trans h0.output, Nat.le_trans h0.size h.size, fun k hk => (h.block k (Nat.lt_of_lt_of_le hk h0.size) (by omega)).trans (h0.block k hk)⟩
theorem six_put {w : World} {k : Nat} {a0 a1 a2 a3 a4 a5 : Value} {T : TypeId} (b0 b1 b2 b3 b4 b5 : Value) (h : w.heap[k]? = some (.cells #[a0, a1, a2, a3, a4, a5] T)) :
    ((((((w.setCell ⟨k, 0, none⟩ b0).setCell ⟨k, 1, none⟩ b1).setCell ⟨k, 2, none⟩ b2).setCell ⟨k, 3, none⟩ b3).setCell ⟨k, 4, none⟩ b4).setCell ⟨k, 5, none⟩ b5).heap[k]? = some (.cells #[b0, b1, b2, b3, b4, b5] T) ∧ (∀ j, j ≠ k → ((((((w.setCell ⟨k, 0, none⟩ b0).setCell ⟨k, 1, none⟩ b1).setCell ⟨k, 2, none⟩ b2).setCell ⟨k, 3, none⟩ b3).setCell ⟨k, 4, none⟩ b4).setCell ⟨k, 5, none⟩ b5).heap[j]? = w.heap[j]?) ∧ ((((((w.setCell ⟨k, 0, none⟩ b0).setCell ⟨k, 1, none⟩ b1).setCell ⟨k, 2, none⟩ b2).setCell ⟨k, 3, none⟩ b3).setCell ⟨k, 4, none⟩ b4).setCell ⟨k, 5, none⟩ b5).heap.size = w.heap.size ∧ ∀ {B : Nat} {W : World}, Below B W w → B ≤ k → Below B W ((((((w.setCell ⟨k, 0, none⟩ b0).setCell ⟨k, 1, none⟩ b1).setCell ⟨k, 2, none⟩ b2).setCell ⟨k, 3, none⟩ b3).setCell ⟨k, 4, none⟩ b4).setCell ⟨k, 5, none⟩ b5) := by
  have c0 := heap_setCell_same w _ 0 _ _ b0 h
  have c1 := heap_setCell_same _ _ 1 _ _ b1 c0
  have c2 := heap_setCell_same _ _ 2 _ _ b2 c1
  have c3 := heap_setCell_same _ _ 3 _ _ b3 c2
  have c4 := heap_setCell_same _ _ 4 _ _ b4 c3
  have c5 := heap_setCell_same _ _ 5 _ _ b5 c4
  refine ⟨c5, fun j hj => ?_, by simp [World.size_setCell], fun hb hk => (((((hb.setCell (p := ⟨k, 0, none⟩) hk b0).setCell (p := ⟨k, 1, none⟩) hk b1).setCell (p := ⟨k, 2, none⟩) hk b2).setCell (p := ⟨k, 3, none⟩) hk b3).setCell (p := ⟨k, 4, none⟩) hk b4).setCell (p := ⟨k, 5, none⟩) hk b5⟩
  iterate 6 rw [heap_setCell_other _ _ _ _ (by simpa using hj)]
theorem six_cells {w : World} {k : Nat} {b0 b1 b2 b3 b4 b5 : Value} {T : TypeId} (h : w.heap[k]? = some (.cells #[b0, b1, b2, b3, b4, b5] T)) : w.cell? ⟨k, 0, none⟩ = some b0 ∧ w.cell? ⟨k, 1, none⟩ = some b1 ∧ w.cell? ⟨k, 2, none⟩ = some b2 ∧ w.cell? ⟨k, 3, none⟩ = some b3 ∧ w.cell? ⟨k, 4, none⟩ = some b4 ∧ w.cell? ⟨k, 5, none⟩ = some b5 := by
  refine ⟨?_, ?_, ?_, ?_, ?_, ?_⟩ <;> simp [World.cell?, h]
theorem six_free {w : World} {k : Nat} {b0 b1 b2 b3 b4 b5 : Value} {T : TypeId} (h : w.heap[k]? = some (.cells #[b0, b1, b2, b3, b4, b5] T)) : w.frozen? ⟨k, 0, none⟩ = false ∧ w.frozen? ⟨k, 1, none⟩ = false ∧ w.frozen? ⟨k, 2, none⟩ = false ∧ w.frozen? ⟨k, 3, none⟩ = false ∧ w.frozen? ⟨k, 4, none⟩ = false ∧ w.frozen? ⟨k, 5, none⟩ = false := by
  refine ⟨?_, ?_, ?_, ?_, ?_, ?_⟩ <;> simp [World.frozen?, h]
set_option maxHeartbeats 16000000 in
theorem idecode_any (v : Value) (bs : List Int) (w : World) (h : ListAt w ucell 1 v bs) (hb : ∀ x ∈ bs, 0 ≤ x ∧ x ≤ 255) :
    Calls Tryd.prog 18 #[v] w fun e w' =>
      (decErr bs ≠ 0 ∧ e = .returned (.tuple #[.agg #[.slice none 0 0, .slice none 0 0, .slice none 0 0, .slice none 0 0, .slice none 0 0, .int .i64 0], .int .i64 (decErr bs)]) ∧ Below w.heap.size w w') ∨
      (decErr bs = 0 ∧ ∃ vT vF vB vD vL, e = .returned (.tuple #[.agg #[vT, vF, vB, vD, vL, .int .i64 (decImg bs).entry], .int .i64 0]) ∧ ImgAt w' vT vF vB vD vL (decImg bs) ∧ Below w.heap.size w w') := by
  obtain ⟨a, cap, rfl, hlen⟩ := h.form
  have HL : Hid (ListAt w ucell 1 (.slice a bs.length cap) bs) := h
  have HBY : Hid _ := hb
  unfold maxLen at hlen
  clear h hb
  by_cases q1 : (100000 : Int) < bs.length
  · have HD : Hid (decErr bs = 1) := by show _ = _; unfold decErr; rw [if_pos (by omega)]
    go_enter Tryd.func18, Tryd.ntmps18
    go_wp2
    exact bodyPost_ret (v := .tuple #[.agg #[.slice none 0 0, .slice none 0 0, .slice none 0 0, .slice none 0 0, .slice none 0 0, .int .i64 0], .int .i64 1]) (by simp [results, Tryd.results18, go_sem]) rfl (Or.inl ⟨by rw [HD.out]; decide, by rw [HD.out], (Below.refl _ _).alloc (Nat.le_refl _) _⟩)
  have hq1 : ¬ 100000 < bs.length := by omega
  have b0 : Below w.heap.size w (w.alloc (.cells #[.slice none 0 0, .slice none 0 0, .slice none 0 0, .slice none 0 0, .slice none 0 0, .int .i64 0] 29)) := (Below.refl _ _).alloc (Nat.le_refl _) _
  have B0 : Hid _ := b0
  clear b0
  go_enter Tryd.func18, Tryd.ntmps18
  go_wp2_with fail
  refine (mark_any _ bs _ (HL.out.stays (Nat.le_refl _) B0.out)).mono ?_
  rintro e w1 ⟨rfl, hb1⟩
  have br1 := (hb1.block w.heap.size (by simp)).trans (a_new _ _)
  have B1 : Hid (Below w.heap.size w w1) := B0.out.trans (hb1.mono (by simp))
  have z1 : w.heap.size < w1.heap.size := by have := hb1.size; simp at this; omega
  have BR1 : Hid _ := br1
  obtain ⟨x0, x1, x2, x3, x4, x5⟩ := six_cells br1
  obtain ⟨y0, y1, y2, y3, y4, y5⟩ := six_free br1
  clear hb1 br1
  by_cases q2 : markChk magic bs = 0
  rotate_left
  · have HD : Hid (decErr bs = markChk magic bs) := by show _ = _; unfold decErr; rw [if_neg hq1, if_pos q2]
    go_wp2
    obtain ⟨s1, _, _, s4⟩ := six_put (.slice none 0 0) (.slice none 0 0) (.slice none 0 0) (.slice none 0 0) (.slice none 0 0) (.int .i64 0) BR1.out
    have hbz := s4 B1.out (Nat.le_refl _)
    obtain ⟨Z, hZ⟩ : ∃ Z, ((((((w1.setCell ⟨w.heap.size, 0, none⟩ (.slice none 0 0)).setCell ⟨w.heap.size, 1, none⟩ (.slice none 0 0)).setCell ⟨w.heap.size, 2, none⟩ (.slice none 0 0)).setCell ⟨w.heap.size, 3, none⟩ (.slice none 0 0)).setCell ⟨w.heap.size, 4, none⟩ (.slice none 0 0)).setCell ⟨w.heap.size, 5, none⟩ (.int .i64 0)) = Z := ⟨_, rfl⟩
    rw [hZ] at s1 hbz
    rw [hZ]
    obtain ⟨d0, d1, d2, d3, d4, d5⟩ := six_cells s1
    exact bodyPost_ret (v := .tuple #[.agg #[.slice none 0 0, .slice none 0 0, .slice none 0 0, .slice none 0 0, .slice none 0 0, .int .i64 0], .int .i64 (markChk magic bs)]) (by simp [results, Tryd.results18, go_sem, d0, d1, d2, d3, d4, d5]) rfl (Or.inl ⟨by rw [HD.out]; exact q2, by rw [HD.out], hbz⟩)
  have hl4 : 4 ≤ bs.length := by
    have := congrArg List.length (mark_zero magic bs q2)
    simp [magic] at this
    omega
  obtain ⟨bb, oo, cp, hv, c1, c2, c3, c4⟩ := HL.out.resolve_left (by rintro ⟨_, _, _, h⟩; subst h; simp at hl4)
  cases hv
  clear c4
  by_cases hc : cap = 4
  all_goals
    go_wp2_with fail
  all_goals
    have RD : Hid (∀ (o' c' : Nat), (bs.length - 4 = 0 ∨ (o' = oo + 4 ∧ c' = cap - 4)) → RdAt (w1.alloc (.cells #[.slice (some ⟨bb, o', none⟩) (bs.length - 4) c', .bool false] 84)) w1.heap.size w1.heap.size ⟨bs.drop 4, false⟩) := by
      intro o' c' ho
      obtain ⟨u1, _⟩ := HL.out.cut (n := 4) hl4 (by omega)
      have ht : ListAt w ucell 1 (.slice (some ⟨bb, o', none⟩) (bs.length - 4) c') (bs.drop 4) := by
        rcases ho with ho | ⟨rfl, rfl⟩
        · exact Or.inl ⟨_, _, by rw [ho], List.drop_of_length_le (by omega)⟩
        · exact u1
      have ht2 := (ht.stays (Nat.le_refl _) B1.out).stays (Nat.le_refl _) ((Below.refl w1.heap.size w1).alloc (Nat.le_refl _) (.cells #[.slice (some ⟨bb, o', none⟩) (bs.length - 4) c', .bool false] 84))
      have hdl : (bs.drop 4).length = bs.length - 4 := List.length_drop
      refine ⟨⟨some ⟨bb, o', none⟩, c', ?_, ?_, fun _ => ⟨bb, o', rfl, by omega⟩⟩, fun x hx => HBY.out x (List.mem_of_mem_drop hx), Nat.le_refl _⟩
      · show _ = some (Obj.cells #[.slice _ (bs.drop 4).length _, _] _); rw [hdl]; exact a_new _ _
      · show ListAt _ _ _ (.slice _ (bs.drop 4).length _) (bs.drop 4); rw [hdl]; exact ht2
    refine (image_any w1.heap.size w1.heap.size ⟨bs.drop 4, false⟩ _ (RD.out _ _ (by first | exact Or.inl (by omega) | exact Or.inr ⟨rfl, rfl⟩))).mono ?_
    rintro e w2 ⟨vT, vF, vB, vD, vL, rfl, hrd, hI, hfr⟩
    have HNW : Hid _ := hI.on (B' := w1.heap.size + 1) (Nat.le_refl _) (fun _ _ _ => rfl) (by simp)
    replace hI := hI.img
    have B2 : Hid (Below w.heap.size w w2) := hfr.below (B1.out.alloc (by omega) _) (by omega)
    have BR2 : Hid _ := (hfr.block w.heap.size (by simp; omega) (by omega)).trans ((a_old _ _ _ z1).trans BR1.out)
    have z2 : w1.heap.size < w2.heap.size := by have := hfr.size; simp at this; omega
    have hok := rdImg_ok ⟨bs.drop 4, false⟩ (fun x hx => HBY.out x (List.mem_of_mem_drop hx))
    obtain ⟨r', hr'⟩ : ∃ r', (rdImg ⟨bs.drop 4, false⟩).2 = r' := ⟨_, rfl⟩
    have HRQ : Hid _ := hr'
    rw [hr'] at hrd
    obtain ⟨a', cx, hbox, hb2, hb3⟩ := hrd.box
    clear hb2 hb3
    have hdi : (rdImg ⟨bs.drop 4, false⟩).1 = decImg bs := rfl
    rw [hdi] at hI hok
    rw [hdi]
    obtain ⟨m, hm⟩ : ∃ m, decImg bs = m := ⟨_, rfl⟩
    have HM : Hid _ := hm
    rw [hm] at hI hok
    rw [hm]
    obtain ⟨aT, cT, rfl, lT⟩ := hI.text.form
    obtain ⟨aF, cF, rfl, lF⟩ := hI.funcs.form
    obtain ⟨aD, cD, rfl, lD⟩ := hI.data.form
    obtain ⟨aL, cL, rfl, lL⟩ := hI.lines.form
    obtain ⟨vs, hB, hBl, hBx⟩ := hI.tables
    obtain ⟨aB, cB, rfl, lB⟩ := hB.form
    clear hB hBl hBx lT lF lD lL lB
    have HI : Hid _ := hI
    have HOK : Hid _ := hok
    obtain ⟨W3, hW3⟩ : ∃ W3, w2.alloc (.cells #[.slice aT m.text.length cT, .slice aF m.funcs.length cF, .slice aB vs.length cB, .slice aD m.data.length cD, .slice aL m.lines.length cL, .int .i64 m.entry] 29) = W3 := ⟨_, rfl⟩
    have b23 : Below w2.heap.size w2 W3 := by rw [← hW3]; exact (Below.refl _ _).alloc (Nat.le_refl _) _
    have hbox3 := (b23.block _ z2).trans hbox
    have k0 : W3.cell? ⟨w1.heap.size, 0, none⟩ = some (.slice a' r'.left.length cx) := by simp [World.cell?, hbox3]
    have k1 : W3.cell? ⟨w1.heap.size, 1, none⟩ = some (.bool r'.short) := by simp [World.cell?, hbox3]
    have z3 : w.heap.size < w2.heap.size := by omega
    have BR3 : Hid _ := (b23.block _ z3).trans BR2.out
    have B3 : Hid (Below w.heap.size w W3) := B2.out.trans (b23.mono (by omega))
    have BM3 : Hid (W3.heap[w2.heap.size]? = some (.cells #[.slice aT m.text.length cT, .slice aF m.funcs.length cF, .slice aB vs.length cB, .slice aD m.data.length cD, .slice aL m.lines.length cL, .int .i64 m.entry] 29)) := by show _ = _; rw [← hW3]; exact a_new _ _
    have I3 : Hid _ := HI.out.stays (Nat.le_refl _) b23
    have z4 : W3.heap.size = w2.heap.size + 1 := by rw [← hW3]; simp
    obtain ⟨x0, x1, x2, x3, x4, x5⟩ := six_cells BR3.out
    obtain ⟨y0, y1, y2, y3, y4, y5⟩ := six_free BR3.out
    have B23 : Hid _ := b23
    clear b23 hbox3
    clear hI hok hrd hfr hbox hr' hm hdi RD HL
    by_cases q3 : r'.short = true
    · have HD : Hid (decErr bs = 5) := by show _ = _; unfold decErr; rw [if_neg hq1, if_neg (by simpa using q2), if_pos (by rw [HRQ.out]; exact q3)]
      rw [q3] at k1
      go_wp2_with fail
      obtain ⟨s1, _, _, s4⟩ := six_put (.slice none 0 0) (.slice none 0 0) (.slice none 0 0) (.slice none 0 0) (.slice none 0 0) (.int .i64 0) BR3.out
      have hbz := s4 B3.out (Nat.le_refl _)
      obtain ⟨Z, hZ⟩ : ∃ Z, ((((((W3.setCell ⟨w.heap.size, 0, none⟩ (.slice none 0 0)).setCell ⟨w.heap.size, 1, none⟩ (.slice none 0 0)).setCell ⟨w.heap.size, 2, none⟩ (.slice none 0 0)).setCell ⟨w.heap.size, 3, none⟩ (.slice none 0 0)).setCell ⟨w.heap.size, 4, none⟩ (.slice none 0 0)).setCell ⟨w.heap.size, 5, none⟩ (.int .i64 0)) = Z := ⟨_, rfl⟩
      rw [hZ] at s1 hbz
      rw [hZ]
      obtain ⟨d0, d1, d2, d3, d4, d5⟩ := six_cells s1
      exact bodyPost_ret (v := .tuple #[.agg #[.slice none 0 0, .slice none 0 0, .slice none 0 0, .slice none 0 0, .slice none 0 0, .int .i64 0], .int .i64 5]) (by simp [results, Tryd.results18, go_sem, d0, d1, d2, d3, d4, d5]) rfl (Or.inl ⟨by rw [HD.out]; decide, by rw [HD.out], hbz⟩)
    have q3' : r'.short = false := by simpa using q3
    rw [q3'] at k1
    by_cases q4 : (0 : Int) < r'.left.length
    · have HD : Hid (decErr bs = 4) := by show _ = _; unfold decErr; rw [if_neg hq1, if_neg (by simpa using q2), if_neg (by rw [HRQ.out]; exact q3), if_pos (by rw [HRQ.out]; omega)]
      obtain ⟨L, hL⟩ : ∃ L, r'.left.length = L := ⟨_, rfl⟩
      rw [hL] at k0 q4
      have q4n : 0 < L := by omega
      have q4z : ¬ L = 0 := by omega
      clear hL
      go_wp2_with fail
      obtain ⟨s1, _, _, s4⟩ := six_put (.slice none 0 0) (.slice none 0 0) (.slice none 0 0) (.slice none 0 0) (.slice none 0 0) (.int .i64 0) BR3.out
      have hbz := s4 B3.out (Nat.le_refl _)
      obtain ⟨Z, hZ⟩ : ∃ Z, ((((((W3.setCell ⟨w.heap.size, 0, none⟩ (.slice none 0 0)).setCell ⟨w.heap.size, 1, none⟩ (.slice none 0 0)).setCell ⟨w.heap.size, 2, none⟩ (.slice none 0 0)).setCell ⟨w.heap.size, 3, none⟩ (.slice none 0 0)).setCell ⟨w.heap.size, 4, none⟩ (.slice none 0 0)).setCell ⟨w.heap.size, 5, none⟩ (.int .i64 0)) = Z := ⟨_, rfl⟩
      rw [hZ] at s1 hbz
      rw [hZ]
      obtain ⟨d0, d1, d2, d3, d4, d5⟩ := six_cells s1
      exact bodyPost_ret (v := .tuple #[.agg #[.slice none 0 0, .slice none 0 0, .slice none 0 0, .slice none 0 0, .slice none 0 0, .int .i64 0], .int .i64 4]) (by simp [results, Tryd.results18, go_sem, d0, d1, d2, d3, d4, d5]) rfl (Or.inl ⟨by rw [HD.out]; decide, by rw [HD.out], hbz⟩)
    have HD : Hid (decErr bs = imgChk m) := by show _ = _; unfold decErr; rw [if_neg hq1, if_neg (by simpa using q2), if_neg (by rw [HRQ.out]; exact q3), if_neg (by rw [HRQ.out]; omega), ← HM.out]; rfl
    have q5 : r'.left.length = 0 := by omega
    rw [q5] at k0
    clear x0 x1 x2 x3 x4 x5 y0 y1 y2 y3 y4 y5
    obtain ⟨n0, n1, n2, n3, n4, n5⟩ := six_cells BM3.out
    have k0' : W3.cell? ⟨w1.heap.size, 0, none⟩ = some (.slice a' 0 cx) := k0
    have Z4 : Hid _ := z4
    clear k0 q4 q5 q3 q3' z4
    go_wp2_with fail
    clear n0 n1 n2 n3 n4 n5 hW3
    have z5 : w2.heap.size < W3.heap.size := by rw [Z4.out]; omega
    refine (icheck_any _ _ _ _ _ m W3 I3.out HOK.out).mono ?_
    rintro e w4 ⟨rfl, hb4⟩
    have BR4 : Hid _ := (hb4.block w.heap.size (by omega)).trans BR3.out
    have BM4 : Hid _ := (hb4.block w2.heap.size (by omega)).trans BM3.out
    have B4 : Hid (Below w.heap.size w w4) := B3.out.trans (hb4.mono (by omega))
    have N4 : Hid (ImgNew w4 (w1.heap.size + 1) (.slice aT m.text.length cT) (.slice aF m.funcs.length cF) (.slice aB vs.length cB) (.slice aD m.data.length cD) (.slice aL m.lines.length cL) m) := by
      have q : ImgNew w2 (w1.heap.size + 1) (.slice aT m.text.length cT) (.slice aF m.funcs.length cF) (.slice aB vs.length cB) (.slice aD m.data.length cD) (.slice aL m.lines.length cL) (decImg bs) := HNW.out
      rw [HM.out] at q
      exact q.on (w' := w4) (by have := hb4.size; omega) (fun k _ k2 => (hb4.block k (by omega)).trans (B23.out.block k k2)) (Nat.le_refl _)
    obtain ⟨x0, x1, x2, x3, x4, x5⟩ := six_cells BR4.out
    obtain ⟨y0, y1, y2, y3, y4, y5⟩ := six_free BR4.out
    obtain ⟨n0, n1, n2, n3, n4, n5⟩ := six_cells BM4.out
    clear hb4
    generalize imgChk m = zc at *
    by_cases q6 : zc = 0
    rotate_left
    · have q6b : (zc != 0) = true := by simp [q6]
      have Q6 : Hid (zc ≠ 0) := q6
      clear q6 n0 n1 n2 n3 n4 n5 k1 k0'
      go_wp2
      obtain ⟨s1, _, _, s4⟩ := six_put (.slice none 0 0) (.slice none 0 0) (.slice none 0 0) (.slice none 0 0) (.slice none 0 0) (.int .i64 0) BR4.out
      have hbz := s4 B4.out (Nat.le_refl _)
      obtain ⟨Z, hZ⟩ : ∃ Z, ((((((w4.setCell ⟨w.heap.size, 0, none⟩ (.slice none 0 0)).setCell ⟨w.heap.size, 1, none⟩ (.slice none 0 0)).setCell ⟨w.heap.size, 2, none⟩ (.slice none 0 0)).setCell ⟨w.heap.size, 3, none⟩ (.slice none 0 0)).setCell ⟨w.heap.size, 4, none⟩ (.slice none 0 0)).setCell ⟨w.heap.size, 5, none⟩ (.int .i64 0)) = Z := ⟨_, rfl⟩
      rw [hZ] at s1 hbz
      rw [hZ]
      obtain ⟨d0, d1, d2, d3, d4, d5⟩ := six_cells s1
      exact bodyPost_ret (v := .tuple #[.agg #[.slice none 0 0, .slice none 0 0, .slice none 0 0, .slice none 0 0, .slice none 0 0, .int .i64 0], .int .i64 zc]) (by simp [results, Tryd.results18, go_sem, d0, d1, d2, d3, d4, d5]) rfl (Or.inl ⟨by rw [HD.out]; exact Q6.out, by rw [HD.out], hbz⟩)
    rw [q6] at HD
    go_wp2
    obtain ⟨s1, s2, s3, s4⟩ := six_put (.slice aT m.text.length cT) (.slice aF m.funcs.length cF) (.slice aB vs.length cB) (.slice aD m.data.length cD) (.slice aL m.lines.length cL) (.int .i64 m.entry) BR4.out
    have hbz := s4 B4.out (Nat.le_refl _)
    have hIz : ImgAt ((((((w4.setCell ⟨w.heap.size, 0, none⟩ (.slice aT m.text.length cT)).setCell ⟨w.heap.size, 1, none⟩ (.slice aF m.funcs.length cF)).setCell ⟨w.heap.size, 2, none⟩ (.slice aB vs.length cB)).setCell ⟨w.heap.size, 3, none⟩ (.slice aD m.data.length cD)).setCell ⟨w.heap.size, 4, none⟩ (.slice aL m.lines.length cL)).setCell ⟨w.heap.size, 5, none⟩ (.int .i64 m.entry)) (.slice aT m.text.length cT) (.slice aF m.funcs.length cF) (.slice aB vs.length cB) (.slice aD m.data.length cD) (.slice aL m.lines.length cL) m := N4.out _ fun k k1 _ => s2 k (by omega)
    obtain ⟨Z, hZ⟩ : ∃ Z, ((((((w4.setCell ⟨w.heap.size, 0, none⟩ (.slice aT m.text.length cT)).setCell ⟨w.heap.size, 1, none⟩ (.slice aF m.funcs.length cF)).setCell ⟨w.heap.size, 2, none⟩ (.slice aB vs.length cB)).setCell ⟨w.heap.size, 3, none⟩ (.slice aD m.data.length cD)).setCell ⟨w.heap.size, 4, none⟩ (.slice aL m.lines.length cL)).setCell ⟨w.heap.size, 5, none⟩ (.int .i64 m.entry)) = Z := ⟨_, rfl⟩
    rw [hZ] at s1 hbz hIz
    rw [hZ]
    obtain ⟨d0, d1, d2, d3, d4, d5⟩ := six_cells s1
    exact bodyPost_ret (v := .tuple #[.agg #[.slice aT m.text.length cT, .slice aF m.funcs.length cF, .slice aB vs.length cB, .slice aD m.data.length cD, .slice aL m.lines.length cL, .int .i64 m.entry], .int .i64 0]) (by simp [results, Tryd.results18, go_sem, d0, d1, d2, d3, d4, d5]) rfl (Or.inr ⟨HD.out, _, _, _, _, _, by rw [HM.out], by rw [HM.out]; exact hIz, hbz⟩)
end Go.Proofs.YtechpdfcgimkkaaDoor
/-
  Plain: an image's bytes are read back: whole they are the image, cut they are too short, with a byte more they are out of form.
-/
namespace Go.Proofs.YtechpdfcgimkkaaDoor
open Go.RowKit Go.Joins
theorem p256n (k : Nat) : (0 : Int) < 256 ^ k := by
  have h : 0 < (256 : Nat) ^ k := Nat.pow_pos (by decide)
  have := Int.ofNat_lt.2 h
  simpa using this
theorem bval_be : ∀ (k : Nat) (v : Int), bval (be k v) = v % 256 ^ k
  | 0, v => by simp [be, bval]
  | k + 1, v => by
    rw [be, bval_cons, be_len, bval_be k v, p256, Int.pow_succ]
    have hp := p256n k
    generalize (256 : Int) ^ k = P at *
    have h1 := Int.mul_ediv_add_emod v P
    have h2 := Int.emod_nonneg v (show P ≠ 0 by omega)
    have h3 := Int.emod_lt_of_pos v hp
    have h4 := Int.mul_ediv_add_emod (v / P) 256
    have h5 := Int.emod_nonneg (v / P) (show (256 : Int) ≠ 0 by decide)
    have h6 := Int.emod_lt_of_pos (v / P) (show (0 : Int) < 256 by decide)
    have e : v = (v / P % 256 * P + v % P) + P * 256 * (v / P / 256) := by
      have : P * (v / P) = P * 256 * (v / P / 256) + v / P % 256 * P := by
        conv => lhs; rw [← h4]
        rw [Int.mul_add, Int.mul_assoc, Int.mul_comm P (v / P % 256)]
      omega
    have hlo : 0 ≤ v / P % 256 * P := Int.mul_nonneg h5 (by omega)
    have hhi : v / P % 256 * P + v % P < P * 256 := by
      have : v / P % 256 * P ≤ 255 * P := Int.mul_le_mul_of_nonneg_right (by omega) (by omega)
      omega
    have h7 := Int.add_mul_emod_self_left (v / P % 256 * P + v % P) (P * 256) (v / P / 256)
    rw [← e, Int.emod_eq_of_lt (by omega) hhi] at h7
    exact h7.symm
theorem take_enc (xs rest : List Int) (s : Bool) : (⟨xs ++ rest, s⟩ : Rd).take xs.length = (xs, ⟨rest, s⟩) := by
  unfold Rd.take
  rw [if_neg (by simp)]
  simp
theorem num_enc {k : Nat} {v : Int} {rest : List Int} {s : Bool} (h : toI (v % 256 ^ k) = v) : (⟨be k v ++ rest, s⟩ : Rd).num k = (v, ⟨rest, s⟩) := by
  have := take_enc (be k v) rest s
  rw [be_len] at this
  unfold Rd.num
  rw [this, bval_be, h]
theorem toI_small {k : Nat} {v : Int} (h0 : 0 ≤ v) (h1 : v < 256 ^ k) (h2 : v < 9223372036854775808) : toI (v % 256 ^ k) = v := by
  rw [Int.emod_eq_of_lt h0 h1]
  unfold toI
  rw [if_pos h2]
theorem toI_one {v : Int} (h0 : 0 ≤ v) (h1 : v ≤ 255) : toI (v % 256 ^ 1) = v := by
  have e : (256 : Int) ^ 1 = 256 := by decide
  exact toI_small (k := 1) h0 (by omega) (by omega)
theorem toI_two {v : Int} (h0 : 0 ≤ v) (h1 : v ≤ 65535) : toI (v % 256 ^ 2) = v := by
  have e : (256 : Int) ^ 2 = 65536 := by decide
  exact toI_small (k := 2) h0 (by omega) (by omega)
theorem toI_eight {v : Int} (h : i64 v) : toI (v % 256 ^ 8) = v := by
  have e : (256 : Int) ^ 8 = 18446744073709551616 := by decide
  rw [e]
  unfold i64 at h
  unfold toI
  split <;> omega
theorem many_run {σ α : Type} (f : σ → α × σ) (xs : List α) (st : Nat → σ) (h : ∀ i x, xs[i]? = some x → f (st i) = (x, st (i + 1))) : ∀ n, n ≤ xs.length → many f n (st 0) = (xs.take n, st n)
  | 0, _ => by simp [many]
  | n + 1, hn => by
    rw [many, many_run f xs st h n (by omega)]
    dsimp only
    obtain ⟨x, hx⟩ : ∃ x, xs[n]? = some x := ⟨_, List.getElem?_eq_getElem (by omega)⟩
    rw [h n x hx, List.take_add_one, hx]
    rfl
theorem drop_flat {α : Type} (enc : α → List Int) {xs : List α} {i : Nat} {x : α} (h : xs[i]? = some x) (rest : List Int) : (xs.drop i).flatMap enc ++ rest = enc x ++ ((xs.drop (i + 1)).flatMap enc ++ rest) := by
  obtain ⟨h1, rfl⟩ := List.getElem?_eq_some_iff.1 h
  rw [List.drop_eq_getElem_cons h1, List.flatMap_cons, List.append_assoc]
/-- A list that is read element by element. -/
theorem many_enc {α : Type} (f : Rd → α × Rd) (enc : α → List Int) (xs : List α) (rest : List Int) (s : Bool) (h : ∀ x ∈ xs, ∀ r, f ⟨enc x ++ r, s⟩ = (x, ⟨r, s⟩)) : many f xs.length ⟨xs.flatMap enc ++ rest, s⟩ = (xs, ⟨rest, s⟩) := by
  have := many_run f xs (fun i => ⟨(xs.drop i).flatMap enc ++ rest, s⟩) (fun i x hx => by
    rw [drop_flat enc hx]
    exact h x (List.mem_of_getElem? hx) _) xs.length (Nat.le_refl _)
  simpa using this
theorem tab_enc {t : List Int} {r : List Int} {s : Bool} (h1 : t.length ≤ 255) (h2 : ∀ x ∈ t, 0 ≤ x ∧ x ≤ 65535) : (⟨encT t ++ r, s⟩ : Rd).tab = (t, ⟨r, s⟩) := by
  unfold Rd.tab encT
  rw [List.append_assoc, num_enc (toI_one (by omega) (by omega))]
  dsimp only
  rw [Int.toNat_natCast]
  exact many_enc (fun r : Rd => r.num 2) (be 2) t r s fun x hx r => num_enc (toI_two (h2 x hx).1 (h2 x hx).2)
theorem line_enc {l : Ln} {r : List Int} {s : Bool} (h1 : 0 ≤ l.a ∧ l.a ≤ 65535) (h2 : 0 ≤ l.n ∧ l.n ≤ 65535) : (⟨encLn l ++ r, s⟩ : Rd).line = (l, ⟨r, s⟩) := by
  unfold Rd.line encLn
  rw [List.append_assoc, num_enc (toI_two h1.1 h1.2), num_enc (toI_two h2.1 h2.2)]
theorem jstr_nameB (b : ByteArray) : jstr (nameB b) = b := by
  have h : (jstr (nameB b)).data.toList = b.data.toList := by
    rw [jstr_data, nameB, List.map_map]
    have : ∀ x ∈ b.data.toList, ((fun n : Int => UInt8.ofNat n.toNat) ∘ fun b : UInt8 => (b.toNat : Int)) x = x := fun x _ => by simp
    rw [List.map_congr_left this]
    simp
  cases hb : b with | mk d =>
  cases hj : jstr (nameB ⟨d⟩) with | mk e =>
  rw [hb, hj] at h
  have : e = d := Array.toList_inj.1 h
  rw [this]
theorem fn_enc {f : Fn} {r : List Int} {s : Bool} {z : Int} (h1 : f.name.size ≤ 255) (h2 : 0 ≤ f.size ∧ f.size ≤ 65535) (h3 : f.start = z) : rdFn (⟨encF f ++ r, s⟩, z) = (f, (⟨r, s⟩, z + f.size)) := by
  unfold rdFn encF
  rw [List.append_assoc, List.append_assoc]
  dsimp only
  rw [num_enc (toI_one (by omega) (by omega))]
  dsimp only
  rw [Int.toNat_natCast]
  have := take_enc (nameB f.name) (be 2 f.size ++ r) s
  rw [nameB_len] at this
  rw [this]
  dsimp only
  rw [num_enc (toI_two h2.1 h2.2), jstr_nameB]
  dsimp only
  rw [← h3]
theorem fchk_start (size : Int) : ∀ (fs pre : List Fn) (e : Int), fchk size pre fs e = 0 → (∀ i f, fs[i]? = some f → f.start = e + ((fs.take i).map Fn.size).sum) ∧ ∀ f ∈ fs, 1 ≤ f.size
  | [], _, _, _ => ⟨fun i f h => by simp at h, fun f h => by cases h⟩
  | f :: r, pre, e, h => by
    rw [fchk] at h
    split at h
    · cases h
    · split at h
      · cases h
      · split at h
        · cases h
        · rename_i q1 q2 q3
          obtain ⟨g1, g2⟩ := fchk_start size r _ _ h
          refine ⟨fun i g hg => ?_, fun g hg => ?_⟩
          · cases i with
            | zero =>
              simp only [List.getElem?_cons_zero, Option.some.injEq] at hg
              subst hg
              simp; omega
            | succ i =>
              have := g1 i g (by simpa using hg)
              rw [this, List.take_succ_cons, List.map_cons, List.sum_cons]
              omega
          · rcases List.mem_cons.1 hg with rfl | hg
            · omega
            · exact g2 g hg
theorem fchk_small (size : Int) : ∀ (fs pre : List Fn) (e : Int), 0 ≤ e → fchk size pre fs e = 0 → ∀ f ∈ fs, f.size ≤ size
  | [], _, _, _, _ => fun f h => by cases h
  | f :: r, pre, e, h0, h => by
    rw [fchk] at h
    split at h
    · cases h
    · split at h
      · cases h
      · split at h
        · cases h
        · rename_i q1 q2 q3
          intro g hg
          rcases List.mem_cons.1 hg with rfl | hg
          · omega
          · exact fchk_small size r _ _ (by omega) h g hg
theorem fns_enc {fs : List Fn} {rest : List Int} {s : Bool} {size : Int} (hc : fchk size [] fs 0 = 0) (hs : size ≤ 65535) (hn : ∀ f ∈ fs, f.name.size ≤ 255) : many rdFn fs.length (⟨fs.flatMap encF ++ rest, s⟩, 0) = (fs, (⟨rest, s⟩, (fs.map Fn.size).sum)) := by
  obtain ⟨h1, h2⟩ := fchk_start size fs [] 0 hc
  have h3 := fchk_small size fs [] 0 (by omega) hc
  have := many_run rdFn fs (fun i => (⟨(fs.drop i).flatMap encF ++ rest, s⟩, ((fs.take i).map Fn.size).sum)) (fun i f hf => by
    have hm := List.mem_of_getElem? hf
    have z2 := h2 f hm
    have z3 := h3 f hm
    rw [drop_flat encF hf, fn_enc (hn f hm) ⟨by omega, by omega⟩ (by rw [h1 i f hf]; omega), List.take_add_one, hf]
    simp) fs.length (Nat.le_refl _)
  simpa using this
theorem lchk_ok (size : Int) : ∀ (ls : List Ln) (ah : Int), -1 ≤ ah → lchk size ls ah = 0 → ∀ l ∈ ls, 0 ≤ l.a ∧ l.a < size ∧ 0 ≤ l.n ∧ l.n ≤ 10000
  | [], _, _, _ => fun l h => by cases h
  | y :: r, ah, h0, h => by
    rw [lchk] at h
    split at h
    · cases h
    · split at h
      · cases h
      · intro l hl
        rcases List.mem_cons.1 hl with rfl | hl
        · omega
        · exact lchk_ok size r y.a (by omega) h l hl
/-- Behind its mark an image is read back, whatever stands behind it. -/
theorem rdImg_enc {m : Img} (h : imgChk m = 0) (tail : List Int) : rdImg ⟨(encImg m).drop 4 ++ tail, false⟩ = (m, ⟨tail, false⟩) := by
  obtain ⟨hm, hf, hl⟩ := may_of m h
  have e : (encImg m).drop 4 ++ tail = be 2 m.text.length ++ (m.text ++ (be 1 m.funcs.length ++ (m.funcs.flatMap encF ++ (be 1 m.entry ++ (be 1 m.tables.length ++ (m.tables.flatMap encT ++ (be 1 m.data.length ++ (m.data.flatMap (be 8) ++ (be 2 m.lines.length ++ (m.lines.flatMap encLn ++ tail)))))))))) := by
    unfold encImg magic
    simp only [List.append_assoc, List.cons_append, List.nil_append, List.drop_succ_cons, List.drop_zero]
  have ht := hm.text
  have hnf := hm.nf
  have hnt := hm.nt
  have hnd := hm.nd
  have hnl := hm.nl
  obtain ⟨en1, en2⟩ := hm.entry
  have lo := lchk_ok _ _ _ (Int.le_refl _) hl
  rw [e]
  have r1 := take_enc m.text (be 1 m.funcs.length ++ (m.funcs.flatMap encF ++ (be 1 m.entry ++ (be 1 m.tables.length ++ (m.tables.flatMap encT ++ (be 1 m.data.length ++ (m.data.flatMap (be 8) ++ (be 2 m.lines.length ++ (m.lines.flatMap encLn ++ tail))))))))) false
  have r2 := fns_enc (rest := be 1 m.entry ++ (be 1 m.tables.length ++ (m.tables.flatMap encT ++ (be 1 m.data.length ++ (m.data.flatMap (be 8) ++ (be 2 m.lines.length ++ (m.lines.flatMap encLn ++ tail))))))) (s := false) hf (by omega) (fun f q => by have := (hm.funcs f q).1; omega)
  have r3 := many_enc Rd.tab encT m.tables (be 1 m.data.length ++ (m.data.flatMap (be 8) ++ (be 2 m.lines.length ++ (m.lines.flatMap encLn ++ tail)))) false fun t q r => by
    obtain ⟨q1, q2⟩ := hm.tables t q
    exact tab_enc (by omega) fun x hx => by have := q2 x hx; omega
  have r4 := many_enc (fun r : Rd => r.num 8) (be 8) m.data (be 2 m.lines.length ++ (m.lines.flatMap encLn ++ tail)) false fun x q r => num_enc (toI_eight (by have := hm.data x q; unfold i64; omega))
  have r5 := many_enc Rd.line encLn m.lines tail false fun l q r => line_enc (by have := lo l q; omega) (by have := lo l q; omega)
  unfold rdImg
  simp only [num_enc (toI_two (v := (m.text.length : Int)) (by omega) (by omega)), Int.toNat_natCast, r1, num_enc (toI_one (v := (m.funcs.length : Int)) (by omega) (by omega)), r2, num_enc (toI_one (v := m.entry) (by omega) (by omega)), num_enc (toI_one (v := (m.tables.length : Int)) (by omega) (by omega)), r3, num_enc (toI_one (v := (m.data.length : Int)) (by omega) (by omega)), r4, num_enc (toI_two (v := (m.lines.length : Int)) (by omega) (by omega)), r5]
/-- A reader that, if it has enough, does the same where there is more. -/
structure ExR {α : Type} (f : Rd → α × Rd) : Prop where
  ext : ∀ (r : Rd) (ys : List Int), (f r).2.short = false → f ⟨r.left ++ ys, r.short⟩ = ((f r).1, ⟨(f r).2.left ++ ys, false⟩)
  mono : ∀ r : Rd, (f r).2.short = false → r.short = false
theorem ExR.take (n : Nat) : ExR (fun r : Rd => r.take n) := by
  refine ⟨fun r ys h => ?_, fun r h => (take_keep r n h).1⟩
  obtain ⟨h1, h2, h3⟩ := take_keep r n h
  have hlen : n ≤ r.left.length := by rw [h2, List.length_append]; omega
  show (⟨r.left ++ ys, r.short⟩ : Rd).take n = ((r.take n).1, ⟨(r.take n).2.left ++ ys, false⟩)
  unfold Rd.take
  rw [if_neg (by simp; omega), if_neg (by omega)]
  simp only [h1]
  rw [List.take_append_of_le_length hlen, List.drop_append_of_le_length hlen]
theorem ExR.map {α β : Type} {f : Rd → α × Rd} (h : ExR f) (g : α → β) : ExR (fun r => (g (f r).1, (f r).2)) :=
  ⟨fun r ys q => by have := h.ext r ys q; simp only [this], fun r q => h.mono r q⟩
theorem ExR.num (n : Nat) : ExR (fun r : Rd => r.num n) := (ExR.take n).map (fun b => toI (bval b))
theorem ExR.bind {α β : Type} {f : Rd → α × Rd} {g : α → Rd → β × Rd} (hf : ExR f) (hg : ∀ a, ExR (g a)) : ExR (fun r => g (f r).1 (f r).2) := by
  refine ⟨fun r ys h => ?_, fun r h => hf.mono r ((hg _).mono _ h)⟩
  have h1 := (hg _).mono _ h
  have h2 := hf.ext r ys h1
  have h3 := (hg (f r).1).ext (f r).2 ys h
  rw [h1] at h3
  show g (f ⟨r.left ++ ys, r.short⟩).1 (f ⟨r.left ++ ys, r.short⟩).2 = _
  rw [h2]
  exact h3
theorem ExR.ret {α : Type} (a : α) : ExR (fun r : Rd => (a, r)) := ⟨fun r ys h => by have h : r.short = false := h; simp only [h], fun r h => h⟩
theorem ExR.many {α : Type} {f : Rd → α × Rd} (h : ExR f) : ∀ n, ExR (fun r => Proofs.YtechpdfcgimkkaaDoor.many f n r)
  | 0 => ExR.ret []
  | n + 1 => ExR.bind (f := fun r => Proofs.YtechpdfcgimkkaaDoor.many f n r) (g := fun l r => (l ++ [(f r).1], (f r).2)) (ExR.many h n) fun l => h.map fun a => l ++ [a]
theorem ExR.rdFn (z : Int) : ExR (α := Fn × Int) (fun r => (((Proofs.YtechpdfcgimkkaaDoor.rdFn (r, z)).1, (Proofs.YtechpdfcgimkkaaDoor.rdFn (r, z)).2.2), (Proofs.YtechpdfcgimkkaaDoor.rdFn (r, z)).2.1)) := by
  have h3 : ∀ b : List Int, ExR (fun r : Rd => (((⟨jstr b, z, (r.num 2).1⟩ : Fn), z + (r.num 2).1), (r.num 2).2)) := fun b => (ExR.num 2).map fun c => ((⟨jstr b, z, c⟩ : Fn), z + c)
  have h2 : ∀ a : Int, ExR (fun r : Rd => (((⟨jstr (r.take a.toNat).1, z, ((r.take a.toNat).2.num 2).1⟩ : Fn), z + ((r.take a.toNat).2.num 2).1), ((r.take a.toNat).2.num 2).2)) := fun a =>
    ExR.bind (f := fun r => r.take a.toNat) (g := fun b r => (((⟨jstr b, z, (r.num 2).1⟩ : Fn), z + (r.num 2).1), (r.num 2).2)) (ExR.take _) h3
  exact ExR.bind (f := fun r => r.num 1) (g := fun a r => (((⟨jstr (r.take a.toNat).1, z, ((r.take a.toNat).2.num 2).1⟩ : Fn), z + ((r.take a.toNat).2.num 2).1), ((r.take a.toNat).2.num 2).2)) (ExR.num 1) h2
theorem ExR.fns : ∀ (n : Nat) (z : Int), ExR (α := List Fn × Int) (fun r => (((Proofs.YtechpdfcgimkkaaDoor.many Proofs.YtechpdfcgimkkaaDoor.rdFn n (r, z)).1, (Proofs.YtechpdfcgimkkaaDoor.many Proofs.YtechpdfcgimkkaaDoor.rdFn n (r, z)).2.2), (Proofs.YtechpdfcgimkkaaDoor.many Proofs.YtechpdfcgimkkaaDoor.rdFn n (r, z)).2.1))
  | 0, z => ExR.ret ([], z)
  | n + 1, z => ExR.bind (f := fun r => (((Proofs.YtechpdfcgimkkaaDoor.many Proofs.YtechpdfcgimkkaaDoor.rdFn n (r, z)).1, (Proofs.YtechpdfcgimkkaaDoor.many Proofs.YtechpdfcgimkkaaDoor.rdFn n (r, z)).2.2), (Proofs.YtechpdfcgimkkaaDoor.many Proofs.YtechpdfcgimkkaaDoor.rdFn n (r, z)).2.1))
      (g := fun l r => ((l.1 ++ [(Proofs.YtechpdfcgimkkaaDoor.rdFn (r, l.2)).1], (Proofs.YtechpdfcgimkkaaDoor.rdFn (r, l.2)).2.2), (Proofs.YtechpdfcgimkkaaDoor.rdFn (r, l.2)).2.1)) (ExR.fns n z) fun l => (ExR.rdFn l.2).map fun a => (l.1 ++ [a.1], a.2)
theorem ExR.tab : ExR Rd.tab := ExR.bind (f := fun r => r.num 1) (g := fun a r => Proofs.YtechpdfcgimkkaaDoor.many (fun r : Rd => r.num 2) a.toNat r) (ExR.num 1) fun _ => (ExR.num 2).many _
theorem ExR.line : ExR Rd.line := ExR.bind (f := fun r => r.num 2) (g := fun a r => ((⟨a, (r.num 2).1⟩ : Ln), (r.num 2).2)) (ExR.num 2) fun a => (ExR.num 2).map fun b => (⟨a, b⟩ : Ln)
def kLs (t : List Int) (fs : List Fn) (en : Int) (ts : List (List Int)) (ds : List Int) (nl : Int) (r : Rd) : Img × Rd := (⟨t, fs, ts, ds, (many Rd.line nl.toNat r).1, en⟩, (many Rd.line nl.toNat r).2)
def kNl (t : List Int) (fs : List Fn) (en : Int) (ts : List (List Int)) (ds : List Int) (r : Rd) : Img × Rd := kLs t fs en ts ds (r.num 2).1 (r.num 2).2
def kDs (t : List Int) (fs : List Fn) (en : Int) (ts : List (List Int)) (nd : Int) (r : Rd) : Img × Rd := kNl t fs en ts (many (fun r : Rd => r.num 8) nd.toNat r).1 (many (fun r : Rd => r.num 8) nd.toNat r).2
def kNd (t : List Int) (fs : List Fn) (en : Int) (ts : List (List Int)) (r : Rd) : Img × Rd := kDs t fs en ts (r.num 1).1 (r.num 1).2
def kTs (t : List Int) (fs : List Fn) (en nt : Int) (r : Rd) : Img × Rd := kNd t fs en (many Rd.tab nt.toNat r).1 (many Rd.tab nt.toNat r).2
def kNt (t : List Int) (fs : List Fn) (en : Int) (r : Rd) : Img × Rd := kTs t fs en (r.num 1).1 (r.num 1).2
def kEn (t : List Int) (fs : List Fn × Int) (r : Rd) : Img × Rd := kNt t fs.1 (r.num 1).1 (r.num 1).2
def kFs (t : List Int) (nf : Int) (r : Rd) : Img × Rd := kEn t ((many rdFn nf.toNat (r, 0)).1, (many rdFn nf.toNat (r, 0)).2.2) (many rdFn nf.toNat (r, 0)).2.1
def kNf (t : List Int) (r : Rd) : Img × Rd := kFs t (r.num 1).1 (r.num 1).2
def kTx (a : Int) (r : Rd) : Img × Rd := kNf (r.take a.toNat).1 (r.take a.toNat).2
theorem ExR.img : ExR rdImg := by
  have h1 : ∀ t fs en ts ds nl, ExR (kLs t fs en ts ds nl) := fun t fs en ts ds nl => (ExR.line.many nl.toNat).map fun ls => (⟨t, fs, ts, ds, ls, en⟩ : Img)
  have h2 : ∀ t fs en ts ds, ExR (kNl t fs en ts ds) := fun t fs en ts ds => ExR.bind (f := fun r => r.num 2) (g := kLs t fs en ts ds) (ExR.num 2) (h1 t fs en ts ds)
  have h3 : ∀ t fs en ts nd, ExR (kDs t fs en ts nd) := fun t fs en ts nd => ExR.bind (f := fun r => Proofs.YtechpdfcgimkkaaDoor.many (fun r : Rd => r.num 8) nd.toNat r) (g := kNl t fs en ts) ((ExR.num 8).many _) (h2 t fs en ts)
  have h4 : ∀ t fs en ts, ExR (kNd t fs en ts) := fun t fs en ts => ExR.bind (f := fun r => r.num 1) (g := kDs t fs en ts) (ExR.num 1) (h3 t fs en ts)
  have h5 : ∀ t fs en nt, ExR (kTs t fs en nt) := fun t fs en nt => ExR.bind (f := fun r => Proofs.YtechpdfcgimkkaaDoor.many Rd.tab nt.toNat r) (g := kNd t fs en) (ExR.tab.many _) (h4 t fs en)
  have h6 : ∀ t fs en, ExR (kNt t fs en) := fun t fs en => ExR.bind (f := fun r => r.num 1) (g := kTs t fs en) (ExR.num 1) (h5 t fs en)
  have h7 : ∀ t fs, ExR (kEn t fs) := fun t fs => ExR.bind (f := fun r => r.num 1) (g := kNt t fs.1) (ExR.num 1) (h6 t fs.1)
  have h8 : ∀ t nf, ExR (kFs t nf) := fun t nf => ExR.bind (f := fun r => (((Proofs.YtechpdfcgimkkaaDoor.many Proofs.YtechpdfcgimkkaaDoor.rdFn nf.toNat (r, 0)).1, (Proofs.YtechpdfcgimkkaaDoor.many Proofs.YtechpdfcgimkkaaDoor.rdFn nf.toNat (r, 0)).2.2), (Proofs.YtechpdfcgimkkaaDoor.many Proofs.YtechpdfcgimkkaaDoor.rdFn nf.toNat (r, 0)).2.1)) (g := kEn t) (ExR.fns nf.toNat 0) (h7 t)
  have h9 : ∀ t, ExR (kNf t) := fun t => ExR.bind (f := fun r => r.num 1) (g := kFs t) (ExR.num 1) (h8 t)
  have h10 : ∀ a, ExR (kTx a) := fun a => ExR.bind (f := fun r => r.take a.toNat) (g := kNf) (ExR.take _) h9
  exact ExR.bind (f := fun r => r.num 2) (g := kTx) (ExR.num 2) h10
theorem mark_enc (xs : List Int) : markChk magic (magic ++ xs) = 0 := by simp [magic, markChk]
theorem enc_mark (m : Img) : encImg m = magic ++ (encImg m).drop 4 := by
  unfold encImg magic
  simp only [List.append_assoc, List.cons_append, List.nil_append, List.drop_succ_cons, List.drop_zero]
theorem dec_whole {m : Img} (h : imgChk m = 0) (hl : (encImg m).length ≤ 100000) : decErr (encImg m) = 0 ∧ decImg (encImg m) = m := by
  have e := rdImg_enc h []
  rw [List.append_nil] at e
  refine ⟨?_, by unfold decImg; rw [e]⟩
  unfold decErr
  rw [if_neg (by omega), e]
  have hk : markChk magic (encImg m) = 0 := by rw [enc_mark]; exact mark_enc _
  rw [hk, if_neg (by simp)]
  simpa using h
theorem dec_more {m : Img} (h : imgChk m = 0) (hl : (encImg m).length < 100000) (b : Int) : decErr (encImg m ++ [b]) = 4 := by
  have e := rdImg_enc h [b]
  have hd : (encImg m ++ [b]).drop 4 = (encImg m).drop 4 ++ [b] := by
    rw [List.drop_append_of_le_length]
    rw [enc_mark]; simp [magic]
  unfold decErr
  rw [if_neg (by simp; omega), hd, e]
  have hk : markChk magic (encImg m ++ [b]) = 0 := by rw [enc_mark, List.append_assoc]; exact mark_enc _
  rw [hk, if_neg (by simp)]
  simp
theorem mark_cut (xs : List Int) : ∀ (ms : List Int) (k : Nat), k < ms.length → markChk ms ((ms ++ xs).take k) = 5
  | [], _, h => by simp at h
  | m :: ms, 0, _ => by simp [markChk]
  | m :: ms, k + 1, h => by
    rw [List.cons_append, List.take_succ_cons, markChk, if_pos rfl]
    exact mark_cut xs ms k (by simpa using h)
theorem cut_join (E : List Int) (k : Nat) (h : 4 ≤ k) : (E.take k).drop 4 ++ E.drop k = E.drop 4 := by
  have e : E.drop k = (E.drop 4).drop (k - 4) := by rw [List.drop_drop, show 4 + (k - 4) = k by omega]
  rw [List.drop_take, e, List.take_append_drop]
theorem dec_cut {m : Img} (h : imgChk m = 0) (hl : (encImg m).length ≤ 100000) (k : Nat) (hk : k < (encImg m).length) : decErr ((encImg m).take k) = 5 := by
  have hlen : ((encImg m).take k).length = k := by rw [List.length_take]; omega
  unfold decErr
  rw [if_neg (by omega)]
  by_cases h4 : k < 4
  · have e : markChk magic ((encImg m).take k) = 5 := by
      obtain ⟨X, hX⟩ : ∃ X, encImg m = magic ++ X := ⟨_, enc_mark m⟩
      rw [hX]
      exact mark_cut X magic k h4
    rw [e]
    simp
  · have hmk : markChk magic ((encImg m).take k) = 0 := by
      obtain ⟨X, hX⟩ : ∃ X, encImg m = magic ++ X := ⟨_, enc_mark m⟩
      have hm4 : magic.length ≤ k := Nat.le_of_not_lt h4
      rw [hX, List.take_append, List.take_of_length_le hm4]
      exact mark_enc _
    rw [hmk, if_neg (by simp)]
    cases hs : (rdImg ⟨((encImg m).take k).drop 4, false⟩).2.short with
    | true => simp
    | false =>
      exfalso
      have hx := ExR.img.ext ⟨((encImg m).take k).drop 4, false⟩ ((encImg m).drop k) hs
      have e1 := cut_join (encImg m) k (Nat.le_of_not_lt h4)
      have e2 := rdImg_enc h []
      rw [List.append_nil] at e2
      dsimp only at hx
      rw [e1, e2] at hx
      have h3 := congrArg (fun z : Img × Rd => z.2.left.length) hx
      simp at h3
      omega
end Go.Proofs.YtechpdfcgimkkaaDoor
