/-
  The call of boltholekeep.FuelRuns returns true, whatever the input (written by genfu.py).
-/
import Derived.Test.YtechpdfcgimkkaaDoorWalkPiC
import Derived.Test.YtechpdfcgimkkaaDoorMZC
import Derived.BigQuiet
import Derived.Deep.QuietTactic
import Derived.Deep.RegionHeld3
namespace Go.Proofs.YtechpdfcgimkkaaDoor
open Go.RowKit Go.Joins Isa
set_option maxRecDepth 100000 in
set_option maxHeartbeats 4000000 in
theorem stepEnds_any (w : World) (ht : Tabs w) : Calls Tryd.prog 35 #[] w fun e w' => e = .returned (.bool true) ∧ Below w.heap.size w w' := by
  have PR := hid (program_img (.slice none 0 0) [] w ⟨fun _ h => (by cases h), Or.inl ⟨_, _, rfl, rfl⟩⟩ ht)
  have HT := hid ht
  clear ht
  go_enter Tryd.func35, Tryd.ntmps35
  go_wp2_with fail
  refine Calls.mono PR.out ?_
  rintro e w1 ⟨vT, vF, vB, vD, vL, m, rfl, hm, hO, hb⟩
  have hc := hm.run (ins := []) (fuel := 0) (by decide) (by decide) (by decide) (by intro x hx; cases hx)
  have hr := run_zero hc
  have R := run_own vT vF vB vD vL (.slice none 0 0) m [] 0 w1 hO.at hm.chk.2.1 (HT.out.below HT.out.sz hb) (Or.inl ⟨_, _, rfl, rfl⟩)
  rw [hm.entry, hr, hc] at R
  have HR := hid R
  have HB := hid hb
  have hz : w.heap.size ≤ w1.heap.size := hb.size
  clear R hr hc hO hm hb PR
  go_wp2_with fail
  refine Calls.mono HR.out ?_
  rintro e w2 ⟨vO, rfl, ho, hb2⟩
  obtain ⟨aO, cO, rfl⟩ := orow_form' ho
  have HB2 := hid (HB.out.trans (hb2.mono hz))
  have hz2 : w.heap.size ≤ w2.heap.size := HB2.out.size
  clear ho hb2 HR
  go_wp2_with fail
  go_ret
  exact ⟨rfl, HB2.out.alloc hz2 _⟩
set_option maxRecDepth 100000 in
set_option maxHeartbeats 8000000 in
theorem fuelRuns_law (v : Value) (l : List Rw) (vI : Value) (xs : List Int) (a b : Int) (w : World) (ht : Tabs w) (hR : RawsAt w v l) (hI : ListAt w icell 1 vI xs) (hxs : ∀ x ∈ xs, i64 x) (a1 : -9223372036854775808 ≤ a) (a2 : a ≤ 9223372036854775807) (b1 : -9223372036854775808 ≤ b) (b2 : b ≤ 9223372036854775807) :
    Calls Tryd.prog 13 #[v, vI, .int .i64 a, .int .i64 b] w fun e w' => e = .returned (.bool true) ∧ Below w.heap.size w w' := by
  have SE := hid (stepEnds_any w ht)
  have PR := hid (fun W (hb : Below w.heap.size w W) => program_img v l W ⟨hR.1, by
    rcases hR.2 with h | ⟨bb, oo, cp, hv, c1, c2, c3, c4⟩
    · exact Or.inl h
    · have hz := hb.size
      exact Or.inr ⟨bb, oo, cp, hv, c1, c2, by omega, fun j r hj => by
        obtain ⟨d0, d1, d2, d3⟩ := c4 j r hj
        exact ⟨(hb.cell (p := ⟨bb, _, none⟩) c3).trans d0, (hb.cell (p := ⟨bb, _, none⟩) c3).trans d1, (hb.cell (p := ⟨bb, _, none⟩) c3).trans d2, (hb.cell (p := ⟨bb, _, none⟩) c3).trans d3⟩⟩⟩ (ht.below ht.sz hb))
  have HT := hid ht
  have HI := hid hI
  have HX := hid hxs
  obtain ⟨aV, cV, rfl, lV⟩ := hI.form
  obtain ⟨k0, k1⟩ := pk_bd a 60 (by decide)
  obtain ⟨j0, j1⟩ := pk_bd b 60 (by decide)
  obtain ⟨k, hk⟩ := Int.eq_ofNat_of_zero_le k0
  obtain ⟨j, hj⟩ := Int.eq_ofNat_of_zero_le j0
  have PA : Hid (∀ W, Calls Tryd.prog 19 #[.int .i64 a, .int .i64 60] W fun e w' => e = .returned (.int .i64 (k : Int)) ∧ w' = W) := fun W => by
    have := picked_any a 60 W (by decide) a1 a2
    rwa [hk] at this
  have PB : Hid (∀ W, Calls Tryd.prog 19 #[.int .i64 b, .int .i64 60] W fun e w' => e = .returned (.int .i64 (j : Int)) ∧ w' = W) := fun W => by
    have := picked_any b 60 W (by decide) b1 b2
    rwa [hj] at this
  rw [hk] at k1
  rw [hj] at j1
  unfold maxLen at lV
  clear hk hj k0 j0 ht hI hR hxs
  go_enter Tryd.func13, Tryd.ntmps13
  go_wp2_with fail
  refine Calls.mono SE.out ?_
  rintro e w0 ⟨rfl, hb0⟩
  have HB0 := hid hb0
  have hz0 : w.heap.size ≤ w0.heap.size := hb0.size
  clear hb0
  go_wp2_with fail
  refine Calls.mono (PR.out _ HB0.out) ?_
  rintro e w1 ⟨vT, vF, vB, vD, vL, m, rfl, hm, hO, hb⟩
  obtain ⟨hc, hok, h1, h2⟩ := hm.chk
  have hen := hm.entry
  have hl := inOf_len xs
  have hbd := inOf_bd xs
  have hr1 := hm.run (ins := inOf xs) (fuel := (k : Int)) (by omega) (by omega) (by omega) (fun x hx => by have := hbd x hx; omega)
  have hr2 := hm.run (ins := inOf xs) (fuel := (k : Int) + (j : Int)) (by omega) (by omega) (by omega) (fun x hx => by have := hbd x hx; omega)
  have HFM := hid (fuel_more m (inOf xs) k j hr1 hr2)
  have HIM : Hid (ImgAt w1 vT vF vB vD vL m) := hO.at
  obtain ⟨aT, cT, rfl⟩ := orow_form' hO.text
  obtain ⟨aF, cF, rfl⟩ := orow_form' hO.funcs
  obtain ⟨us, hus, -, -⟩ := hO.tables
  obtain ⟨aB, cB, rfl⟩ := orow_form' hus
  obtain ⟨aD, cD, rfl⟩ := orow_form' hO.data
  obtain ⟨aL, cL, rfl⟩ := orow_form' hO.lines
  have HB1 : Hid (Below w.heap.size w w1) := HB0.out.trans (hb.mono hz0)
  have hz1 : w.heap.size ≤ w1.heap.size := HB1.out.size
  have HT1 : Hid (Tabs w1) := HT.out.below HT.out.sz HB1.out
  have HOO := hid hO
  have HMM := hid hm
  clear hO hus hm
  go_upto_region 4 with fail
  obtain ⟨w2, hw2⟩ : ∃ w2, w1.alloc (.cells #[.slice aT m.text.length cT, .slice aF m.funcs.length cF, .slice aB us.length cB, .slice aD m.data.length cD, .slice aL m.lines.length cL, .int .i64 0] 29) = w2 := ⟨_, rfl⟩
  rw [hw2]
  have HX2 : Hid (w2.heap[w1.heap.size]? = some (.cells #[.slice aT m.text.length cT, .slice aF m.funcs.length cF, .slice aB us.length cB, .slice aD m.data.length cD, .slice aL m.lines.length cL, .int .i64 0] 29)) := by rw [← hw2]; exact heap_alloc_new _ _
  have HBB : Hid (Below w1.heap.size w1 w2) := by rw [← hw2]; exact (Below.refl _ _).alloc (Nat.le_refl _) _
  have hgl : w1.heap.size < w2.heap.size := (Array.getElem?_eq_some_iff.1 HX2.out).1
  have GEN : Hid (∀ f : Int, runChk m (inOf xs) f = 0 → ∀ (W : World) (aI : Option Addr) (cI : Nat), ListAt W icell 1 (.slice aI (inOf xs).length cI) (inOf xs) → Below w1.heap.size w1 W → W.heap[w1.heap.size]? = some (.cells #[.slice aT m.text.length cT, .slice aF m.funcs.length cF, .slice aB us.length cB, .slice aD m.data.length cD, .slice aL m.lines.length cL, .int .i64 0] 29) → Calls Tryd.prog 26 #[.agg #[.slice aT m.text.length cT, .slice aF m.funcs.length cF, .slice aB us.length cB, .slice aD m.data.length cD, .slice aL m.lines.length cL, .int .i64 0], .slice aI (inOf xs).length cI, .int .i64 f] W fun e w' => ∃ aO cO, e = .returned (.tuple #[.agg #[.slice aO (runOut m (inOf xs) f).told.length cO, .int .i64 (runOut m (inOf xs) f).en, .int .i64 (runOut m (inOf xs) f).st, .int .i64 (runOut m (inOf xs) f).pc], .int .i64 0]) ∧ Hid (w'.ownsRow W.heap.size 3 1 (.slice aO (runOut m (inOf xs) f).told.length cO) (runOut m (inOf xs) f).told.length (flat icell (runOut m (inOf xs) f).told)) ∧ Hid (Below W.heap.size W w') ∧ (w'.cell? ⟨w1.heap.size, 0, none⟩ = some (.slice aT m.text.length cT) ∧ w'.cell? ⟨w1.heap.size, 1, none⟩ = some (.slice aF m.funcs.length cF) ∧ w'.cell? ⟨w1.heap.size, 2, none⟩ = some (.slice aB us.length cB) ∧ w'.cell? ⟨w1.heap.size, 3, none⟩ = some (.slice aD m.data.length cD) ∧ w'.cell? ⟨w1.heap.size, 4, none⟩ = some (.slice aL m.lines.length cL) ∧ w'.cell? ⟨w1.heap.size, 5, none⟩ = some (.int .i64 0)) ∧ Hid (∀ k o, W.heap[k]? = some o → w'.heap[k]? = some o)) := fun f hf W aI cI hin hW hX => by
    have := run_own _ _ _ _ _ _ m (inOf xs) f W (HIM.out.stays (Nat.le_refl _) hW) hok (HT1.out.below HT1.out.sz hW) hin
    rw [hen, hf] at this
    refine this.mono ?_
    rintro e w' ⟨vO, rfl, ho, hb⟩
    obtain ⟨aO, cO, rfl⟩ := orow_form' ho
    exact ⟨aO, cO, rfl, ho, hb, img_six ((hb.block _ (Array.getElem?_eq_some_iff.1 hX).1).trans hX), fun k o q => (hb.block k (Array.getElem?_eq_some_iff.1 q).1).trans q⟩
  have IN : Hid (∀ W, Below w1.heap.size w1 W → W.heap[w1.heap.size]? = some (.cells #[.slice aT m.text.length cT, .slice aF m.funcs.length cF, .slice aB us.length cB, .slice aD m.data.length cD, .slice aL m.lines.length cL, .int .i64 0] 29) → Calls Tryd.prog 36 #[.slice aV xs.length cV] W fun e w' => ∃ aI cI, e = .returned (.slice aI (inOf xs).length cI) ∧ Hid (ListAt w' icell 1 (.slice aI (inOf xs).length cI) (inOf xs)) ∧ Hid (∀ w0 : World, Below w0.heap.size w0 W → w0.heap.size ≤ W.heap.size → Below w0.heap.size w0 w') ∧ (w'.cell? ⟨w1.heap.size, 0, none⟩ = some (.slice aT m.text.length cT) ∧ w'.cell? ⟨w1.heap.size, 1, none⟩ = some (.slice aF m.funcs.length cF) ∧ w'.cell? ⟨w1.heap.size, 2, none⟩ = some (.slice aB us.length cB) ∧ w'.cell? ⟨w1.heap.size, 3, none⟩ = some (.slice aD m.data.length cD) ∧ w'.cell? ⟨w1.heap.size, 4, none⟩ = some (.slice aL m.lines.length cL) ∧ w'.cell? ⟨w1.heap.size, 5, none⟩ = some (.int .i64 0)) ∧ Hid (∀ k o, W.heap[k]? = some o → w'.heap[k]? = some o)) := fun W hW hX => by
    refine (inputs_any _ xs W (HI.out.stays (Nat.le_refl _) (HB1.out.trans (hW.mono hz1))) HX.out).mono ?_
    rintro e w' ⟨aI, cI, rfl, ho, hb⟩
    exact ⟨aI, cI, rfl, row_list icell_len ho, fun w0 h0 hl => h0.trans (hb.mono hl), img_six ((hb.block _ (Array.getElem?_eq_some_iff.1 hX).1).trans hX), fun k o q => (hb.block k (Array.getElem?_eq_some_iff.1 q).1).trans q⟩
  obtain ⟨R1, hR1⟩ : ∃ R, runOut m (inOf xs) (k : Int) = R := ⟨_, rfl⟩
  obtain ⟨R2, hR2⟩ : ∃ R, runOut m (inOf xs) ((k : Int) + (j : Int)) = R := ⟨_, rfl⟩
  have RA := hid (GEN.out _ hr1)
  have RB := hid (GEN.out _ hr2)
  rw [hR1] at RA HFM
  rw [hR2] at RB HFM
  clear GEN hr1 hr2 hR1 hR2 HMM hc hok hen HOO hb h1 h2 hbd PR SE hw2
  go_wp2_with (first | (go_at_call 19; refine (PA.out _).mono ?_; rintro e w' ⟨rfl, hw⟩; rw [hw]; clear hw w'))
  have hs0 := img_six HX2.out
  obtain ⟨s0, s1, s2, s3, s4, s5⟩ := id hs0
  go_upto_region 5 with fail
  go_cut [11, 12] (fun pv ev wc => ∃ gb aO cO, pv = .pointer (some ⟨gb, 0, none⟩) ∧ ev = .int .i64 0 ∧ w2.heap.size ≤ gb ∧ Hid (wc.heap[gb]? = some (.cells #[.slice aO R1.told.length cO, .int .i64 R1.en, .int .i64 R1.st, .int .i64 R1.pc] 52)) ∧ Hid (ListAt wc icell 1 (.slice aO R1.told.length cO) R1.told) ∧ Hid (Below w2.heap.size w2 wc))
  case first =>
    have hgz : ¬ w1.heap.size = w2.heap.size := by omega
    have BB0 : Hid (Below w2.heap.size w2 w2) := Below.refl _ _
    go_region_held3 (fun w' => w'.cell? ⟨w1.heap.size, 0, none⟩ = some (.slice aT m.text.length cT) ∧ w'.cell? ⟨w1.heap.size, 1, none⟩ = some (.slice aF m.funcs.length cF) ∧ w'.cell? ⟨w1.heap.size, 2, none⟩ = some (.slice aB us.length cB) ∧ w'.cell? ⟨w1.heap.size, 3, none⟩ = some (.slice aD m.data.length cD) ∧ w'.cell? ⟨w1.heap.size, 4, none⟩ = some (.slice aL m.lines.length cL) ∧ w'.cell? ⟨w1.heap.size, 5, none⟩ = some (.int .i64 0)) (first | with_reducible assumption | with_reducible exact six_far hgz hSr _ _ _ _ | with_reducible exact six_far hgi hSr _ _ _ _ | go_keep) (first
      | (go_at_call 36; refine (IN.out _ (by first | exact HBB.out.drew | exact (HBB.out.alloc (by omega) _).drew | exact HBB.out | exact HBB.out.alloc (by omega) _) (by first | exact HX2.out | exact (heap_alloc_old _ _ hgl).trans HX2.out)).mono ?_; rintro e wi ⟨aI, cI, rfl, hIn, hbx, hS, hK⟩; have HBI : Hid (Below w2.heap.size w2 wi) := hbx.out _ (by first | exact BB0.out.drew | exact (BB0.out.alloc (Nat.le_refl _) _).drew | exact BB0.out | exact BB0.out.alloc (Nat.le_refl _) _) (by first | exact Nat.le_refl _ | (simp; done)); have HXi := hid (hK.out _ _ (by first | exact HX2.out | exact (heap_alloc_old _ _ hgl).trans HX2.out)); have hzi : w2.heap.size ≤ wi.heap.size := HBI.out.size; have hgi : ¬ w1.heap.size = wi.heap.size := (by omega); have hgj : w1.heap.size < wi.heap.size := (by omega); have HBi : Hid (Below w1.heap.size w1 wi) := HBB.out.trans (HBI.out.mono (by omega)); (try (have hZ : Hid (wi.heap[w2.heap.size]? = some runZ) := hK.out _ _ (heap_alloc_new w2 runZ); have hzl : w2.heap.size < wi.heap.size := (Array.getElem?_eq_some_iff.1 hZ.out).1; have hz6 := run_four hZ.out; have hf6 := free_four hZ.out)))
      | (go_at_call 26; refine (RA.out _ _ _ (by first | exact hIn.out | exact hIn.out.stays (Nat.le_refl _) ((Below.refl _ _).alloc (Nat.le_refl _) _)) (by first | exact HBi.out | exact HBi.out.alloc (by omega) _) (by first | exact HXi.out | exact (heap_alloc_old _ _ hgj).trans HXi.out)).mono ?_; rintro e wr ⟨aO, cO, rfl, hO, hbr, hSr, hKr⟩; have HBR : Hid (Below w2.heap.size w2 wr) := (by first | exact HBI.out.trans (hbr.out.mono (by omega)) | exact (HBI.out.alloc (by omega) _).trans (hbr.out.mono (by simp; omega))); have hzr : w2.heap.size ≤ wr.heap.size := HBR.out.size; have hgr : ¬ w1.heap.size = wr.heap.size := (by omega); (try (first | (have hZr : Hid (wr.heap[w2.heap.size]? = some runZ) := hKr.out _ _ hZ.out; have hz7 := run_four hZr.out; have hf7 := free_four hZr.out) | (have hZr : Hid (wr.heap[wi.heap.size]? = some runZ) := hKr.out _ _ (heap_alloc_new wi runZ); have hz7 := run_four hZr.out; have hf7 := free_four hZr.out)))))
    all_goals (try go_wp2)
    all_goals go_meet
    all_goals first
      | (obtain ⟨b1, b2, b3⟩ := box_end1 hZr.out hO.out (by first | exact hzl | (simp; done) | (simp; omega) | omega) HBR.out (by first | exact Nat.le_refl _ | exact hzi | omega) (.slice aO R1.told.length cO) (.int .i64 R1.en) (.int .i64 R1.st) (.int .i64 R1.pc); exact ⟨_, aO, cO, rfl, rfl, by first | exact Nat.le_refl _ | exact hzi | omega, b1, b2, b3⟩)
      | (obtain ⟨b1, b2, b3⟩ := box_end2 hO.out HBR.out hzr (.cells #[.slice aO R1.told.length cO, .int .i64 R1.en, .int .i64 R1.st, .int .i64 R1.pc] 52); exact ⟨_, aO, cO, rfl, rfl, hzr, b1, b2, b3⟩)
  case rest =>
    obtain ⟨ga, aA, cA, rfl, rfl, hga, HBA, HLA, HBWA⟩ := hcut
    obtain ⟨w3, hw3⟩ : ∃ w3, w3 = wc := ⟨_, rfl⟩
    subst hw3
    have HB3 : Hid (Below w1.heap.size w1 w3) := HBB.out.trans (HBWA.out.mono (by omega))
    have HX3 := hid ((HBWA.out.block _ hgl).trans HX2.out)
    have hz3 : w2.heap.size ≤ w3.heap.size := HBWA.out.size
    have hgl3 : w1.heap.size < w3.heap.size := by omega
    have hga3 : ga < w3.heap.size := (Array.getElem?_eq_some_iff.1 HBA.out).1
    clear hs0 s0 s1 s2 s3 s4 s5
    have hs0 := img_six HX3.out
    obtain ⟨s0, s1, s2, s3, s4, s5⟩ := id hs0
    have hWk : IntKind.i64.wrap ((k : Int) + (j : Int)) = (k : Int) + (j : Int) := by rw [IntKind.wrap_i64]; omega
    go_upto_region 6 with fail
    go_cut [13, 14] (fun pv ev wc => ∃ gb aO cO, pv = .pointer (some ⟨gb, 0, none⟩) ∧ ev = .int .i64 0 ∧ w3.heap.size ≤ gb ∧ Hid (wc.heap[gb]? = some (.cells #[.slice aO R2.told.length cO, .int .i64 R2.en, .int .i64 R2.st, .int .i64 R2.pc] 52)) ∧ Hid (ListAt wc icell 1 (.slice aO R2.told.length cO) R2.told) ∧ Hid (Below w3.heap.size w3 wc))
    case first =>
      have hgz : ¬ w1.heap.size = w3.heap.size := by omega
      have BB0 : Hid (Below w3.heap.size w3 w3) := Below.refl _ _
      go_region_held3 (fun w' => w'.cell? ⟨w1.heap.size, 0, none⟩ = some (.slice aT m.text.length cT) ∧ w'.cell? ⟨w1.heap.size, 1, none⟩ = some (.slice aF m.funcs.length cF) ∧ w'.cell? ⟨w1.heap.size, 2, none⟩ = some (.slice aB us.length cB) ∧ w'.cell? ⟨w1.heap.size, 3, none⟩ = some (.slice aD m.data.length cD) ∧ w'.cell? ⟨w1.heap.size, 4, none⟩ = some (.slice aL m.lines.length cL) ∧ w'.cell? ⟨w1.heap.size, 5, none⟩ = some (.int .i64 0)) (first | with_reducible assumption | with_reducible exact six_far hgz hSr _ _ _ _ | with_reducible exact six_far hgi hSr _ _ _ _ | go_keep) (first
        | (go_at_call 36; refine (IN.out _ (by first | exact HB3.out.drew | exact (HB3.out.alloc (by omega) _).drew | exact HB3.out | exact HB3.out.alloc (by omega) _) (by first | exact HX3.out | exact (heap_alloc_old _ _ hgl3).trans HX3.out)).mono ?_; rintro e wi ⟨aI, cI, rfl, hIn, hbx, hS, hK⟩; have HBI : Hid (Below w3.heap.size w3 wi) := hbx.out _ (by first | exact BB0.out.drew | exact (BB0.out.alloc (Nat.le_refl _) _).drew | exact BB0.out | exact BB0.out.alloc (Nat.le_refl _) _) (by first | exact Nat.le_refl _ | (simp; done)); have HXi := hid (hK.out _ _ (by first | exact HX3.out | exact (heap_alloc_old _ _ hgl3).trans HX3.out)); have hzi : w3.heap.size ≤ wi.heap.size := HBI.out.size; have hgi : ¬ w1.heap.size = wi.heap.size := (by omega); have hgj : w1.heap.size < wi.heap.size := (by omega); have HBi : Hid (Below w1.heap.size w1 wi) := HB3.out.trans (HBI.out.mono (by omega)); (try (have hZ : Hid (wi.heap[w3.heap.size]? = some runZ) := hK.out _ _ (heap_alloc_new w3 runZ); have hzl : w3.heap.size < wi.heap.size := (Array.getElem?_eq_some_iff.1 hZ.out).1; have hz6 := run_four hZ.out; have hf6 := free_four hZ.out)))
        | (go_at_call 26; refine (RB.out _ _ _ (by first | exact hIn.out | exact hIn.out.stays (Nat.le_refl _) ((Below.refl _ _).alloc (Nat.le_refl _) _)) (by first | exact HBi.out | exact HBi.out.alloc (by omega) _) (by first | exact HXi.out | exact (heap_alloc_old _ _ hgj).trans HXi.out)).mono ?_; rintro e wr ⟨aO, cO, rfl, hO, hbr, hSr, hKr⟩; have HBR : Hid (Below w3.heap.size w3 wr) := (by first | exact HBI.out.trans (hbr.out.mono (by omega)) | exact (HBI.out.alloc (by omega) _).trans (hbr.out.mono (by simp; omega))); have hzr : w3.heap.size ≤ wr.heap.size := HBR.out.size; have hgr : ¬ w1.heap.size = wr.heap.size := (by omega); (try (first | (have hZr : Hid (wr.heap[w3.heap.size]? = some runZ) := hKr.out _ _ hZ.out; have hz7 := run_four hZr.out; have hf7 := free_four hZr.out) | (have hZr : Hid (wr.heap[wi.heap.size]? = some runZ) := hKr.out _ _ (heap_alloc_new wi runZ); have hz7 := run_four hZr.out; have hf7 := free_four hZr.out))))
        | (go_at_call 19; refine (PB.out _).mono ?_; rintro e w' ⟨rfl, hw⟩; rw [hw]; clear hw w'))
      all_goals (try go_wp2)
      all_goals go_meet
      all_goals first
        | (obtain ⟨b1, b2, b3⟩ := box_end1 hZr.out hO.out (by first | exact hzl | (simp; done) | (simp; omega) | omega) HBR.out (by first | exact Nat.le_refl _ | exact hzi | omega) (.slice aO R2.told.length cO) (.int .i64 R2.en) (.int .i64 R2.st) (.int .i64 R2.pc); exact ⟨_, aO, cO, rfl, rfl, by first | exact Nat.le_refl _ | exact hzi | omega, b1, b2, b3⟩)
        | (obtain ⟨b1, b2, b3⟩ := box_end2 hO.out HBR.out hzr (.cells #[.slice aO R2.told.length cO, .int .i64 R2.en, .int .i64 R2.st, .int .i64 R2.pc] 52); exact ⟨_, aO, cO, rfl, rfl, hzr, b1, b2, b3⟩)
    case rest =>
      obtain ⟨gb, aC, cC, rfl, rfl, hgb, HBC, HLC, HBWC⟩ := hcut
      obtain ⟨w4, hw4⟩ : ∃ w4, w4 = wc := ⟨_, rfl⟩
      subst hw4
      have HBA4 := hid ((HBWC.out.block _ hga3).trans HBA.out)
      have HLA4 := hid (HLA.out.stays (Nat.le_refl _) HBWC.out)
      have HB4 : Hid (Below w.heap.size w w4) := HB1.out.trans ((HB3.out.trans (HBWC.out.mono (by omega))).mono hz1)
      have hz4 : w.heap.size ≤ w4.heap.size := HB4.out.size
      clear hs0 s0 s1 s2 s3 s4 s5
      obtain ⟨p0, p1, p2, p3⟩ := run_four HBA4.out
      obtain ⟨q0, q1, q2, q3⟩ := run_four HBC.out
      obtain ⟨hst, ⟨t, ht2⟩, hen2⟩ := HFM.out
      have hle : R1.told.length ≤ R2.told.length := by rw [ht2]; simp
      obtain ⟨hfr, hcap⟩ := list_front HLC.out R1.told.length hle
      have htk : R2.told.take R1.told.length = R1.told := by rw [ht2]; simp
      rw [htk] at hfr
      have HFR := hid hfr
      have HE2 := hid hen2
      have d1 : decide ((R2.told.length : Int) < (R1.told.length : Int)) = false := by simp; omega
      have d2 : decide ((k : Int) < R1.st) = false := by simp; omega
      have hcap' : (R1.told.length : Int) ≤ (cC : Int) := by omega
      have hcapn : ¬ cC < R1.told.length := by omega
      have hcapn' : ¬ (cC : Int) < (R1.told.length : Int) := by omega
      have hge0 : (0 : Int) ≤ (R1.told.length : Int) := by omega
      have lA := HLA4.out.form
      have hA9 : R1.told.length ≤ 9223372036854775807 := by obtain ⟨_, _, _, h⟩ := lA; unfold maxLen at h; omega
      have hC9 : R2.told.length ≤ 9223372036854775807 := by obtain ⟨_, _, _, h⟩ := HLC.out.form; unfold maxLen at h; omega
      have EQ : Hid (∀ W, Below w4.heap.size w4 W → Calls Tryd.prog 34 #[.slice aA R1.told.length cA, .slice aC R1.told.length cC] W fun e w' => e = .returned (.bool true) ∧ ∃ n, w' = W.drewN n) := fun W hW => by
        have := equal_any _ _ R1.told R1.told W (HLA4.out.stays (Nat.le_refl _) hW) (HFR.out.stays (Nat.le_refl _) hW)
        simpa using this
      clear hst ht2 hen2 hfr htk lA IN RA RB HFM
      go_wp2_with fail
      go_quiet (first | (go_at_call 34; exact Calls.quiet_of (EQ.out _ (below_drewN (Below.refl _ _) _))))
      have HFIN : Hid (∀ n, Below w.heap.size w (w4.drewN n)) := fun n => HB4.out.trans ((below_drewN (Below.refl _ _) n).mono hz4)
      rcases HE2.out with ⟨he, hs⟩ | heq
      · have e1 : (R1.en == 3) = true := by simp [he]
        have e2 : (R1.st == (k : Int)) = true := by simp [hs]
        clear he hs
        go_wp2_with fail
        go_ret
        exact ⟨rfl, HFIN.out _⟩
      · rw [heq] at q0 q1 q2 q3
        by_cases c1 : R1.en = 3
        · have e1 : (R1.en == 3) = true := by simp [c1]
          by_cases c2 : R1.st = (k : Int)
          · have e2 : (R1.st == (k : Int)) = true := by simp [c2]
            clear c1 c2
            go_wp2_with fail
            go_ret
            exact ⟨rfl, HFIN.out _⟩
          · have e2 : (R1.st == (k : Int)) = false := by simp [c2]
            clear c1 c2
            go_wp2_with fail
            go_ret
            exact ⟨rfl, HFIN.out _⟩
        · have e1 : (R1.en == 3) = false := by simp [c1]
          clear c1
          go_wp2_with fail
          go_ret
          exact ⟨rfl, HFIN.out _⟩
end Go.Proofs.YtechpdfcgimkkaaDoor
