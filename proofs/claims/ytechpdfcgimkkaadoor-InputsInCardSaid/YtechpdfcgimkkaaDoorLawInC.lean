/-
  The call of boltholekeep.InputsIn returns true at every slice of numbers and every number.
-/
import Derived.Test.YtechpdfcgimkkaaDoorWalkPiC
import Derived.Test.YtechpdfcgimkkaaDoorMZC
import Derived.Test.YtechpdfcgimkkaaDoorMSC
import Derived.BigQuiet
import Derived.Deep.QuietTactic
import Derived.Deep.RegionHeld3
namespace Go.Proofs.YtechpdfcgimkkaaDoor
open Go.RowKit Go.Joins Isa
theorem inIns6 : (Tryd.prog.info? 61).map (fun i => (i.zero, i.size, i.bytes)) = some (some (.agg #[.int .i64 0, .int .i64 0, .int .i64 0, .int .i64 0, .int .i64 0, .bool false]), 6, 48) := by kernel_rfl
/-- Two instructions more. -/
theorem app_two {wr : World} {B : Nat} {v : Value} {l : List Ins} (own : wr.ownsRow B 61 6 v l.length (flat iCells l)) (hB : B ≤ wr.heap.size) (hl : l.length ≤ 100000) (x y : Ins) (w1 : World) (h1 : Below wr.heap.size wr w1) (g : Nat)
    (hg : ∀ j u, (iCells x ++ iCells y)[j]? = some u → w1.cell? ⟨g, 0 + j, none⟩ = some u) :
    ∃ a c W, (Builtin.append_ #[72, 72] 72 #[v, .slice (some ⟨g, 0, none⟩) 2 2]).run Tryd.prog w1 = .ok (.slice a (l.length + 2) c) W ∧
      W.ownsRow B 61 6 (.slice a (l.length + 2) c) (l ++ [x, y]).length (flat iCells (l ++ [x, y])) ∧ Below B wr W ∧ Keeps 61 w1 W := by
  obtain ⟨v', W, hr, ho, gr⟩ := orow_apps 61 72 6 48 _ Tryd.underlying72 inIns6 rfl (by decide) (row_up own h1) (Nat.le_trans hB h1.size) g 0 2 2 (iCells x ++ iCells y) rfl hg (by
    intro u hu
    rcases List.mem_append.1 hu with hu | hu
    · exact icells_one x u hu
    · exact icells_one y u hu) (by omega) (by unfold maxLen; omega)
  obtain ⟨a, c, rfl⟩ := orow_form' ho
  refine ⟨a, c, W, hr, ?_, (h1.mono hB).trans (obelow_grown (row_up own h1) gr (Nat.le_refl _) (Nat.le_trans hB h1.size)), Keeps.grown (row_up own h1) gr⟩
  have e1 : flat iCells l ++ (iCells x ++ iCells y) = flat iCells (l ++ [x, y]) := by simp [flat]
  have e2 : l.length + 2 = (l ++ [x, y]).length := by simp
  rw [e1] at ho
  conv => arg 6; rw [← e2]
  exact ho
theorem ins_row {w : World} {B : Nat} {v : Value} {l : List Ins} (h : w.ownsRow B 61 6 v l.length (flat iCells l)) : InsAt w v l := by
  rcases h.2 with ⟨rfl, h0⟩ | ⟨g, cap, cur, rfl, _, hg, _⟩
  · exact Or.inl ⟨by rw [], List.length_eq_zero_iff.1 h0⟩
  · refine Or.inr ⟨g, 0, cap, rfl, (Array.getElem?_eq_some_iff.1 hg).1, fun j u hj => ?_⟩
    have := h.cells (g := g) rfl j u hj
    rwa [Addr.add_lit] at this
theorem two_cells (w : World) (T : TypeId) (g : Nat) (hg : g = w.heap.size) : ∀ j u, (iCells inI ++ iCells outI)[j]? = some u → (w.alloc (.cells #[.int .i64 16, .int .i64 1, .int .i64 0, .int .i64 0, .int .i64 0, .bool false, .int .i64 17, .int .i64 0, .int .i64 1, .int .i64 0, .int .i64 0, .bool false] T)).cell? ⟨g, 0 + j, none⟩ = some u := fun j u h => by
  subst hg
  rw [World.cell?_alloc_new, Nat.zero_add]
  simpa [iCells, inI, outI] using h
theorem one_cell1 (w : World) (T : TypeId) (x : Int) : (w.alloc (.cells #[.int .i64 x] T)).cell? ⟨w.heap.size, 0, none⟩ = some (.int .i64 x) := by
  rw [World.cell?_alloc_new]; rfl
set_option maxRecDepth 100000 in
set_option maxHeartbeats 8000000 in
theorem inputsIn_law (vI : Value) (xs : List Int) (b : Int) (w : World) (ht : Tabs w) (hI : ListAt w icell 1 vI xs) (hxs : ∀ x ∈ xs, i64 x) (b1 : -9223372036854775808 ≤ b) (b2 : b ≤ 9223372036854775807) :
    Calls Tryd.prog 14 #[vI, .int .i64 b] w fun e w' => e = .returned (.bool true) ∧ Below w.heap.size w w' := by
  have IN := hid (inputs_any vI xs w hI hxs)
  obtain ⟨k0, k1⟩ := pk_bd b 12 (by decide)
  obtain ⟨k, hk⟩ := Int.eq_ofNat_of_zero_le k0
  have PA : Hid (∀ W, Calls Tryd.prog 19 #[.int .i64 b, .int .i64 12] W fun e w' => e = .returned (.int .i64 (k : Int)) ∧ w' = W) := fun W => by
    have := picked_any b 12 W (by decide) b1 b2
    rwa [hk] at this
  rw [hk] at k1
  have HT := hid ht
  have hll := inOf_len xs
  have hbd := inOf_bd xs
  have hck := told_chk (inL_ok k) (by rw [inL_len]; omega) (ins := inOf xs) (by omega) (fun x hx => by have := hbd x hx; omega) (fuel := 100) (by decide) (by decide)
  obtain ⟨st, pc, hout⟩ := inL_told k (by omega) (inOf xs) hck
  have HCK := hid hck
  have HOUT := hid hout
  generalize inOf xs = ys at *
  clear hk k0 ht hI hxs hbd hck hout
  go_enter Tryd.func14, Tryd.ntmps14
  go_upto_region 1 with fail
  go_wp2_with fail
  refine Calls.mono IN.out ?_
  rintro e w1 ⟨aY, cY, rfl, ho, hb⟩
  have HB := hid hb
  have HY := hid (row_list icell_len ho)
  have hz : w.heap.size ≤ w1.heap.size := hb.size
  clear ho hb IN
  go_wp2_with (first | (go_at_call 19; refine (PA.out _).mono ?_; rintro e w' ⟨rfl, hw⟩; rw [hw]; clear hw w'))
  go_loopw [7, 8, 24] (fun cv wv iv wr => ∃ i : Nat, iv = .int .i64 (i : Int) ∧ i ≤ k ∧ (∃ a c, cv = .slice a (2 * i) c) ∧ (∃ a c, wv = .slice a i c) ∧ Hid (wr.ownsRow w1.heap.size 61 6 cv (inL i).length (flat iCells (inL i))) ∧ Hid (wr.ownsRow w1.heap.size 3 1 wv (toldIn i ys).length (flat icell (toldIn i ys))) ∧ Hid (Below w1.heap.size w1 wr)) (fun _ _ iv _ => (k - intOf iv).toNat)
  case atStart => exact ⟨0, rfl, by omega, ⟨none, 0, rfl⟩, ⟨none, 0, rfl⟩, World.ownsRow_nil _ _ _ _, World.ownsRow_nil _ _ _ _, Below.refl _ _⟩
  case round =>
    obtain ⟨i, rfl, i1, ⟨aC, cC, rfl⟩, ⟨aW, cW, rfl⟩, hc, hwr, hbe⟩ := hrel
    have hzr : w1.heap.size ≤ wr.heap.size := hbe.out.size
    by_cases hi : i < k
    · have hii : (i : Int) < (k : Int) := by omega
      obtain ⟨w2, hw2⟩ : ∃ w2, wr.alloc (.cells #[.int .i64 17, .int .i64 0, .int .i64 1, .int .i64 0, .int .i64 0, .bool false] 61) = w2 := ⟨_, rfl⟩
      have B2 : Below wr.heap.size wr w2 := by rw [← hw2]; exact (Below.refl _ _).alloc (Nat.le_refl _) _
      have hz2 : wr.heap.size ≤ w2.heap.size := B2.size
      obtain ⟨a3, c3, W3, r1, r2, r3, r4⟩ := app_two hc.out hzr (by rw [inL_len]; omega) inI outI (w2.alloc (.cells #[.int .i64 16, .int .i64 1, .int .i64 0, .int .i64 0, .int .i64 0, .bool false, .int .i64 17, .int .i64 0, .int .i64 1, .int .i64 0, .int .i64 0, .bool false] 61)) (B2.alloc hz2 _) w2.heap.size (two_cells _ _ _ rfl)
      have hil := inL_len i
      rw [hil] at r1
      have hr2 : W3.ownsRow w1.heap.size 61 6 (.slice a3 (2 * i + 2) c3) (inL (i + 1)).length (flat iCells (inL (i + 1))) := by rw [hil] at r2; exact r2
      have hwr3 := row_keeps (row_up (row_up hwr.out B2) ((Below.refl _ _).alloc (Nat.le_refl _) (.cells #[.int .i64 16, .int .i64 1, .int .i64 0, .int .i64 0, .int .i64 0, .bool false, .int .i64 17, .int .i64 0, .int .i64 1, .int .i64 0, .int .i64 0, .bool false] 61))) r4 (by decide)
      have HR1 := hid r1
      have HR2 := hid hr2
      have HW3 := hid hwr3
      have HB3 : Hid (Below w1.heap.size w1 W3) := hbe.out.trans r3
      have hz3 : w1.heap.size ≤ W3.heap.size := HB3.out.size
      have htl := toldIn_len i ys
      have HTL := hid htl
      have HTN := hid (toldIn_next i ys)
      have HW2 := hid hw2
      clear r1 r2 r3 r4 hr2 hwr3 hil htl hw2 B2 hwr hc
      by_cases hy : i < ys.length
      · have hyy : (i : Int) < (ys.length : Int) := by omega
        obtain ⟨y, hy2⟩ : ∃ y, ys[i]? = some y := ⟨_, List.getElem?_eq_getElem hy⟩
        obtain ⟨bb, oo, cp, hv, c1, c2, c3', c4⟩ := HY.out.resolve_left (by rintro ⟨_, _, _, h⟩; rw [h] at hy; simp at hy)
        obtain ⟨rfl, rfl⟩ : aY = some ⟨bb, oo, none⟩ ∧ cY = cp := by simpa using hv
        have x0 := (HB3.out.cell (p := ⟨bb, _, none⟩) c3').trans (c4 i y hy2 0 _ rfl)
        simp only [Nat.mul_one, Nat.add_zero] at x0
        have hgd : ys.getD i 0 = y := by rw [List.getD_eq_getElem?_getD, hy2]; rfl
        obtain ⟨a4, c5, W4, q1, q2, q3, q4⟩ := app_intK HW3.out hz3 (by rw [HTL.out]; omega) y (W3.alloc (.cells #[.int .i64 y] 3)) ((Below.refl _ _).alloc (Nat.le_refl _) _) W3.heap.size (one_cell1 _ _ _)
        rw [HTL.out] at q1
        rw [← hgd, ← HTN.out] at q2
        conv at q2 => arg 5; rw [HTL.out]
        have HQ1 := hid q1
        have HQ2 := hid q2
        have HQ3 := hid (HB3.out.trans q3)
        have HQ4 := hid (row_keeps (row_up HR2.out ((Below.refl _ _).alloc (Nat.le_refl _) _)) q4 (by decide))
        clear q1 q2 q3 q4 c4 hv hgd hy2
        go_wp2_with (first
          | (go_at_call 32; refine (out_any _ _).mono ?_; rintro e w' ⟨rfl, hw⟩; rw [hw, HW2.out]; clear hw w')
          | (at_builtin; refine wpList_append_pair _ rfl (.tmp 27) (.tmp 30) 72 72 rfl _ _ rfl rfl HR1.out ?_)
          | (at_builtin; refine wpList_append_pair _ rfl (.tmp 36) (.tmp 41) 26 26 rfl _ _ rfl rfl HQ1.out ?_))
        go_roundw
        case rel => exact ⟨i + 1, by go_num, by omega, ⟨a3, c3, rfl⟩, ⟨a4, c5, rfl⟩, HQ4.out, HQ2.out, HQ3.out⟩
        case measure => first | (simp [intOf]; done) | (simp [intOf]; omega)
      · have hyy : ¬ (i : Int) < (ys.length : Int) := by omega
        have hgd : ys.getD i 0 = 0 := by rw [List.getD_eq_getElem?_getD, List.getElem?_eq_none (by omega)]; rfl
        obtain ⟨a4, c5, W4, q1, q2, q3, q4⟩ := app_intK HW3.out hz3 (by rw [HTL.out]; omega) 0 (W3.alloc (.cells #[.int .i64 0] 3)) ((Below.refl _ _).alloc (Nat.le_refl _) _) W3.heap.size (one_cell1 _ _ _)
        rw [HTL.out] at q1
        rw [← hgd, ← HTN.out] at q2
        conv at q2 => arg 5; rw [HTL.out]
        have HQ1 := hid q1
        have HQ2 := hid q2
        have HQ3 := hid (HB3.out.trans q3)
        have HQ4 := hid (row_keeps (row_up HR2.out ((Below.refl _ _).alloc (Nat.le_refl _) _)) q4 (by decide))
        clear q1 q2 q3 q4 hgd
        go_wp2_with (first
          | (go_at_call 32; refine (out_any _ _).mono ?_; rintro e w' ⟨rfl, hw⟩; rw [hw, HW2.out]; clear hw w')
          | (at_builtin; refine wpList_append_pair _ rfl (.tmp 27) (.tmp 30) 72 72 rfl _ _ rfl rfl HR1.out ?_)
          | (at_builtin; refine wpList_append_pair _ rfl (.tmp 43) (.tmp 44) 26 26 rfl _ _ rfl rfl HQ1.out ?_))
        go_roundw
        case rel => exact ⟨i + 1, by go_num, by omega, ⟨a3, c3, rfl⟩, ⟨a4, c5, rfl⟩, HQ4.out, HQ2.out, HQ3.out⟩
        case measure => first | (simp [intOf]; done) | (simp [intOf]; omega)
    · obtain rfl : i = k := by omega
      have hkk : ¬ (i : Int) < (i : Int) := by omega
      have HIA := hid (ins_row hc.out)
      have HBW : Hid (Below w.heap.size w wr) := HB.out.trans (hbe.out.mono hz)
      have TD : Hid (Calls Tryd.prog 31 #[.slice aY ys.length cY, .slice aC (2 * i) cC] wr fun e w' => ∃ a n c, e = .returned (.tuple #[.slice a n c, .int .i64 1, .bool true]) ∧ ListAt w' icell 1 (.slice a n c) (toldIn i ys) ∧ Below wr.heap.size wr w') := by
        have := told_any (inL i) ys _ aY cY wr (HT.out.below HT.out.sz HBW.out) HIA.out (HY.out.stays (Nat.le_refl _) hbe.out) (by rw [inL_len]; omega) (inL_ok i) HCK.out
        rw [HOUT.out] at this
        exact this
      have HWR := hid (row_list icell_len hwr.out)
      have hzz : w.heap.size ≤ wr.heap.size := HBW.out.size
      clear hc hwr HIA
      go_wp2_with fail
      refine Calls.mono TD.out ?_
      rintro e w2 ⟨aG, nG, cG, rfl, hG, hb2⟩
      have HG := hid hG
      have HB2 := hid (HBW.out.trans (hb2.mono hzz))
      have HW2 := hid (HWR.out.stays (Nat.le_refl _) hb2)
      have hz2 : w.heap.size ≤ w2.heap.size := HB2.out.size
      have HT2 : Hid (Tabs w2) := HT.out.below HT.out.sz HB2.out
      clear hG hb2 TD
      go_upto_region 14 with fail
      have PN : Hid (∀ W, Below w2.heap.size w2 W → Calls Tryd.prog 16 #[.slice none 0 0] W fun e w' => ∃ vT vF vB vD vL m, e = .returned (.agg #[vT, vF, vB, vD, vL, .int .i64 0]) ∧ Hid (ProgI [] m) ∧ Hid (OwnImg w' (W.heap.size + 1) vT vF vB vD vL m) ∧ Hid (Below W.heap.size W w')) := fun W hW =>
        program_img (.slice none 0 0) [] W ⟨fun _ h => (by cases h), Or.inl ⟨_, _, rfl, rfl⟩⟩ (HT2.out.below HT2.out.sz hW)
      have BB0 : Hid (Below w2.heap.size w2 w2) := Below.refl _ _
      obtain ⟨M, hmk, hlm⟩ := make_far
      have LM := hid hlm
      clear hlm
      go_cut [14] (fun ev wc => ev = .int .i64 1 ∧ Hid (Below w2.heap.size w2 wc))
      case first =>
        go_region_held3 (fun _ => True) (exact True.intro) (first
          | (go_at_call 16; refine (PN.out _ (by first | exact BB0.out.drew | exact (BB0.out.alloc (Nat.le_refl _) _).drew | exact ((BB0.out.alloc (Nat.le_refl _) _).alloc (by simp) _).drew)).mono ?_; rintro e wp ⟨vT, vF, vB, vD, vL, m, rfl, hm, hO, hbp⟩; have HBP : Hid (Below w2.heap.size w2 wp) := (by first | exact BB0.out.drew.trans (hbp.out.mono (Nat.le_refl _)) | exact ((BB0.out.alloc (Nat.le_refl _) _).drew).trans (hbp.out.mono (by simp)) | exact (((BB0.out.alloc (Nat.le_refl _) _).alloc (by simp) _).drew).trans (hbp.out.mono (by simp; omega))); have hzp : w2.heap.size ≤ wp.heap.size := HBP.out.size; have TBP : Hid (Tabs wp) := HT2.out.below HT2.out.sz HBP.out; (try (have hA0Z : Hid (wp.heap[w2.heap.size]? = some runZ) := keepD hbp.out _ _ (by first | with_reducible exact heap_alloc_new w2 runZ | with_reducible exact alloc2_old w2 runZ M))); (try (have hA0M : Hid (wp.heap[w2.heap.size]? = some M) := keepD hbp.out _ _ (by first | with_reducible exact heap_alloc_new w2 M | with_reducible exact alloc2_old w2 M runZ))); (try (have hA1Z : Hid (wp.heap[w2.heap.size + 1]? = some runZ) := keepD hbp.out _ _ (by with_reducible exact alloc2_new w2 M runZ))); (try (have hA1M : Hid (wp.heap[w2.heap.size + 1]? = some M) := keepD hbp.out _ _ (by with_reducible exact alloc2_new w2 runZ M))))
          | (go_at_call 26; refine (run_refused (r := 1) (ins := List.replicate 101 0) hm.out hO.out (by first | with_reducible exact Below.refl _ _ | with_reducible exact (Below.refl _ _).alloc (Nat.le_refl _) _ | exact ((Below.refl _ _).alloc (Nat.le_refl _) _).alloc (by simp) _) (by first | with_reducible exact TBP.out | with_reducible exact TBP.out.below TBP.out.sz ((Below.refl _ _).alloc (Nat.le_refl _) _) | exact TBP.out.below TBP.out.sz (((Below.refl _ _).alloc (Nat.le_refl _) _).alloc (by simp) _)) (by first | with_reducible exact LM.out _ _ hA0M.out | with_reducible exact LM.out _ _ hA1M.out | with_reducible exact LM.out _ _ (alloc_keep hA0M.out _) | with_reducible exact LM.out _ _ (heap_alloc_new wp M) | with_reducible exact LM.out _ _ (alloc2_old wp M runZ) | with_reducible exact LM.out _ _ (alloc2_new wp runZ M)) hm.out.far.1 (by decide)).mono ?_; rintro e wr ⟨aO, cO, rfl, hbr⟩; have HBR : Hid (Below w2.heap.size w2 wr) := (by first | exact HBP.out.trans (hbr.mono hzp) | exact (HBP.out.alloc hzp _).trans (hbr.mono (by simp; omega)) | exact ((HBP.out.alloc hzp _).alloc (by simp; omega) _).trans (hbr.mono (by simp; omega))); have hzr : w2.heap.size ≤ wr.heap.size := HBR.out.size; (try (first | (have hZr : Hid (wr.heap[w2.heap.size]? = some runZ) := keepB hbr _ _ (by first | with_reducible exact hA0Z.out | with_reducible exact alloc_keep hA0Z.out _); have hz7 := run_four hZr.out; have hf7 := free_four hZr.out) | (have hZr : Hid (wr.heap[w2.heap.size + 1]? = some runZ) := keepB hbr _ _ (by with_reducible exact hA1Z.out); have hz7 := run_four hZr.out; have hf7 := free_four hZr.out) | (have hZr : Hid (wr.heap[wp.heap.size]? = some runZ) := keepB hbr _ _ (by first | with_reducible exact heap_alloc_new wp runZ | with_reducible exact alloc2_old wp runZ M); have hz7 := run_four hZr.out; have hf7 := free_four hZr.out) | (have hZr : Hid (wr.heap[wp.heap.size + 1]? = some runZ) := keepB hbr _ _ (by with_reducible exact alloc2_new wp M runZ); have hz7 := run_four hZr.out; have hf7 := free_four hZr.out)))))
        all_goals (try go_wp2)
        all_goals go_meet
        all_goals first
          | exact ⟨rfl, four_below HBR.out (by first | exact Nat.le_refl _ | omega) _ _ _ _⟩
          | exact ⟨rfl, HBR.out.alloc hzr _⟩
      case rest =>
        obtain ⟨rfl, hbc⟩ := hcut
        obtain ⟨w3, hw3⟩ : ∃ w3, w3 = wc := ⟨_, rfl⟩
        subst hw3
        have HB3 : Hid (Below w2.heap.size w2 w3) := hbc
        have hz3 : w2.heap.size ≤ w3.heap.size := HB3.out.size
        clear hmk
        go_wp2_with fail
        refine Calls.mono (PN.out _ HB3.out) ?_
        rintro e wp ⟨vT, vF, vB, vD, vL, m, rfl, hm, hO, hbp⟩
        have HBP : Hid (Below w2.heap.size w2 wp) := HB3.out.trans (hbp.out.mono hz3)
        have hzp : w2.heap.size ≤ wp.heap.size := HBP.out.size
        have TBP : Hid (Tabs wp) := HT2.out.below HT2.out.sz HBP.out
        go_wp2_with fail
        refine Calls.mono (run_refused (r := 2) (ins := []) hm.out hO.out (Below.refl _ _) TBP.out (Or.inl ⟨_, _, rfl, rfl⟩) (hm.out.far.2.1 (i : Int) (by omega)) (by decide)) ?_
        rintro e wr ⟨aO, cO, rfl, hbr⟩
        have HBR : Hid (Below w2.heap.size w2 wr) := HBP.out.trans (hbr.mono hzp)
        have hzr : w2.heap.size ≤ wr.heap.size := HBR.out.size
        clear hm hO hbp HBP TBP hbr
        go_upto_region 16 with fail
        obtain ⟨w4, hw4⟩ : ∃ w4, wr.alloc (.cells #[.slice aO 0 cO, .int .i64 0, .int .i64 0, .int .i64 0] 52) = w4 := ⟨_, rfl⟩
        rw [hw4]
        have HB4 : Hid (Below w2.heap.size w2 w4) := by rw [← hw4]; exact HBR.out.alloc hzr _
        have hz4 : w2.heap.size ≤ w4.heap.size := HB4.out.size
        clear hw4
        go_wp2_with fail
        refine Calls.mono (PN.out _ HB4.out) ?_
        rintro e wp ⟨vT, vF, vB, vD, vL, m, rfl, hm, hO, hbp⟩
        have HBP : Hid (Below w2.heap.size w2 wp) := HB4.out.trans (hbp.out.mono hz4)
        have hzp : w2.heap.size ≤ wp.heap.size := HBP.out.size
        have TBP : Hid (Tabs wp) := HT2.out.below HT2.out.sz HBP.out
        go_wp2_with fail
        refine Calls.mono (run_refused (r := 2) (ins := [1099511627777]) hm.out hO.out ((Below.refl _ _).alloc (Nat.le_refl _) _) (TBP.out.below TBP.out.sz ((Below.refl _ _).alloc (Nat.le_refl _) _)) (ints_new wp [1099511627777] #[.int .i64 1099511627777] 3 rfl _ _ _ rfl rfl (Nat.le_refl _) (by unfold maxLen; decide)) hm.out.far.2.2 (by decide)) ?_
        rintro e w5 ⟨aQ, cQ, rfl, hb5⟩
        have HB5 : Hid (Below w2.heap.size w2 w5) := (HBP.out.alloc hzp _).trans (hb5.mono (by simp; omega))
        have hz5 : w2.heap.size ≤ w5.heap.size := HB5.out.size
        have EQ : Hid (∀ W, Below w5.heap.size w5 W → Calls Tryd.prog 34 #[.slice aG nG cG, .slice aW i cW] W fun e w' => e = .returned (.bool true) ∧ ∃ n, w' = W.drewN n) := fun W hW => by
          have hb : Below w2.heap.size w2 W := HB5.out.trans (hW.mono hz5)
          have := equal_any _ _ (toldIn i ys) (toldIn i ys) W (HG.out.stays (Nat.le_refl _) hb) (HW2.out.stays (Nat.le_refl _) hb)
          simpa using this
        clear hm hO hbp HBP TBP hb5
        go_wp2_with (first | (go_at_call 34; refine (EQ.out _ (by first | exact (Below.refl _ _).alloc (Nat.le_refl _) _ | exact Below.refl _ _)).mono ?_; rintro e w' ⟨rfl, n, rfl⟩))
        go_ret
        exact ⟨rfl, HB2.out.trans ((HB5.out.trans ((below_drewN ((Below.refl _ _).alloc (Nat.le_refl _) _) _).mono hz5)).mono hz2)⟩
end Go.Proofs.YtechpdfcgimkkaaDoor
