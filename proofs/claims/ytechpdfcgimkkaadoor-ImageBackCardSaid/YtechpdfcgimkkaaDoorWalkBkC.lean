/-
  boltholekeep's plan: a block of raw things.
-/
import Derived.Test.YtechpdfcgimkkaaDoorMUC
import Derived.Test.YtechpdfcgimkkaaDoorWalkAnyC
import Derived.Deep.CutBlock
import Derived.Deep.RegionHeld3
namespace Go.Proofs.YtechpdfcgimkkaaDoor
open Go.RowKit Go.Joins Isa
set_option maxRecDepth 100000 in
set_option maxHeartbeats 8000000 in
theorem block_any (v : Value) (l : List Rw) (n first last funcs : Int) (w : World) (B gp : Nat) (vB vF : Value) (vs : List Value) (bs : List (List Sp)) (fs : List Int) (hR : RawsAt w v l) (hl : l.length ≤ 150) (hP : PlanAt w B gp vB vF vs bs fs) (hbs : bs.length ≤ 1000)
    (n0 : 0 ≤ n) (n1 : n ≤ 1000) (f0 : 0 ≤ first) (f1 : first ≤ last) (f2 : last ≤ 1000) (g0 : 1 ≤ funcs) (g1 : funcs ≤ 3) :
    Calls Tryd.prog 38 #[.pointer (some ⟨gp, 0, none⟩), v, .int .i64 n, .int .i64 first, .int .i64 last, .int .i64 funcs] w fun e w' => e = .returned (.tuple #[]) ∧
      ∃ vB' vs', PlanAt w' B gp vB' vF vs' (bs ++ [blockOf l n first last funcs]) fs ∧ Below B w w' := by
  obtain ⟨aa, cp, rfl⟩ := raw_form hR
  have HR : Hid (RawsAt w (.slice aa l.length cp) l) := hR
  have HP : Hid (PlanAt w B gp vB vF vs bs fs) := hP
  clear hR hP
  go_enter Tryd.func38, Tryd.ntmps38
  go_wp2_with fail
  go_loopw [12, 13] (fun b i wr => ∃ j : Nat, j ≤ l.length - 1 ∧ i = .int .i64 (j : Int) ∧ Hid (wr.ownsRow w.heap.size 118 9 b j (flat Sp.cells ((l.take j).map (spOf funcs)))) ∧ Hid (Below w.heap.size w wr)) (fun _ i _ => (l.length - intOf i).toNat)
  case atStart => exact ⟨0, by omega, rfl, World.ownsRow_nil _ _ _ _, Below.refl _ _⟩
  case round =>
    obtain ⟨j, j1, rfl, own, bel⟩ := hrel
    by_cases hj : j < l.length - 1
    · obtain ⟨r, hr⟩ : ∃ r, l[j]? = some r := ⟨_, List.getElem?_eq_getElem (by omega)⟩
      obtain ⟨bb, oo, cap, hv, c1, c2, c3, ⟨x1, x2, x3, x4, x5, x6, x7, x8⟩, d0, d1, d2, d3⟩ := raw_cells HR.out hr
      cases hv
      have hjj : (j : Int) < (l.length : Int) - 1 := by omega
      have hjl : j < l.length := by omega
      have hjl' : (j : Int) < (l.length : Int) := by omega
      have e0 := (bel.out.cell (p := ⟨bb, oo + j * 4, none⟩) c3).trans d0
      have e1 := (bel.out.cell (p := ⟨bb, oo + j * 4 + 1, none⟩) c3).trans d1
      have e2 := (bel.out.cell (p := ⟨bb, oo + j * 4 + 2, none⟩) c3).trans d2
      have e3 := (bel.out.cell (p := ⟨bb, oo + j * 4 + 3, none⟩) c3).trans d3
      have hw := bel.out.size
      have hbw : bb < wr.heap.size := by omega
      have hbne : bb ≠ wr.heap.size := by omega
      have hbne' : wr.heap.size ≠ bb := by omega
      clear d0 d1 d2 d3
      have BEL : Hid (Below w.heap.size w wr) := bel.out
      clear bel
      obtain ⟨p5a, p5b⟩ := pk_bd r.A 5 (by decide)
      go_upto_region 4 with fail
      go_cut [14] (fun x wc => ∃ gb, x = .pointer (some ⟨gb, 0, none⟩) ∧ Hid (wc.heap[gb]? = some (.cells (Sp.cells ⟨plainF r.K r.A r.B r.C, -1, -1, pk r.A 5⟩).toArray 118)) ∧ Hid (wr.heap.size ≤ gb) ∧ Hid (Below wr.heap.size wr wc))
      case first =>
        go_region_held3 (fun w' => w'.cell? ⟨bb, oo + j * 4, none⟩ = some (.int .i64 r.K) ∧ w'.cell? ⟨bb, oo + j * 4 + 1, none⟩ = some (.int .i64 r.A) ∧ w'.cell? ⟨bb, oo + j * 4 + 2, none⟩ = some (.int .i64 r.B) ∧ w'.cell? ⟨bb, oo + j * 4 + 3, none⟩ = some (.int .i64 r.C)) (go_keep)
         (first
          | (go_at_call 71; refine (plain_any r.K r.A r.B r.C _ x1 x2 x3 x4 x5 x6 x7 x8).mono ?_; rintro e w1 ⟨rfl, hb1⟩; have hbx : Below wr.heap.size wr w1 := (below_past hb1 (by first | exact Or.inl rfl | exact Or.inr (Or.inl rfl) | exact Or.inr (Or.inr (Or.inl ⟨_, rfl⟩)) | exact Or.inr (Or.inr (Or.inr (Or.inl ⟨_, rfl⟩))) | exact Or.inr (Or.inr (Or.inr (Or.inr ⟨_, rfl⟩))))); have G4 := Raw4.below (r := r) ⟨e0, e1, e2, e3⟩ hbw hbx; obtain ⟨g0, g1, g2, g3⟩ := id G4; have hz1 := hbx.size; have hbw1 : bb < w1.heap.size := (by omega); (try (have hz2 : wr.heap.size < w1.heap.size := (by have := hb1.size; simp at this; omega); have hbk : w1.heap[wr.heap.size]? = _ := box_kept (w := wr.drew) hb1; obtain ⟨⟨k0, k1, k2, k3, k4, k5, k6, k7, k8⟩, m0, m1, m2, m3, m4, m5, m6, m7, m8⟩ := nine_both hbk; have HBK : Hid (w1.heap[wr.heap.size]? = _) := hbk; clear hbk)); have HB1 : Hid _ := hb1; clear hb1)
          | (go_at_call 19; refine (picked_any _ _ _ (by decide) x3 x4).mono ?_; rintro e w' ⟨rfl, rfl⟩))
        all_goals (try go_wp2)
        all_goals go_meet
        all_goals first
          | exact ⟨_, rfl, (nine_put _ _ _ _ _ _ _ _ _ HBK.out).1, Nat.le_refl _, (nine_put _ _ _ _ _ _ _ _ _ HBK.out).2 hbx (Nat.le_refl _)⟩
          | exact ⟨_, rfl, heap_alloc_new _ _, hz1, hbx.alloc hz1 _⟩
      case rest =>
        obtain ⟨gb, rfl, HX, hg, hbc⟩ := hcut
        have hg' : wr.heap.size ≤ gb := hg.out
        have hzc := hbc.out.size
        have hgl : gb < wc.heap.size := (Array.getElem?_eq_some_iff.1 HX.out).1
        obtain ⟨⟨k0, k1, k2, k3, k4, k5, k6, k7, k8⟩, m0, m1, m2, m3, m4, m5, m6, m7, m8⟩ := nine_both HX.out
        have f0 := (hbc.out.cell (p := ⟨bb, oo + j * 4, none⟩) hbw).trans e0
        have f1 := (hbc.out.cell (p := ⟨bb, oo + j * 4 + 1, none⟩) hbw).trans e1
        have hne : bb ≠ gb := by omega
        have hbw2 : bb < wc.heap.size := by omega
        have htk : flat Sp.cells ((l.take (j + 1)).map (spOf funcs)) = flat Sp.cells ((l.take j).map (spOf funcs)) ++ Sp.cells (spOf funcs r) := by
          rw [take_snoc' hr, List.map_append, List.map_cons, List.map_nil, flat_snoc]
        have HTK : Hid _ := htk
        clear e0 e1 e2 e3 htk
        have fin : ∀ (W5 : World), Below wr.heap.size wr W5 → ∃ v' W, (Builtin.append_ #[113, 113] 113 #[u12, .slice (some ⟨W5.heap.size, 0, none⟩) 1 1]).run Tryd.prog (W5.alloc (.cells (Sp.cells (spOf funcs r)).toArray 118)) = .ok v' W ∧ W.ownsRow w.heap.size 118 9 v' (j + 1) (flat Sp.cells ((l.take (j + 1)).map (spOf funcs))) ∧ Below w.heap.size w W := fun W5 hb5 => by
          have z5 := hb5.size
          obtain ⟨v', W, hr, ho, gr, hbx⟩ := row_app 118 113 9 72 _ Tryd.underlying113 inSp rfl (by decide) (row_up own.out hb5) (by omega) (Sp.cells (spOf funcs r)) rfl (spcell_one _) (by omega) (by unfold maxLen; omega) (Or.inl rfl)
          rw [← HTK.out] at ho
          refine ⟨v', W, hr, ho, BEL.out.trans ((hb5.mono hw).trans ((hbx.mono (by omega)).trans ?_))⟩
          exact ⟨gr.os, gr.tape, gr.output, gr.size, fun k hk => gr.block k (by have := hbx.size; omega) (by intro he; have := (row_block own.out he.symm).1; omega)⟩
        by_cases hc : pk r.K 23 = 22
        · have hcb : (pk r.K 23 == 22) = true := by simp [hc]
          have hS : Hid (spOf funcs r = ⟨⟨23, 0, 0, 0, 0, false⟩, -1, pk r.A funcs, pk r.A 5⟩) := by show _ = _; simp [spOf, hc]
          clear hc
          rw [hS.out] at fin
          obtain ⟨v', W, hr2, ho2, hb2⟩ := fin (((((((wc.setCell ⟨gb, 0, none⟩ (.int .i64 23)).setCell ⟨gb, 1, none⟩ (.int .i64 0)).setCell ⟨gb, 2, none⟩ (.int .i64 0)).setCell ⟨gb, 3, none⟩ (.int .i64 0)).setCell ⟨gb, 4, none⟩ (.int .i64 0)).setCell ⟨gb, 5, none⟩ (.bool false)).setCell ⟨gb, 7, none⟩ (.int .i64 (pk r.A funcs)))
            (((((((hbc.out.setCell (p := ⟨gb, 0, none⟩) hg' _).setCell (p := ⟨gb, 1, none⟩) hg' _).setCell (p := ⟨gb, 2, none⟩) hg' _).setCell (p := ⟨gb, 3, none⟩) hg' _).setCell (p := ⟨gb, 4, none⟩) hg' _).setCell (p := ⟨gb, 5, none⟩) hg' _).setCell (p := ⟨gb, 7, none⟩) hg' _)
          simp only [World.size_setCell] at hr2
          have HR2 : Hid _ := hr2
          have HO2 : Hid _ := ho2
          have HB2 : Hid _ := hb2
          have hg0 : 0 < funcs := by omega
          clear hr2 ho2 hb2 fin
          go_wp2_with (first
            | (go_at_call_of 19 (Value.int IntKind.i64 r.K); refine (picked_any r.K 23 _ (by decide) x1 x2).mono ?_; rintro e w' ⟨rfl, rfl⟩)
            | (go_at_call_of 19 (Value.int IntKind.i64 funcs); refine (picked_any r.A funcs _ hg0 x3 x4).mono ?_; rintro e w' ⟨rfl, rfl⟩)
            | (at_builtin; refine wpList_append_two _ rfl (.tmp 55) (.tmp 57) 113 113 rfl _ _ rfl rfl HR2.out ?_))
          go_roundw
          case rel => exact ⟨j + 1, by omega, by go_num, HO2.out, HB2.out⟩
          case measure => simp [intOf]; omega
        · have hcb : (pk r.K 23 == 22) = false := by simp [hc]
          have hS : Hid (spOf funcs r = ⟨plainF r.K r.A r.B r.C, -1, -1, pk r.A 5⟩) := by show _ = _; simp [spOf, hc]
          clear hc
          rw [hS.out] at fin
          obtain ⟨v', W, hr2, ho2, hb2⟩ := fin wc hbc.out
          have HR2 : Hid _ := hr2
          have HO2 : Hid _ := ho2
          have HB2 : Hid _ := hb2
          clear hr2 ho2 hb2 fin
          go_wp2_with (first
            | (go_at_call 19; refine (picked_any _ _ _ (by decide) x1 x2).mono ?_; rintro e w' ⟨rfl, rfl⟩)
            | (at_builtin; refine wpList_append_two _ rfl (.tmp 55) (.tmp 57) 113 113 rfl _ _ rfl rfl HR2.out ?_))
          go_roundw
          case rel => exact ⟨j + 1, by omega, by go_num, HO2.out, HB2.out⟩
          case measure => simp [intOf]; omega
    · have hjl : j = l.length - 1 := by omega
      have ob : Hid (wr.ownsRow w.heap.size 118 9 u12 (bodyOf funcs l).length (flat Sp.cells (bodyOf funcs l))) := by
        have hbl : (bodyOf funcs l).length = j := by unfold bodyOf; rw [List.length_map, List.length_take]; omega
        have hbo : bodyOf funcs l = (l.take j).map (spOf funcs) := by unfold bodyOf; rw [hjl]
        have h0 := own.out
        rw [← hbo] at h0
        rw [hbl]
        exact h0
      have hbl : (bodyOf funcs l).length = l.length - 1 := by unfold bodyOf; rw [List.length_map, List.length_take]; omega
      obtain ⟨a12, c12, rfl⟩ : ∃ a c, u12 = .slice a ((l.length - 1 : Nat)) c := by
        have := ob.out.2
        rw [hbl] at this
        rcases this with ⟨rfl, h0⟩ | ⟨_, _, _, rfl, _⟩
        · exact ⟨_, _, by rw [h0]⟩
        · exact ⟨_, _, rfl⟩
      have BEL : Hid (Below w.heap.size w wr) := bel.out
      have hw := bel.out.size
      clear bel own
      subst hjl
      generalize hrr : lastRw l = r
      have hrok : r.ok := by
        rw [← hrr]; unfold lastRw
        rcases Nat.eq_zero_or_pos l.length with q | q
        · have : l = [] := List.length_eq_zero_iff.1 q
          subst this
          simp [rwZ, Rw.ok]
        · rw [List.getD_eq_getElem?_getD, List.getElem?_eq_getElem (by omega)]
          exact HR.out.1 _ (List.getElem_mem _)
      obtain ⟨x1, x2, x3, x4, x5, x6, x7, x8⟩ := hrok
      go_upto_if 62 with fail
      go_cut [15] (fun p wc => p = .pointer (some ⟨wr.heap.size, 0, none⟩) ∧ wc = wr.alloc (.cells #[.int .i64 r.K, .int .i64 r.A, .int .i64 r.B, .int .i64 r.C] 116))
      case first =>
        rcases Nat.eq_zero_or_pos l.length with q | q
        · have hl0 : l = [] := List.length_eq_zero_iff.1 q
          have hz : ¬ (0 : Int) < (l.length : Int) := by omega
          subst hl0
          simp [lastRw, rwZ] at hrr
          subst hrr
          go_wp2
          go_meet
          exact ⟨rfl, rfl⟩
        · obtain ⟨m, hm⟩ : ∃ m, l.length = m + 1 := ⟨l.length - 1, by omega⟩
          have hr : l[m]? = some r := by rw [← hrr]; unfold lastRw; rw [List.getD_eq_getElem?_getD, show l.length - 1 = m by omega, List.getElem?_eq_getElem (by omega)]; rfl
          obtain ⟨bb, oo, cap, hv, c1, c2, c3, _, d0, d1, d2, d3⟩ := raw_cells HR.out hr
          cases hv
          have e0 := (BEL.out.cell (p := ⟨bb, oo + m * 4, none⟩) c3).trans d0
          have e1 := (BEL.out.cell (p := ⟨bb, oo + m * 4 + 1, none⟩) c3).trans d1
          have e2 := (BEL.out.cell (p := ⟨bb, oo + m * 4 + 2, none⟩) c3).trans d2
          have e3 := (BEL.out.cell (p := ⟨bb, oo + m * 4 + 3, none⟩) c3).trans d3
          have hbw : bb < wr.heap.size := by omega
          have hbne : bb ≠ wr.heap.size := by omega
          have hz : (0 : Int) < (l.length : Int) := by omega
          have hi1 : (l.length : Int) - 1 < (l.length : Int) := by omega
          have hi0 : (0 : Int) ≤ (l.length : Int) - 1 := by omega
          have hi2 : ((l.length : Int) - 1).toNat = m := by omega
          clear d0 d1 d2 d3 hm hrr
          go_wp2
          go_meet
          exact ⟨rfl, rfl⟩
      case rest =>
        obtain ⟨rfl, rfl⟩ := hcut
        obtain ⟨q1, q2⟩ := pk_bd r.K 12 (by decide)
        obtain ⟨p1, p2⟩ := pk_bd r.B (last - first + 1) (by omega)
        obtain ⟨p3, p4⟩ := pk_bd r.C 4 (by decide)
        have hlf : 0 < last - first + 1 := by omega
        go_upto_block 2 with (first | (go_at_call 19; refine (picked_any _ _ _ (by first | assumption | decide) (by assumption) (by assumption)).mono ?_; rintro e w' ⟨rfl, rfl⟩))
        have hX0 : ∀ o : Obj, Below wr.heap.size wr ((wr.alloc (.cells #[.int .i64 r.K, .int .i64 r.A, .int .i64 r.B, .int .i64 r.C] 116)).alloc o) := fun o => ((Below.refl _ _).alloc (Nat.le_refl _) _).alloc (by simp) _
        have HX0 : Hid _ := hX0
        clear hX0
        go_cut [19] (fun _ wc => ∃ Y, Hid (endOf l n first last = [Y]) ∧ Hid (wc.heap[wr.heap.size + 1]? = some (.cells (Sp.cells Y).toArray 118)) ∧ Hid (Below wr.heap.size wr wc))
        case first =>
          by_cases k5 : pk r.K 12 < 5
          · by_cases kl : n < last
            · have hE : Hid (endOf l n first last = [⟨⟨18 + pk r.C 4, 0, pk r.A 7, pk r.B 7, 0, pk r.A 3 == 0⟩, first + pk r.B (last - first + 1), -1, pk r.A 5⟩]) := by
                show _ = _
                unfold endOf
                rw [hrr]
                rw [if_pos ⟨k5, kl⟩]
              go_wp2_with (first | (go_at_call 19; refine (picked_any _ _ _ (by first | assumption | decide) (by assumption) (by assumption)).mono ?_; rintro e w' ⟨rfl, rfl⟩))
              go_region_held3 (fun w' => w'.cell? ⟨wr.heap.size, 1, none⟩ = some (.int .i64 r.A) ∧ w'.cell? ⟨wr.heap.size, 2, none⟩ = some (.int .i64 r.B) ∧ w'.cell? ⟨wr.heap.size, 3, none⟩ = some (.int .i64 r.C)) (simp [go_sem, *]) (first | (go_at_call 19; refine (picked_any _ _ _ (by first | assumption | decide) (by assumption) (by assumption)).mono ?_; rintro e w' ⟨rfl, rfl⟩))
              all_goals (go_wp2_with (first | (go_at_call 19; refine (picked_any _ _ _ (by first | assumption | decide) (by assumption) (by assumption)).mono ?_; rintro e w' ⟨rfl, rfl⟩)); go_meet; exact ⟨_, hE, two_new _ _ _, (HX0.out _).drew⟩)
            · have k8 : pk r.K 12 < 8 := by omega
              have hE : Hid (endOf l n first last = [⟨⟨22, 0, 0, 0, 0, pk r.A 3 == 0⟩, first + pk r.B (last - first + 1), -1, pk r.A 5⟩]) := by
                show _ = _
                unfold endOf
                rw [hrr]
                rw [if_neg (fun h => kl h.2), if_pos k8]
              go_wp2_with (first | (go_at_call 19; refine (picked_any _ _ _ (by first | assumption | decide) (by assumption) (by assumption)).mono ?_; rintro e w' ⟨rfl, rfl⟩))
              go_meet
              exact ⟨_, hE, two_new _ _ _, HX0.out _⟩
          by_cases k8 : pk r.K 12 < 8
          · have hE : Hid (endOf l n first last = [⟨⟨22, 0, 0, 0, 0, pk r.A 3 == 0⟩, first + pk r.B (last - first + 1), -1, pk r.A 5⟩]) := by
              show _ = _
              unfold endOf
              rw [hrr]
              rw [if_neg (fun h => k5 h.1), if_pos k8]
            go_wp2_with (first | (go_at_call 19; refine (picked_any _ _ _ (by first | assumption | decide) (by assumption) (by assumption)).mono ?_; rintro e w' ⟨rfl, rfl⟩))
            go_meet
            exact ⟨_, hE, two_new _ _ _, HX0.out _⟩
          have z9 : ∀ q : Int, pk r.K 12 ≠ q → (pk r.K 12 == q) = false := fun q h => by simp [h]
          have z8 : ∀ q : Int, pk r.K 12 = q → (pk r.K 12 == q) = true := fun q h => by simp [h]
          have Z9 : Hid _ := z9
          have Z8 : Hid _ := z8
          clear z9 z8
          have n9 : (n == 0) = true ∨ (n == 0) = false := by cases h : n == 0 <;> simp
          by_cases e8 : pk r.K 12 = 8
          · have t8 := Z8.out 8 e8
            have t9 := Z9.out 9 (by omega)
            have t10 := Z9.out 10 (by omega)
            by_cases kl : n < last ∧ 1 < l.length
            · obtain ⟨kl1, kl2⟩ := kl
              have hE : Hid (endOf l n first last = []) := by
                show _ = _
                unfold endOf
                rw [hrr, if_neg (fun h => k5 h.1), if_neg k8, if_pos ⟨e8, kl1, kl2⟩]
              have hlz : (0 : Int) < ((l.length - 1 : Nat) : Int) := by omega
              obtain ⟨v2, W2, hr2, g1, g2, g3, g4, o1, o2, _, ⟨a2, l2, c2, rfl⟩, hq, hbq⟩ := plan_end0 HP.out hbs (BEL.out.trans ((HX0.out (.cells #[.int .i64 0, .int .i64 0, .int .i64 0, .int .i64 0, .int .i64 0, .bool false, .int .i64 (-1), .int .i64 (-1), .int .i64 (pk r.A 5)] 118)).mono hw)) (row_up ob.out (HX0.out _)) (by intro h; rw [h] at hbl; simp at hbl; omega)
              have HR2 : Hid (∀ sz : Nat, sz = wr.heap.size + 2 → (Builtin.append_ #[77, 77] 77 #[vB, .slice (some ⟨sz, 0, none⟩) 1 1]).run Tryd.prog (((wr.alloc (.cells #[.int .i64 r.K, .int .i64 r.A, .int .i64 r.B, .int .i64 r.C] 116)).alloc (.cells #[.int .i64 0, .int .i64 0, .int .i64 0, .int .i64 0, .int .i64 0, .bool false, .int .i64 (-1), .int .i64 (-1), .int .i64 (pk r.A 5)] 118)).alloc (.cells #[.slice a12 (l.length - 1) c12] 113)) = .ok (.slice a2 l2 c2) W2) := fun sz h => by
                have e : sz = ((wr.alloc (.cells #[.int .i64 r.K, .int .i64 r.A, .int .i64 r.B, .int .i64 r.C] 116)).alloc (.cells #[.int .i64 0, .int .i64 0, .int .i64 0, .int .i64 0, .int .i64 0, .bool false, .int .i64 (-1), .int .i64 (-1), .int .i64 (pk r.A 5)] 118)).heap.size := by rw [h]; simp
                rw [e]; exact hr2
              have HQ : Hid _ := hq
              have HBQ : Hid _ := hbq
              have gpn : gp < wr.heap.size := by have := HP.out.lt; omega
              have g5 := (BEL.out.cell (p := ⟨gp, 0, none⟩) HP.out.lt).trans HP.out.cells.1
              clear hr2 hq hbq g1 g2 t9 t10 k5 e8
              go_wp2_with (first | (at_builtin; refine wpList_append_two _ rfl (.tmp 141) (.tmp 143) 77 77 rfl _ _ rfl rfl (HR2.out _ (by simp)) ?_))
              (try simp only [Exit.inBlock, Exit.then])
              refine bodyPost_ret (results_none rfl _ _ _) rfl ?_
              exact ⟨rfl, ⟨_, _, by unfold blockOf; rw [hE.out, List.append_nil]; exact HQ.out⟩, HBQ.out⟩
            · have kn : ¬ n < last ∨ (n < last ∧ ¬ (0 : Int) < ((l.length - 1 : Nat) : Int)) := by omega
              rcases n9 with n9 | n9
              · have hE : Hid (endOf l n first last = [⟨⟨1, 0, 0, 0, 0, false⟩, -1, -1, pk r.A 5⟩]) := by
                    show _ = _
                    unfold endOf
                    rw [hrr]
                    rw [if_neg (fun h => k5 h.1), if_neg k8, if_neg (fun h => kl h.2), if_neg (by omega), if_pos (Or.inr (by simpa using n9))]
                clear e8
                rcases kn with kn | ⟨kn1, kn⟩
                · go_wp2_with (first | (go_at_call 19; refine (picked_any _ _ _ (by first | assumption | decide) (by assumption) (by assumption)).mono ?_; rintro e w' ⟨rfl, rfl⟩))
                  go_meet
                  exact ⟨_, hE, two_new _ _ _, HX0.out _⟩
                · go_wp2_with (first | (go_at_call 19; refine (picked_any _ _ _ (by first | assumption | decide) (by assumption) (by assumption)).mono ?_; rintro e w' ⟨rfl, rfl⟩))
                  go_meet
                  exact ⟨_, hE, two_new _ _ _, HX0.out _⟩
              · have hE : Hid (endOf l n first last = [⟨⟨3, 0, 0, 0, 0, false⟩, -1, -1, pk r.A 5⟩]) := by
                    show _ = _
                    unfold endOf
                    rw [hrr]
                    rw [if_neg (fun h => k5 h.1), if_neg k8, if_neg (fun h => kl h.2), if_neg (by omega), if_neg (by simp at n9; omega)]
                clear e8
                rcases kn with kn | ⟨kn1, kn⟩
                · go_wp2_with (first | (go_at_call 19; refine (picked_any _ _ _ (by first | assumption | decide) (by assumption) (by assumption)).mono ?_; rintro e w' ⟨rfl, rfl⟩))
                  go_meet
                  exact ⟨_, hE, two_new _ _ _, HX0.out _⟩
                · go_wp2_with (first | (go_at_call 19; refine (picked_any _ _ _ (by first | assumption | decide) (by assumption) (by assumption)).mono ?_; rintro e w' ⟨rfl, rfl⟩))
                  go_meet
                  exact ⟨_, hE, two_new _ _ _, HX0.out _⟩
          have t8 := Z9.out 8 e8
          by_cases e9 : pk r.K 12 = 9
          · have t9 := Z8.out 9 e9
            have hE : Hid (endOf l n first last = [⟨⟨24, 0, pk r.A 7, 0, pk r.B 3, false⟩, -1, -1, pk r.A 5⟩]) := by
              show _ = _
              unfold endOf
              rw [hrr]
              rw [if_neg (fun h => k5 h.1), if_neg k8, if_neg (fun h => e8 h.1), if_pos e9]
            clear e9
            go_wp2_with (first | (go_at_call 19; refine (picked_any _ _ _ (by first | assumption | decide) (by assumption) (by assumption)).mono ?_; rintro e w' ⟨rfl, rfl⟩))
            go_region_held3 (fun w' => w'.cell? ⟨wr.heap.size, 1, none⟩ = some (.int .i64 r.A) ∧ w'.cell? ⟨wr.heap.size, 2, none⟩ = some (.int .i64 r.B) ∧ w'.cell? ⟨wr.heap.size, 3, none⟩ = some (.int .i64 r.C)) (simp [go_sem, *]) (first | (go_at_call 19; refine (picked_any _ _ _ (by first | assumption | decide) (by assumption) (by assumption)).mono ?_; rintro e w' ⟨rfl, rfl⟩))
            all_goals (go_wp2_with (first | (go_at_call 19; refine (picked_any _ _ _ (by first | assumption | decide) (by assumption) (by assumption)).mono ?_; rintro e w' ⟨rfl, rfl⟩)); go_meet; exact ⟨_, hE, two_new _ _ _, (HX0.out _).drew⟩)
          have t9 := Z9.out 9 e9
          by_cases e10 : pk r.K 12 = 10
          · have t10 := Z8.out 10 e10
            have hE : Hid (endOf l n first last = [⟨⟨1, 0, 0, 0, 0, false⟩, -1, -1, pk r.A 5⟩]) := by
              show _ = _
              unfold endOf
              rw [hrr]
              rw [if_neg (fun h => k5 h.1), if_neg k8, if_neg (fun h => e8 h.1), if_neg e9, if_pos (Or.inl e10)]
            clear e10
            go_wp2_with (first | (go_at_call 19; refine (picked_any _ _ _ (by first | assumption | decide) (by assumption) (by assumption)).mono ?_; rintro e w' ⟨rfl, rfl⟩))
            go_meet
            exact ⟨_, hE, two_new _ _ _, HX0.out _⟩
          have t10 := Z9.out 10 e10
          rcases n9 with n9 | n9
          · have hE : Hid (endOf l n first last = [⟨⟨1, 0, 0, 0, 0, false⟩, -1, -1, pk r.A 5⟩]) := by
              show _ = _
              unfold endOf
              rw [hrr]
              rw [if_neg (fun h => k5 h.1), if_neg k8, if_neg (fun h => e8 h.1), if_neg e9, if_pos (Or.inr (by simpa using n9))]
            go_wp2_with (first | (go_at_call 19; refine (picked_any _ _ _ (by first | assumption | decide) (by assumption) (by assumption)).mono ?_; rintro e w' ⟨rfl, rfl⟩))
            go_meet
            exact ⟨_, hE, two_new _ _ _, HX0.out _⟩
          · have hE : Hid (endOf l n first last = [⟨⟨3, 0, 0, 0, 0, false⟩, -1, -1, pk r.A 5⟩]) := by
              show _ = _
              unfold endOf
              rw [hrr]
              rw [if_neg (fun h => k5 h.1), if_neg k8, if_neg (fun h => e8 h.1), if_neg e9, if_neg (by simp at n9; omega)]
            go_wp2_with (first | (go_at_call 19; refine (picked_any _ _ _ (by first | assumption | decide) (by assumption) (by assumption)).mono ?_; rintro e w' ⟨rfl, rfl⟩))
            go_meet
            exact ⟨_, hE, two_new _ _ _, HX0.out _⟩
        case rest =>
          obtain ⟨Y, hE, hY, hbc⟩ := hcut
          have zc := hbc.out.size
          have zg : wr.heap.size + 1 < wc.heap.size := (Array.getElem?_eq_some_iff.1 hY.out).1
          obtain ⟨⟨y0, y1, y2, y3, y4, y5, y6, y7, y8⟩, _⟩ := nine_both hY.out
          have hcw : Below w.heap.size w wc := BEL.out.trans (hbc.out.mono hw)
          have gpn : gp < wc.heap.size := by have := HP.out.lt; have := hcw.size; omega
          have g0 := (hcw.cell (p := ⟨gp, 0, none⟩) HP.out.lt).trans HP.out.cells.1
          have gne : wc.heap.size ≠ gp := by omega
          obtain ⟨v1, W1, v2, W2, hr1, hr2, g1, g2, g3, g4, o1, o2, ⟨a1, l1, c1, rfl⟩, ⟨a2, l2, c2, rfl⟩, hq, hbq⟩ := plan_end HP.out hbs hcw (row_up ob.out hbc.out) (by omega) Y
          have HR1 : Hid _ := hr1
          have HR2 : Hid _ := hr2
          have HQ : Hid _ := hq
          have HBQ : Hid _ := hbq
          clear hr1 hr2 hq hbq hcw x1 x2 x3 x4 x5 x6 x7 x8 p1 p2 p3 p4 q1 q2
          go_wp2_with fail
          go_region_law (first
            | refine step_append_two rfl (.tmp 172) (.tmp 174) 113 113 rfl _ _ rfl rfl HR1.out ?_
            | refine step_append_two rfl (.tmp 171) (.tmp 176) 77 77 rfl _ _ rfl rfl HR2.out ?_)
          all_goals
            go_wp2
            go_end0
            exact ⟨rfl, _, _, by unfold blockOf; rw [hE.out]; exact HQ.out, HBQ.out⟩
end Go.Proofs.YtechpdfcgimkkaaDoor
