/-
  boltholekeep's plan put together: 'assembled', at a good plan whose blocks have at most 1000 pieces each, returns the image that the plan's lengths and addresses say, in rows of its own, and leaves what was there.
-/
import Derived.Test.YtechpdfcgimkkaaDoorMYC
import Derived.Test.YtechpdfcgimkkaaDoorShItoaC
import Derived.Test.YtechpdfcgimkkaaDoorWalkOwC
import Derived.Test.YtechpdfcgimkkaaDoorMCC
import Derived.BigQuiet
import Derived.Deep.QuietTactic
import Derived.Deep.RegionHeld3
import Derived.Deep.DeepCutAuto
namespace Go.Proofs.YtechpdfcgimkkaaDoor
open Go.RowKit Go.Joins Isa
set_option linter.unusedSimpArgs false
set_option linter.unusedVariables false
set_option maxRecDepth 100000 in
set_option maxHeartbeats 8000000 in
theorem assembled_any (w : World) (B gp : Nat) (vB vF u : Value) (vs : List Value) (bs : List (List Sp)) (fs : List Int) (L : List Rw) (hB1 : 1 < B) (hP : PlanAt w B gp vB vF vs bs fs) (hF : PlGood bs fs) (hbl : ∀ b ∈ bs, b.length ≤ 1000) (hT : Tabs w) (w0 : World) (hR : RawsAt w0 u L) (hw0 : w0.heap.size ≤ B) (hb0 : Below w0.heap.size w0 w) :
    Calls Tryd.prog 39 #[.pointer (some ⟨gp, 0, none⟩), u] w fun e w' => ∃ v0 v1 v2 v4, e = .returned (.agg #[v0, v1, v2, .slice (some ⟨w.heap.size + 1, 0, none⟩) 6 6, v4, .int .i64 0]) ∧ v0.oneCell' = true ∧ v1.oneCell' = true ∧ v2.oneCell' = true ∧ v4.oneCell' = true ∧ Below B w w' ∧
      ∃ cs, Lng bs cs ∧ (emUpTo (startsOf cs) fs cs.flatten).again = false ∧ OwnImg w' B v0 v1 v2 (.slice (some ⟨w.heap.size + 1, 0, none⟩) 6 6) v4 (imgOf cs cs fs L) := by
  have HP : Hid _ := hP
  have HF : Hid _ := hF
  have HT : Hid _ := hT
  have HR : Hid _ := hR
  have HBL : Hid _ := hbl
  obtain ⟨au, cu, rfl⟩ := raw_form hR
  have HB0 := hid hb0
  have hz : 1 < w.heap.size := hT.sz
  have hBw : B ≤ w.heap.size := hP.hB
  obtain ⟨MU, MU1, MU2, MU3⟩ := as_measure w B gp vB vF vs bs fs L
  have HMU1 := hid MU1
  have HMU2 := hid MU2
  have HMU3 := hid MU3
  clear hP hF hT hR hbl MU1 MU2 MU3
  go_enter Tryd.func39, Tryd.ntmps39
  go_wp2_with fail
  go_loopw [6] (fun av wr => ∃ cs, Hid (AsR w B gp vB vF vs bs fs L av wr cs)) (fun av wr => MU av wr)
  case atStart =>
    refine ⟨bs, ⟨?_, ⟨rfl, fun k b c hb hc => ?_⟩, ⟨.slice none 0 0, .slice none 0 0, .slice none 0 0, .slice none 0 0, ?_, Or.inl rfl⟩, ?_, ?_, ?_, ?_⟩⟩
    · exact HP.out.up (below3 w _ (Nat.le_refl _) _ _ _)
    · rw [hb] at hc
      cases hc
      exact ⟨rfl, fun j x y hx hy => by rw [hx] at hy; cases hy; exact Or.inl rfl⟩
    · exact (push3 w _ _ _).2.2
    · exact (push3 w _ _ _).2.1
    · exact (push3 w _ _ _).1
    · exact below3 w B hBw _ _ _
    · exact HT.out.below HT.out.sz (below3 w _ (Nat.le_refl _) _ _ _)
  case round =>
    obtain ⟨cs, hA⟩ := hrel
    obtain ⟨_, _, _, _, -, hav⟩ := hA.out.2.2.1
    have hav2 := hav.imp id And.left
    clear hav
    rcases hav2 with rfl | rfl
    · obtain ⟨cs, ⟨hP, hL, ⟨v0, v1, v2, v4, hI, -⟩, hD, hG, hB, hT⟩, hM⟩ := HMU2.out _ _ hA.out
      have HM : Hid _ := hM
      have HP1 : Hid _ := hP
      have HL : Hid _ := hL
      have HI : Hid _ := hI
      have HD : Hid _ := hD
      have HG : Hid _ := hG
      have HB : Hid _ := hB
      have HT1 : Hid _ := hT
      obtain ⟨p0, p1, -, -⟩ := hP.cells
      have hgp := hP.lt
      have hzb := hB.size
      clear hA hP hL hI hD hG hB hT hM
      have hcl : Hid (cs.length = bs.length) := HL.out.len.symm
      have hcb : Hid (∀ b ∈ cs, b.length ≤ 1000) := fun c hc => by
        obtain ⟨k, hk, rfl⟩ := List.mem_iff_getElem.1 hc
        have hk2 : k < bs.length := by have := hcl.out; omega
        have := (HL.out.each k _ _ (List.getElem?_eq_getElem hk2) (List.getElem?_eq_getElem hk)).1
        rw [← this]
        exact HBL.out _ (List.getElem_mem hk2)
      have HSI : Hid (∀ c ∈ cs, ∀ x ∈ c, SpIn cs.length fs.length x) := (HF.out.lng HL.out).ins
      have HOKS : Hid (∀ c ∈ cs, ∀ x ∈ c, SpOk x) := (HF.out.lng HL.out).ok
      have hsm : cs.length ≤ 114 := by have := HF.out.fit.small; have := hcl.out; omega
      obtain ⟨wo, hwo⟩ : ∃ wo, wo = wr := ⟨_, rfl⟩
      subst hwo
      obtain ⟨aB, lB, cB, hvB⟩ := row_form HP1.out.oB
      have hlB : lB = cs.length := by
        rcases HP1.out.oB.2 with ⟨e, h0⟩ | ⟨_, _, _, e, _⟩
        · rw [hvB] at e; cases e; exact h0.symm
        · rw [hvB] at e; cases e; rfl
      subst hvB hlB
      go_wp2_with fail
      go_loopw [7, 8, 42] (fun tv sv kv w2 => ∃ k : Nat, kv = .int .i64 (k : Int) ∧ k ≤ cs.length ∧ sv = .int .i64 (szAll (cs.take k)) ∧ (∃ a c, tv = .slice a k c) ∧ Hid (w2.ownsRow wo.heap.size 3 1 tv ((startsOf cs).take k).length (flat icell ((startsOf cs).take k))) ∧ Hid (Below wo.heap.size wo w2)) (fun _ _ kv _ => (cs.length - intOf kv).toNat)
      case atStart => exact ⟨0, rfl, by omega, rfl, ⟨none, 0, rfl⟩, World.ownsRow_nil _ _ _ _, Below.refl _ _⟩
      case round =>
        obtain ⟨k, rfl, k1, rfl, ⟨aT, cT, rfl⟩, ho, hb2⟩ := hrel
        by_cases hk : k < cs.length
        ·
          as_aux_lemma =>
            obtain ⟨b, hb⟩ : ∃ b, cs[k]? = some b := ⟨_, List.getElem?_eq_getElem hk⟩
            obtain ⟨gB', cB', g, cap, e1, hc1, hc2, hxo, hc3, hc4, hne, -, hrow⟩ := PlanAt.block HP1.out hb
            cases e1
            have hx1 := (hb2.out.cell (p := ⟨gB', k, none⟩) (World.block_lt_of_cell? _ _ hxo)).trans hxo
            clear hxo
            have hbl := hcb.out b (List.mem_of_getElem? hb)
            have hkk : (k : Int) < (cs.length : Int) := by omega
            have HST : Hid _ := starts_take cs k hk
            have HTK : Hid (cs.take (k + 1) = cs.take k ++ [b]) := by show _ = _; rw [List.take_add_one, hb]; rfl
            have HSL : Hid (((startsOf cs).take k).length = k) := by show _ = _; rw [List.length_take, starts_len]; omega
            obtain ⟨sz0, sz1⟩ := szAll_bd (cs.take k) fun x hx => hcb.out x (List.mem_of_mem_take hx)
            rw [List.length_take, Nat.min_eq_left (by omega)] at sz1
            have HROW : Hid _ := hrow
            have HNE : Hid (b ≠ []) := hne
            obtain ⟨S, hS⟩ : ∃ S, szAll (cs.take k) = S := ⟨_, rfl⟩
            have HSS : Hid _ := hS
            rw [hS] at sz0 sz1 ⊢
            clear hrow hne hS hb
            obtain ⟨a7, c7, W7, hr7, ho7, hb7⟩ := app_int ho.out hb2.out.size (by rw [HSL.out]; omega) S _ ((Below.refl wr.heap.size wr).alloc (Nat.le_refl _) (.cells #[.int .i64 S] 3)) wr.heap.size (by rw [World.cell?_alloc_new]; rfl)
            rw [HSL.out] at hr7 ho7
            have HR7 : Hid _ := hr7
            have HO7 : Hid _ := ho7
            have HB7 : Hid (Below wo.heap.size wo W7) := hb2.out.trans hb7
            clear hr7 ho7 hb7
            go_wp2_with (first | (at_builtin; refine wpList_append_pair _ rfl (.tmp 46) (.tmp 48) 26 26 rfl _ _ rfl rfl HR7.out ?_))
            go_loopw [8, 52] (fun sv jv w3 => ∃ j : Nat, jv = .int .i64 (j : Int) ∧ j ≤ b.length ∧ sv = .int .i64 (S + szB (b.take j)) ∧ Hid (Below W7.heap.size W7 w3)) (fun _ jv _ => (b.length - intOf jv).toNat)
            case atStart => exact ⟨0, rfl, by omega, by simp [szB], Below.refl _ _⟩
            case round =>
              obtain ⟨j, rfl, j1, rfl, hb3⟩ := hrel
              have HB3 : Hid (Below wo.heap.size wo wr) := HB7.out.trans (hb3.out.mono HB7.out.size)
              by_cases hj : j < b.length
              · obtain ⟨x, hx⟩ : ∃ x, b[j]? = some x := ⟨_, List.getElem?_eq_getElem hj⟩
                obtain ⟨x0, x1, x2, x3, x4, x5, x6, x7, x8⟩ := spot_cells (row_up HROW.out HB3.out) hx
                have hjj : (j : Int) < (b.length : Int) := by omega
                obtain ⟨r0, r1⟩ := szB_bd (b.take j)
                rw [List.length_take, Nat.min_eq_left (by omega)] at r1
                obtain ⟨n0, n1⟩ := sizeNum_bd x.i.k x.i.d x.i.a x.i.b x.i.n x.i.l
                have HBJ : Hid (szB (b.take (j + 1)) = szB (b.take j) + sizeNum x.i.k x.i.d x.i.a x.i.b x.i.n x.i.l) := by
                  show _ = _
                  rw [List.take_add_one, hx]
                  exact szB_snoc _ _
                have SZ : Hid (∀ W, Below wo.heap.size wo W → Calls Tryd.prog 72 #[.agg #[.int .i64 x.i.k, .int .i64 x.i.d, .int .i64 x.i.a, .int .i64 x.i.b, .int .i64 x.i.n, .bool x.i.l]] W fun e w' => e = .returned (.tuple #[.int .i64 (sizeNum x.i.k x.i.d x.i.a x.i.b x.i.n x.i.l), .int .i64 (chk x.i.k x.i.d x.i.a x.i.b x.i.n x.i.l)]) ∧ Below W.heap.size W w') := fun W hW => sizes_any _ _ _ _ _ _ W (HT1.out.below HT1.out.sz hW)
                generalize szB (b.take j) = Q at *
                generalize sizeNum x.i.k x.i.d x.i.a x.i.b x.i.n x.i.l = Z at *
                have hzz : Hid (W7.heap.size ≤ wr.heap.size) := hb3.out.size
                have hzo : Hid (wo.heap.size ≤ wr.heap.size) := HB3.out.size
                clear hx
                go_wp2_with fail
                refine Calls.mono (SZ.out _ (HB3.out.alloc hzo.out _)) ?_
                rintro e w5 ⟨rfl, hb5⟩
                have HB5 : Hid (Below wr.heap.size wr w5) := ((Below.refl _ _).alloc (Nat.le_refl _) _).trans (hb5.mono (by simp))
                clear hb5
                go_wp2_with fail
                go_roundw
                case rel => exact ⟨j + 1, by go_num, by omega, by rw [HBJ.out]; go_num, hb3.out.trans (HB5.out.mono hzz.out)⟩
                case measure => first | (simp [intOf]; done) | (simp [intOf]; omega)
              · obtain rfl : j = b.length := by omega
                have hq : Hid (szAll (cs.take (k + 1)) = S + szB (b.take b.length)) := by show _ = _; rw [HTK.out, szAll_snoc, HSS.out, List.take_length]
                go_wp2_with fail
                go_roundw
                case rel => exact ⟨k + 1, by go_num, by omega, by rw [hq.out], ⟨a7, c7, rfl⟩, by show World.ownsRow _ _ _ _ _ _ _; rw [HST.out, HSS.out]; exact row_up HO7.out hb3.out, HB3.out⟩
                case measure => first | (simp [intOf]; done) | (simp [intOf]; omega)
        · obtain rfl : k = cs.length := by omega
          have hat : Hid ((startsOf cs).take cs.length = startsOf cs) := by show _ = _; rw [← starts_len cs, List.take_length]
          have HI2 : Hid (wr.heap[w.heap.size + 2]? = some (.cells #[v0, v1, v2, .slice (some ⟨w.heap.size + 1, 0, none⟩) 6 6, v4, .int .i64 0] 29)) := (hb2.out.block _ (Array.getElem?_eq_some_iff.1 HI.out).1).trans HI.out
          have HD2 : Hid _ := (hb2.out.block _ (Array.getElem?_eq_some_iff.1 HD.out).1).trans HD.out
          have HGG : Hid _ := (hb2.out.block _ (Array.getElem?_eq_some_iff.1 HG.out).1).trans HG.out
          have HP2 : Hid _ := HP1.out.up hb2.out
          have HB2 : Hid (Below B w wr) := HB.out.trans (hb2.out.mono (by have := HB.out.size; omega))
          have HT2 : Hid (Tabs wr) := HT1.out.below HT1.out.sz hb2.out
          have hzr : wo.heap.size ≤ wr.heap.size := hb2.out.size
          have q0 := HP2.out.cells.1
          have i0 : wr.cell? ⟨w.heap.size + 2, 0, none⟩ = some v0 := by simp [World.cell?, HI2.out]
          have i4 : wr.cell? ⟨w.heap.size + 2, 4, none⟩ = some v4 := by simp [World.cell?, HI2.out]
          have f0 : wr.frozen? ⟨w.heap.size + 2, 0, none⟩ = false := by simp [World.frozen?, HI2.out]
          have f4 : wr.frozen? ⟨w.heap.size + 2, 4, none⟩ = false := by simp [World.frozen?, HI2.out]
          have hgn : gp < w.heap.size := HP.out.lt
          have hg1 : ¬ gp = w.heap.size + 2 := by omega
          have hg2 : ¬ w.heap.size + 2 = gp := by omega
          have hkk : ¬ (cs.length : Int) < (cs.length : Int) := by omega
          obtain ⟨ats, hats⟩ : ∃ ats, startsOf cs = ats := ⟨_, rfl⟩
          have HATS : Hid _ := hats
          have HAB : Hid (∀ n, 0 ≤ ats.getD n 0 ∧ ats.getD n 0 ≤ 600000) := by rw [← hats]; exact starts_bd cs hsm hcb.out
          have HAL : Hid (ats.length = cs.length) := by rw [← hats]; exact starts_len cs
          have HG2 : Hid (w.heap.size + 2 < wo.heap.size) := (Array.getElem?_eq_some_iff.1 HI.out).1
          rw [hat.out, hats] at ho
          have hcpos : ats.length ≠ 0 := by
            have := HAL.out
            obtain ⟨_, _, _, _, _, _⟩ := HF.out.fit.seg 0 HF.out.pos
            have := hcl.out
            omega
          obtain ⟨gA, cA, hvA, hA1, hA2⟩ := own_some ho hcpos
          rw [HAL.out] at hvA
          obtain ⟨rfl, rfl⟩ : aT = some ⟨gA, 0, none⟩ ∧ cT = cA := by simpa using hvA
          have HO : Hid _ := ho
          clear ho hats hvA hcpos
          go_wp2_with fail
          go_loopw [6, 15, 74] (fun av lv kv w4 => ∃ k : Nat, kv = .int .i64 (k : Int) ∧ k ≤ cs.length ∧ av = .bool (emUpTo ats fs (cs.take k).flatten).again ∧ lv = .int .i64 (emUpTo ats fs (cs.take k).flatten).line ∧
            Hid (EmR w wo B gp (.slice aB cs.length cB) vF (.slice (some ⟨gA, 0, none⟩) cs.length cT) v1 v2 vs fs ats w4 (midOf ats fs cs k) (emUpTo ats fs (cs.take k).flatten))) (fun _ _ kv _ => (cs.length - intOf kv).toNat)
          case atStart =>
            refine ⟨0, rfl, by omega, rfl, rfl, ?_⟩
            obtain ⟨K1, B1, H1, O1⟩ := img_set HI2.out 0 (.slice none 0 0)
            obtain ⟨K2, B2, H2, O2⟩ := img_set H1 4 (.slice none 0 0)
            rw [mid_zero]
            have hbb : Below (w.heap.size + 2) wr ((wr.setCell ⟨w.heap.size + 2, 0, none⟩ (.slice none 0 0)).setCell ⟨w.heap.size + 2, 4, none⟩ (.slice none 0 0)) := B1.trans B2
            have hBn : B ≤ w.heap.size + 2 := by omega
            exact ⟨⟨.slice none 0 0, .slice none 0 0, H2, World.ownsRow_nil _ _ _ _, World.ownsRow_nil _ _ _ _⟩, (HP2.out.keeps K1 (by decide) (by decide) (by decide) (by decide)).keeps K2 (by decide) (by decide) (by decide) (by decide),
              row_keeps (row_keeps HO.out K1 (by decide)) K2 (by decide), (O2 _ (by omega)).trans ((O1 _ (by omega)).trans HD2.out), (O2 _ (by omega)).trans ((O1 _ (by omega)).trans HGG.out), HB2.out.trans (hbb.mono hBn), HT2.out.below (by omega) hbb, Nat.le_trans hzr hbb.size⟩
          case round =>
            clear q0 i0 i4 f0 f4 HI2 HD2 HGG HP2 HB2 HT2 HO hzr hat
            obtain ⟨k, rfl, k1, rfl, rfl, hE⟩ := hrel
            by_cases hk : k < cs.length
            · obtain ⟨b, hb⟩ : ∃ b, cs[k]? = some b := ⟨_, List.getElem?_eq_getElem hk⟩
              obtain ⟨gB', cB', g, cap, e1, hc1, hc2, hx1, hc3, hc4, hne, hvs, hrow⟩ := PlanAt.block hE.out.2.1 (mid_at hb)
              have hml : (midOf ats fs cs k).length = cs.length := by unfold midOf; rw [List.length_append, markFrom_len, List.length_take, List.length_drop]; omega
              rw [hml] at e1 hc1
              cases e1
              have hbl := hcb.out b (List.mem_of_getElem? hb)
              have hk9 : (k : Int) < (cs.length : Int) := by omega
              have HVS : Hid _ := hvs
              have HBB : Hid _ := hb
              have HML : Hid _ := hml
              obtain ⟨em, hem⟩ : ∃ em, emUpTo ats fs (cs.take k).flatten = em := ⟨_, rfl⟩
              have HEM : Hid _ := hem
              rw [hem] at hE ⊢
              clear hrow hne hb hvs hml hem
              go_wp2_with fail
              go_loopw [6, 15, 81] (fun av lv jv w5 => ∃ j : Nat, jv = .int .i64 (j : Int) ∧ j ≤ b.length ∧ av = .bool (emUpTo ats fs ((cs.take k).flatten ++ b.take j)).again ∧ lv = .int .i64 (emUpTo ats fs ((cs.take k).flatten ++ b.take j)).line ∧
                Hid (EmR w wo B gp (.slice (some ⟨gB', 0, none⟩) cs.length cB) vF (.slice (some ⟨gA, 0, none⟩) cs.length cT) v1 v2 vs fs ats w5 ((midOf ats fs cs k).set k (longB ats fs (cs.take k).flatten b j)) (emUpTo ats fs ((cs.take k).flatten ++ b.take j)))) (fun _ _ jv _ => (b.length - intOf jv).toNat)
              case atStart =>
                refine ⟨0, rfl, by omega, ?_, ?_, ?_⟩
                · rw [List.take_zero, List.append_nil, HEM.out]
                · rw [List.take_zero, List.append_nil, HEM.out]
                · have hs : (midOf ats fs cs k).set k b = midOf ats fs cs k := by
                    apply List.ext_getElem?
                    intro i
                    by_cases e : i = k
                    · subst e; rw [List.getElem?_set_self (by rw [HML.out]; exact hk), mid_at HBB.out]
                    · rw [List.getElem?_set_ne (fun q => e q.symm)]
                  rw [List.take_zero, List.append_nil, HEM.out, longB_zero, hs]
                  exact hE.out
              case round =>
                obtain ⟨j, rfl, j1, rfl, rfl, hE5⟩ := hrel
                by_cases hj : j < b.length
                ·
                  as_aux_lemma =>
                    obtain ⟨x, hx⟩ : ∃ x, b[j]? = some x := ⟨_, List.getElem?_eq_getElem hj⟩
                    obtain ⟨⟨vT, vL, hI5, hoT, hoL⟩, hP5, hoA, hD5, hG5, hB5, hT5, hz5⟩ := hE5.out
                    have hbk : ((midOf ats fs cs k).set k (longB ats fs (cs.take k).flatten b j))[k]? = some (longB ats fs (cs.take k).flatten b j) := List.getElem?_set_self (by rw [HML.out]; exact hk)
                    have hxj : (longB ats fs (cs.take k).flatten b j)[j]? = some x := by rw [longB_at j hx, if_neg (by omega)]
                    obtain ⟨hr5, hne5⟩ := hP5.each _ _ _ HVS.out hbk
                    have hll := longB_len ats fs (cs.take k).flatten b j
                    rw [hll] at hr5
                    obtain ⟨⟨xk, xd, xa, xb, xn, xl⟩, bk, fn, ln⟩ := x
                    obtain ⟨x0, x1, x2, x3, x4, x5, x6, x7, x8⟩ := spot_cells hr5 hxj
                    dsimp only at x0 x1 x2 x3 x4 x5 x6 x7 x8
                    obtain ⟨aT', cT', rfl⟩ := orow_form' hoT
                    obtain ⟨aL', cL', rfl⟩ := orow_form' hoL
                    have hjj : (j : Int) < (b.length : Int) := by omega
                    have i0 : wr.cell? ⟨w.heap.size + 2, 0, none⟩ = some (.slice aT' (emUpTo ats fs ((cs.take k).flatten ++ b.take j)).text.length cT') := by simp [World.cell?, hI5]
                    have hgn2 : w.heap.size + 2 < wr.heap.size := (Array.getElem?_eq_some_iff.1 hI5).1
                    obtain ⟨hs1, hs2, hs3⟩ := HSI.out b (List.mem_of_getElem? HBB.out) _ (List.mem_of_getElem? hx)
                    have HOK : Hid (Isa.chk xk 0 0 0 0 xl = 0) := chk_bare (HOKS.out b (List.mem_of_getElem? HBB.out) _ (List.mem_of_getElem? hx)).chk
                    obtain ⟨sm1, sm2⟩ := em_small ats fs ((cs.take k).flatten ++ b.take j)
                    have sm3 := flat_small (cs.take k) 1000 fun c hc => hcb.out c (List.mem_of_mem_take hc)
                    rw [List.length_append, List.length_take (i := j), Nat.min_eq_left (by omega)] at sm1 sm2
                    rw [List.length_take, Nat.min_eq_left (by omega)] at sm3
                    have HEJ : Hid (emUpTo ats fs ((cs.take k).flatten ++ b.take (j + 1)) = emS ats fs (emUpTo ats fs ((cs.take k).flatten ++ b.take j)) ⟨⟨xk, xd, xa, xb, xn, xl⟩, bk, fn, ln⟩) := by
                      show _ = _
                      rw [List.take_add_one, hx, Option.toList_some, ← List.append_assoc, em_snoc]
                    have HLS : Hid ((midOf ats fs cs k).set k (longB ats fs (cs.take k).flatten b (j + 1)) = ((midOf ats fs cs k).set k (longB ats fs (cs.take k).flatten b j)).set k ((longB ats fs (cs.take k).flatten b j).set j (longS ats fs (emUpTo ats fs ((cs.take k).flatten ++ b.take j)).text.length ⟨⟨xk, xd, xa, xb, xn, xl⟩, bk, fn, ln⟩))) := by
                      show _ = _
                      rw [longB_succ hx, List.set_set]
                    have HOA2 : Hid (wr.ownsRow wo.heap.size 3 1 (.slice (some ⟨gA, 0, none⟩) cs.length cT) cs.length (flat icell ats)) := by have h := hoA; rw [HAL.out] at h; exact h
                    have q0 := hP5.cells.1
                    have q1 := hP5.cells.2.1
                    have hgl5 := hP5.lt
                    have hgw5 : g < wr.heap.size := own_lt hr5
                    have HE5 := hid hE5.out
                    have hlen5 : ((midOf ats fs cs k).set k (longB ats fs (cs.take k).flatten b j)).length = cs.length := by rw [List.length_set]; exact HML.out
                    have hfit5 : fs.length = 0 ∨ ∃ gF cF, vF = .slice (some ⟨gF, 0, none⟩) fs.length cF ∧ fs.length ≤ cF ∧ cF ≤ maxLen := by
                      by_cases q : fs.length = 0
                      · exact Or.inl q
                      · obtain ⟨gF, cF, e, h1, h2⟩ := own_some hP5.oF q
                        exact Or.inr ⟨gF, cF, e, h1, h2⟩
                    have HOF : Hid _ := hP5.oF
                    have HHB : Hid (∃ BL, ((midOf ats fs cs k).set k (longB ats fs (cs.take k).flatten b j))[k]? = some BL ∧ BL = longB ats fs (cs.take k).flatten b j ∧ BL[j]? = some ⟨⟨xk, xd, xa, xb, xn, xl⟩, bk, fn, ln⟩ ∧ BL.length = b.length) := ⟨_, hbk, rfl, hxj, hll⟩
                    generalize hem5 : emUpTo ats fs ((cs.take k).flatten ++ b.take j) = em5 at *
                    generalize hcs5 : (midOf ats fs cs k).set k (longB ats fs (cs.take k).flatten b j) = cs5 at *
                    have sm4 : em5.text.length ≤ 600000 := by omega
                    have sm5 : em5.lines.length ≤ 200000 := by omega
                    have HS5 : Hid (em5.lines.length ≤ 200000) := sm5
                    clear hI5 hoT hoL hP5 hoA hD5 hG5 hB5 hT5 hbk hxj hx hr5 hne5 hll hE5 sm1 sm2 sm3 hem5 hcs5 hlen5 sm5
                    have hgR : w.heap.size + 2 < wo.heap.size := HG2.out
                    go_upto_if 91 with fail
                    go_cut [81] from 81 to 188 (fun jv wc => jv = .int .i64 (j : Int) ∧ Hid (wc = wr.alloc (.cells #[.int .i64 xk, .int .i64 xd, .int .i64 xa, .int .i64 xb, .int .i64 (if 0 ≤ bk then ats.getD bk.toNat 0 - (em5.text.length : Int) else xn), .bool xl, .int .i64 bk, .int .i64 fn, .int .i64 ln] 118)))
                    case first =>
                      as_aux_lemma =>
                        by_cases hb0 : 0 ≤ bk
                        · obtain ⟨n1, rfl⟩ := Int.eq_ofNat_of_zero_le hb0
                          have hn1 : n1 < cs.length := by rcases hs1 with q | q <;> dsimp only at q <;> omega
                          obtain ⟨b1, b2⟩ := HAB.out n1
                          have y0 : wr.cell? ⟨gA, n1, none⟩ = some (.int .i64 (ats.getD n1 0)) := own_cells HOA2.out n1 _ (by rw [show (icell : Int → List Value) = fun x => [Value.int .i64 x] from rfl, flat_pt, List.getElem?_eq_getElem (by have := HAL.out; omega), List.getD_eq_getElem?_getD, List.getElem?_eq_getElem (by have := HAL.out; omega)]; rfl)
                          have hgA := own_lt HOA2.out
                          have hn1' : (n1 : Int) < (cs.length : Int) := by omega
                          generalize hA9 : ats.getD n1 0 = A1 at *
                          have HA9 : Hid _ := hA9
                          clear hA9
                          go_wp2_with fail
                          go_meet
                          exact ⟨rfl, by show _ = _; rw [if_pos hb0, Int.toNat_natCast, HA9.out]⟩
                        · have Hb0 : Hid (¬ 0 ≤ bk) := hb0
                          go_wp2_with fail
                          go_meet
                          exact ⟨rfl, by have := Hb0.out; show _ = _; rw [if_neg (by omega)]⟩
                    case rest =>
                      obtain ⟨rfl, hW6⟩ := hcut
                      have hW6' := hW6.out
                      subst hW6'
                      clear hW6
                      have Hp1 : Hid (∀ z, z = (if 0 ≤ bk then ats.getD bk.toNat 0 - (em5.text.length : Int) else xn) → ∃ N, (if 0 ≤ fn then ats.getD (fs.getD fn.toNat 0).toNat 0 - (em5.text.length : Int) else z) = N ∧ insAt ats fs em5.text.length ⟨⟨xk, xd, xa, xb, xn, xl⟩, bk, fn, ln⟩ = ⟨xk, xd, xa, xb, N, xl⟩) := fun z hz => ⟨_, rfl, by rw [hz]; rfl⟩
                      generalize hz1 : (if 0 ≤ bk then ats.getD bk.toNat 0 - (em5.text.length : Int) else xn) = z1 at *
                      obtain ⟨N, hN, hIns⟩ := Hp1.out z1 rfl
                      have HN : Hid _ := hN
                      have HIns : Hid _ := hIns
                      clear hN hIns Hp1 hz1
                      go_upto_if 103 with fail
                      go_cut [81] from 81 to 188 (fun jv wc => jv = .int .i64 (j : Int) ∧ Hid (Below wr.heap.size wr wc) ∧ Hid (BoxAt wc wr.heap.size ⟨xk, xd, xa, xb, N, xl⟩ ⟨⟨xk, xd, xa, xb, xn, xl⟩, bk, fn, ln⟩))
                      case first =>
                        as_aux_lemma =>
                          by_cases hb0 : 0 ≤ fn
                          · obtain ⟨n2, rfl⟩ := Int.eq_ofNat_of_zero_le hb0
                            have hn2 : n2 < fs.length := by rcases hs2 with q | q <;> dsimp only at q <;> omega
                            obtain ⟨n3, _, e1, _, e3, e4⟩ := (HF.out.lng HL.out).fit.seg n2 hn2
                            obtain ⟨gF, cF, rfl, hF1, hF2⟩ := hfit5.resolve_left (by omega)
                            unfold maxLen at hF2
                            obtain ⟨b1, b2⟩ := HAB.out n3
                            have hF3 : Hid ((if 0 ≤ (n2 : Int) then ats.getD (fs.getD (n2 : Int).toNat 0).toNat 0 - (em5.text.length : Int) else z1) = ats.getD n3 0 - (em5.text.length : Int)) := by
                              show _ = _
                              rw [if_pos hb0, Int.toNat_natCast, List.getD_eq_getElem?_getD (l := fs), e1]
                              rfl
                            have y0 : wr.cell? ⟨gF, n2, none⟩ = some (.int .i64 (n3 : Int)) := own_cells HOF.out n2 _ (by rw [show (icell : Int → List Value) = fun x => [Value.int .i64 x] from rfl, flat_pt, e1]; rfl)
                            have y1 : wr.cell? ⟨gA, n3, none⟩ = some (.int .i64 (ats.getD n3 0)) := own_cells HOA2.out n3 _ (by rw [show (icell : Int → List Value) = fun x => [Value.int .i64 x] from rfl, flat_pt, List.getElem?_eq_getElem (by have := HAL.out; omega), List.getD_eq_getElem?_getD, List.getElem?_eq_getElem (by have := HAL.out; omega)]; rfl)
                            have hgA := own_lt HOA2.out
                            have hgF := own_lt HOF.out
                            have hn2' : (n2 : Int) < (fs.length : Int) := by omega
                            have hn3' : (n3 : Int) < (cs.length : Int) := by omega
                            rw [hF3.out] at HN
                            clear hF3 e1 e4
                            generalize ats.getD n3 0 = A1 at *
                            go_upto_region 31 with fail
                            go_region
                            all_goals (try go_wp2_with fail)
                            all_goals go_meet
                            all_goals exact ⟨rfl, (by first | exact (Below.refl _ _).alloc (Nat.le_refl _) _ | exact ((Below.refl _ _).alloc (Nat.le_refl _) _).drew), by show _ = _; rw [← HN.out]; exact heap_alloc_new wr _⟩
                          · have Hb0 : Hid (¬ 0 ≤ fn) := hb0
                            go_wp2_with fail
                            go_meet
                            exact ⟨rfl, (Below.refl _ _).alloc (Nat.le_refl _) _, by have := Hb0.out; show _ = _; rw [← HN.out, if_neg (by omega)]; exact heap_alloc_new wr _⟩
                      case rest =>
                        obtain ⟨rfl, hB6', HB6⟩ := hcut
                        have hB6 := hB6'.out
                        have hz6 : wr.heap.size < wc.heap.size := (Array.getElem?_eq_some_iff.1 HB6.out).1
                        have HE6 := hid (EmR.up HE5.out hB6)
                        have hbx6 : wc.heap[wr.heap.size]? = some (.cells #[.int .i64 xk, .int .i64 xd, .int .i64 xa, .int .i64 xb, .int .i64 N, .bool xl, .int .i64 bk, .int .i64 fn, .int .i64 ln] 118) := HB6.out
                        have z0 : wc.cell? ⟨wr.heap.size, 0, none⟩ = some (.int .i64 xk) := by simp [World.cell?, hbx6]
                        have z5 : wc.cell? ⟨wr.heap.size, 5, none⟩ = some (.bool xl) := by simp [World.cell?, hbx6]
                        have z6 : wc.cell? ⟨wr.heap.size, 6, none⟩ = some (.int .i64 bk) := by simp [World.cell?, hbx6]
                        have z8 : wc.cell? ⟨wr.heap.size, 8, none⟩ = some (.int .i64 ln) := by simp [World.cell?, hbx6]
                        have hgn6 : w.heap.size + 2 < wc.heap.size := by omega
                        obtain ⟨w6, hw6⟩ : ∃ w6, w6 = wc := ⟨_, rfl⟩
                        subst hw6
                        have HB66 : Hid _ := hB6
                        clear hbx6 hB6' hB6 x0 x1 x2 x3 x4 x5 x6 x7 x8 i0 q0 q1 hgl5 HE5
                        go_upto_if 122 with fail
                        go_cut [81, 15] from 81 to 188 (fun jv lv wx => jv = .int .i64 (j : Int) ∧ lv = .int .i64 ln ∧ Hid (EmR w wo B gp (.slice (some ⟨gB', 0, none⟩) cs.length cB) vF (.slice (some ⟨gA, 0, none⟩) cs.length cT) v1 v2 vs fs ats wx cs5 { em5 with lines := if ln = em5.line then em5.lines else em5.lines ++ [⟨em5.text.length, ln⟩] }) ∧ Hid (BoxAt wx wr.heap.size ⟨xk, xd, xa, xb, N, xl⟩ ⟨⟨xk, xd, xa, xb, xn, xl⟩, bk, fn, ln⟩))
                        case first =>
                          by_cases hl : ln = em5.line
                          ·
                            as_aux_lemma =>
                              have hl2 : (ln != em5.line) = false := by simp [hl]
                              have HL2 : Hid (ln = em5.line) := hl
                              clear hl
                              go_wp2_with fail
                              go_meet
                              exact ⟨rfl, by rw [HL2.out], by rw [if_pos HL2.out]; exact HE6.out, HB6.out⟩
                          ·
                            as_aux_lemma =>
                              have hl2 : (ln != em5.line) = true := by simpa using hl
                              have HL2 : Hid (¬ ln = em5.line) := hl
                              clear hl
                              obtain ⟨aL9, cL9, c9, W9, r0, a9, r1, r2, ⟨u9, r3⟩, r4, r5, r6, r7⟩ := EmR.line HE6.out HS5.out hBw hgR ((Below.refl w6.heap.size w6).alloc (Nat.le_refl _) (.cells #[.int .i64 em5.text.length, .int .i64 ln] 43)) w6.heap.size em5.text.length ln (by rw [World.cell?_alloc_new]; rfl) (by rw [World.cell?_alloc_new]; rfl)
                              have HR1 := hid r1
                              have HR6 := hid r6
                              have hbx : W9.heap[wr.heap.size]? = some (.cells #[.int .i64 xk, .int .i64 xd, .int .i64 xa, .int .i64 xb, .int .i64 N, .bool xl, .int .i64 bk, .int .i64 fn, .int .i64 ln] 118) := r5 _ _ ((heap_alloc_old w6 _ hz6).trans HB6.out)
                              have y8 : W9.cell? ⟨wr.heap.size, 8, none⟩ = some (.int .i64 ln) := by simp [World.cell?, hbx]
                              have HBX : Hid (BoxAt (W9.setCell ⟨w.heap.size + 2, 4, none⟩ (.slice a9 (em5.lines.length + 1) c9)) wr.heap.size ⟨xk, xd, xa, xb, N, xl⟩ ⟨⟨xk, xd, xa, xb, xn, xl⟩, bk, fn, ln⟩) := r7 _ _ ((heap_alloc_old w6 _ hz6).trans HB6.out)
                              have hne1 : ¬ wr.heap.size = w.heap.size + 2 := by omega
                              have hne2 : ¬ w.heap.size + 2 = wr.heap.size := by omega
                              clear r1 r5 r6 r7 hbx
                              go_wp2_with (first | (at_builtin; refine wpList_append_pair _ rfl (.tmp 124) (.tmp 129) 27 27 rfl _ _ rfl rfl HR1.out ?_))
                              go_meet
                              exact ⟨rfl, rfl, by rw [if_neg HL2.out]; exact HR6.out, HBX.out⟩
                        case rest =>
                          obtain ⟨rfl, rfl, HE7, HB7⟩ := hcut
                          obtain ⟨w7, hw7⟩ : ∃ w7, w7 = wc := ⟨_, rfl⟩
                          subst hw7
                          have hbx7 : w7.heap[wr.heap.size]? = some (.cells #[.int .i64 xk, .int .i64 xd, .int .i64 xa, .int .i64 xb, .int .i64 N, .bool xl, .int .i64 bk, .int .i64 fn, .int .i64 ln] 118) := HB7.out
                          have hz7 : wr.heap.size < w7.heap.size := (Array.getElem?_eq_some_iff.1 hbx7).1
                          have hT7 : Tabs w7 := HE7.out.2.2.2.2.2.2.1
                          have HT7 := hid hT7
                          have HX7 := hid hbx7
                          have HEM : Hid (emUpTo ats fs ((cs.take k).flatten ++ b.take (j + 1)) = ⟨em5.text ++ codeOf ⟨xk, xd, xa, xb, N, xl⟩, if ln = em5.line then em5.lines else em5.lines ++ [⟨em5.text.length, ln⟩], ln, em5.again || mustS ats fs em5.text.length ⟨⟨xk, xd, xa, xb, xn, xl⟩, bk, fn, ln⟩⟩) := by
                            show _ = _
                            rw [HEJ.out, ← HIns.out]
                            rfl
                          have HMU : Hid (mustS ats fs em5.text.length ⟨⟨xk, xd, xa, xb, xn, xl⟩, bk, fn, ln⟩ = ((Isa.chk xk xd xa xb N xl != 0) && !xl && decide (0 ≤ bk))) := by
                            show _ = _
                            unfold mustS
                            rw [HIns.out]
                            rfl
                          have HLN : Hid (mustS ats fs em5.text.length ⟨⟨xk, xd, xa, xb, xn, xl⟩, bk, fn, ln⟩ = false → (midOf ats fs cs k).set k (longB ats fs (cs.take k).flatten b (j + 1)) = cs5) := fun hm => by
                            obtain ⟨BL, h1, h2, h3, _⟩ := HHB.out
                            rw [HLS.out, longS_id hm, ← h2, set_same h3, set_same h1]
                          have HLY : Hid (mustS ats fs em5.text.length ⟨⟨xk, xd, xa, xb, xn, xl⟩, bk, fn, ln⟩ = true → ∃ BL, cs5[k]? = some BL ∧ BL[j]? = some ⟨⟨xk, xd, xa, xb, xn, xl⟩, bk, fn, ln⟩ ∧ BL.length = b.length ∧ (midOf ats fs cs k).set k (longB ats fs (cs.take k).flatten b (j + 1)) = cs5.set k (BL.set j (Sp.long ⟨⟨xk, xd, xa, xb, xn, xl⟩, bk, fn, ln⟩))) := fun hm => by
                            obtain ⟨BL, h1, h2, h3, h4⟩ := HHB.out
                            refine ⟨BL, h1, h3, h4, ?_⟩
                            rw [HLS.out, ← h2]
                            unfold longS
                            rw [if_pos hm]
                            rfl
                          generalize mustS ats fs em5.text.length ⟨⟨xk, xd, xa, xb, xn, xl⟩, bk, fn, ln⟩ = mu at *
                          generalize (if ln = em5.line then em5.lines else em5.lines ++ [(⟨em5.text.length, ln⟩ : Ln)]) = L7 at *
                          have HE7 := hid HE7.out
                          have y0 : w7.cell? ⟨wr.heap.size, 0, none⟩ = some (.int .i64 xk) := by simp [World.cell?, hbx7]
                          have y1 : w7.cell? ⟨wr.heap.size, 1, none⟩ = some (.int .i64 xd) := by simp [World.cell?, hbx7]
                          have y2 : w7.cell? ⟨wr.heap.size, 2, none⟩ = some (.int .i64 xa) := by simp [World.cell?, hbx7]
                          have y3 : w7.cell? ⟨wr.heap.size, 3, none⟩ = some (.int .i64 xb) := by simp [World.cell?, hbx7]
                          have y4 : w7.cell? ⟨wr.heap.size, 4, none⟩ = some (.int .i64 N) := by simp [World.cell?, hbx7]
                          have y5 : w7.cell? ⟨wr.heap.size, 5, none⟩ = some (.bool xl) := by simp [World.cell?, hbx7]
                          clear hbx7 hT7 z0 z5 z6 z8 hgn6 hz6
                          go_wp2_with fail
                          refine Calls.mono (encode_any xk xd xa xb N xl w7 HT7.out) ?_
                          rintro e w8 hEnc
                          clear y0 y1 y2 y3 y4 y5
                          rcases hEnc with ⟨hc, rfl, hb8⟩ | ⟨hc, g8, cap8, rfl, ho8, hb8⟩
                          ·
                            as_aux_lemma =>
                              have hcb : (Isa.chk xk xd xa xb N xl != 0) = true := by simpa using hc
                              have HMW : Hid (mu = (!xl && decide (0 ≤ bk))) := by show _ = _; rw [HMU.out, hcb]; simp
                              have HCO : Hid (codeOf ⟨xk, xd, xa, xb, N, xl⟩ = List.replicate (sizeNum xk 0 0 0 0 xl).toNat 0) := if_neg hc
                              generalize Isa.chk xk xd xa xb N xl = C8 at *
                              have HE8 := hid (EmR.up HE7.out hb8)
                              have hbx8 := (hb8.block _ hz7).trans HX7.out
                              have HX8 := hid hbx8
                              have hz8 : wr.heap.size < w8.heap.size := (Array.getElem?_eq_some_iff.1 hbx8).1
                              have y5 : w8.cell? ⟨wr.heap.size, 5, none⟩ = some (.bool xl) := by simp [World.cell?, hbx8]
                              have y6 : w8.cell? ⟨wr.heap.size, 6, none⟩ = some (.int .i64 bk) := by simp [World.cell?, hbx8]
                              clear hbx8 hb8 hc
                              go_upto_region 36 with fail
                              go_cut [81, 152] from 81 to 188 (fun jv mv wx => jv = .int .i64 (j : Int) ∧ mv = .bool mu ∧ wx = w8)
                              case first =>
                                cases xl with
                                | true =>
                                  go_wp2_with fail
                                  go_meet
                                  exact ⟨rfl, by rw [HMW.out]; rfl, rfl⟩
                                | false =>
                                  by_cases hb0 : 0 ≤ bk
                                  · have Hb0 : Hid (0 ≤ bk) := hb0
                                    go_wp2_with fail
                                    go_meet
                                    exact ⟨rfl, by rw [HMW.out]; have := Hb0.out; simp; omega, rfl⟩
                                  · have Hb0 : Hid (¬ 0 ≤ bk) := hb0
                                    go_wp2_with fail
                                    go_meet
                                    exact ⟨rfl, by rw [HMW.out]; have := Hb0.out; simp; omega, rfl⟩
                              case rest =>
                                obtain ⟨rfl, rfl, rfl⟩ := hcut
                                go_upto_if 152 with fail
                                go_cut [81, 6] from 81 to 188 (fun jv av wx => jv = .int .i64 (j : Int) ∧ av = .bool (em5.again || mu) ∧ Hid (EmR w wo B gp (.slice (some ⟨gB', 0, none⟩) cs.length cB) vF (.slice (some ⟨gA, 0, none⟩) cs.length cT) v1 v2 vs fs ats wx ((midOf ats fs cs k).set k (longB ats fs (cs.take k).flatten b (j + 1))) { em5 with lines := L7 }) ∧ Hid (BoxAt wx wr.heap.size ⟨xk, xd, xa, xb, N, xl⟩ ⟨⟨xk, xd, xa, xb, xn, xl⟩, bk, fn, ln⟩))
                                case first =>
                                  cases mu with
                                  | false =>
                                    go_wp2_with fail
                                    go_meet
                                    exact ⟨rfl, by simp, by rw [HLN.out (by first | rfl | trivial)]; exact HE8.out, HX8.out⟩
                                  | true =>
                                    obtain ⟨BL, l1, l2, l3, l4⟩ := HLY.out (by first | rfl | trivial)
                                    have HL4 := hid l4
                                    obtain ⟨gB2, cB2, g2, cap2, e1, hc1, hc2, p2, hc3, hc4, -, hv2, hr2⟩ := PlanAt.block HE8.out.2.1 l1
                                    obtain ⟨E1, E2, E3, E4⟩ := EmR.mark hB1 HE8.out l1 l2 hv2
                                    have e9 := HVS.out.symm.trans hv2
                                    have hcl5 : cs5.length = cs.length := by
                                      rcases HE8.out.2.1.oB.2 with ⟨e, _⟩ | ⟨_, _, _, e, _⟩
                                      · cases e
                                      · simpa using (show (cs.length : Nat) = cs5.length by simpa using congrArg (fun v : Value => match v with | .slice _ n _ => n | _ => 0) e).symm
                                    obtain ⟨rfl, rfl⟩ : g = g2 ∧ cap = cap2 := by
                                      rw [l3] at e9
                                      simpa using e9
                                    obtain ⟨rfl, rfl⟩ : gB' = gB2 ∧ cB = cB2 := by
                                      rw [hcl5] at e1
                                      simpa using e1
                                    have q0 := HE8.out.2.1.cells.1
                                    have HE1 := hid E1
                                    have HE4 := hid E4
                                    have hgg : wr.heap.size ≠ g := by omega
                                    rw [l3] at p2
                                    clear l1 l2 l3 l4 hv2 hr2 e1 e9 hc1 hc2 hc3 hc4 E1 E4
                                    go_wp2_with fail
                                    go_meet
                                    exact ⟨rfl, by simp, by rw [HL4.out]; exact HE1.out, (HE4.out _ hgg).trans HX8.out⟩
                                case rest =>
                                  obtain ⟨rfl, rfl, HE9, HB9⟩ := hcut
                                  obtain ⟨w9, hw9⟩ : ∃ w9, w9 = wc := ⟨_, rfl⟩
                                  subst hw9
                                  have hbx9 : w9.heap[wr.heap.size]? = some (.cells #[.int .i64 xk, .int .i64 xd, .int .i64 xa, .int .i64 xb, .int .i64 N, .bool xl, .int .i64 bk, .int .i64 fn, .int .i64 ln] 118) := HB9.out
                                  have hz9 : wr.heap.size < w9.heap.size := (Array.getElem?_eq_some_iff.1 hbx9).1
                                  have x0 : w9.cell? ⟨wr.heap.size, 0, none⟩ = some (.int .i64 xk) := by simp [World.cell?, hbx9]
                                  have x5 : w9.cell? ⟨wr.heap.size, 5, none⟩ = some (.bool xl) := by simp [World.cell?, hbx9]
                                  obtain ⟨aT9, cT9, t0, tR, t1, t2, tE⟩ := EmR.text HE9.out hBw hgR
                                  dsimp only at t0 tR tE
                                  obtain ⟨f9, ⟨u9, c9⟩, z9, HE9', hk9⟩ := tE (.slice aT9 em5.text.length cT9) w9 [] em5.text.length (by simp) (by rw [List.map_nil, List.append_nil]; exact tR) ⟨rfl, rfl, rfl, Nat.le_refl _, fun _ _ _ => rfl⟩
                                  have htc : em5.text.length ≤ cT9 := by
                                    rcases tR.2 with ⟨e, h0⟩ | ⟨_, _, _, e, _, _, q, _⟩
                                    · rw [h0]; omega
                                    · cases e; exact q
                                  obtain ⟨iU, hiU, _, _, _⟩ := info_of inOct
                                  have hr9 := run_append_nothing (P := Tryd.prog) w9 23 23 23 5 iU Tryd.underlying23 hiU aT9 em5.text.length cT9 htc (.slice none 0 0) (Src.ofNil w9 Tryd.underlying23 0)
                                  have HR9 := hid hr9
                                  obtain ⟨W9, hW9⟩ : ∃ W9, w9.setCell ⟨w.heap.size + 2, 0, none⟩ (.slice aT9 em5.text.length cT9) = W9 := ⟨_, rfl⟩
                                  rw [hW9] at HE9' hk9
                                  have HE10 := hid HE9'
                                  have hT9 : Tabs W9 := HE9'.2.2.2.2.2.2.1
                                  have HT9 : Hid (Tabs (w9.setCell ⟨w.heap.size + 2, 0, none⟩ (.slice aT9 em5.text.length cT9))) := by show Tabs _; rw [hW9]; exact hT9
                                  have HX9 := hid (hk9 _ _ hbx9)
                                  have HW9 := hid hW9
                                  obtain ⟨nZ, hnZ⟩ : ∃ nZ : Nat, sizeNum xk 0 0 0 0 xl = (nZ : Int) := ⟨(sizeNum xk 0 0 0 0 xl).toNat, by have := (sizeNum_bd xk 0 0 0 0 xl).1; omega⟩
                                  have hnp : 0 < nZ ∧ nZ ≤ 5 := by
                                    have h1 := (sizeNum_bd xk 0 0 0 0 xl).2
                                    obtain ⟨k1, k2, _⟩ := chk_zero HOK.out
                                    have h2 := siz_pos (l := xl) k1 k2
                                    have h3 : sizeNum xk 0 0 0 0 xl = siz xk xl := if_pos HOK.out
                                    omega
                                  have HCO2 : Hid (codeOf ⟨xk, xd, xa, xb, N, xl⟩ = List.replicate nZ 0) := by show _ = _; rw [HCO.out, hnZ]; rfl
                                  have HSZ := hid (sizes_any xk 0 0 0 0 xl _ HT9.out)
                                  rw [hnZ] at HSZ
                                  have hne1 : ¬ wr.heap.size = w.heap.size + 2 := by omega
                                  have hne2 : ¬ w.heap.size + 2 = wr.heap.size := by omega
                                  clear hbx9 tE tR hr9 HE9' hk9 hW9 hT9 hiU hnZ
                                  go_wp2_with (first | (at_builtin; refine wpList_append_pair _ rfl (.tmp 165) (.tmp 166) 23 23 rfl _ _ rfl rfl HR9.out ?_))
                                  refine Calls.mono HSZ.out ?_
                                  rintro e w10 ⟨rfl, hb10⟩
                                  rw [HW9.out] at hb10
                                  have HE11 := hid (EmR.up HE10.out hb10)
                                  obtain ⟨aTa, cTa, t0a, tRa, t1a, t2a, tEa⟩ := EmR.text HE11.out hBw hgR
                                  dsimp only at t0a tRa tEa
                                  rw [List.append_nil] at t0a tRa tEa
                                  obtain ⟨va, Wa, hra, hoa, gra⟩ := app_zeros tRa t2a nZ hnp.1 (by omega)
                                  obtain ⟨fa, ⟨ua, ca⟩, za, HEa, -⟩ := tEa va Wa (List.replicate nZ 0) _ (by rw [List.length_replicate]) (by rw [List.map_replicate]; exact hoa) gra
                                  obtain ⟨aa, cca, rfl⟩ := orow_form' hoa
                                  have HRa := hid hra
                                  have HEa2 := hid HEa
                                  clear hra hoa gra HEa tEa tRa hb10 t0 t1 t2 f9 c9 z9 x0 x5 hnp
                                  go_wp2_with (first | (at_builtin; refine wpList_append_pair _ rfl (.tmp 184) (.tmp 185) 23 3 rfl _ _ rfl rfl HRa.out ?_))
                                  go_roundw
                                  case rel => exact ⟨j + 1, by go_num, by omega, by rw [HEM.out], by rw [HEM.out], by rw [HEM.out, HCO2.out]; exact HEa2.out⟩
                                  case measure => first | (simp [intOf]; done) | (simp [intOf]; omega)
                          ·
                            as_aux_lemma =>
                              have hmu : mu = false := by rw [HMU.out, hc]; rfl
                              have HCO : Hid (codeOf ⟨xk, xd, xa, xb, N, xl⟩ = encL xk xd xa xb N xl) := if_pos hc
                              obtain ⟨h81, h82, _⟩ := chk_zero hc
                              have hl8 := encL_len (d := xd) (a := xa) (b := xb) (n := N) (l := xl) h81 h82
                              have hs8 := siz_pos (l := xl) h81 h82
                              have hl0 : (((encL xk xd xa xb N xl).length : Int) == 0) = false := by simp only [beq_eq_false_iff_ne]; omega
                              have hl5 : (encL xk xd xa xb N xl).length ≤ 5 := by omega
                              generalize encL xk xd xa xb N xl = E8 at *
                              have HE8 := hid (EmR.up HE7.out hb8)
                              obtain ⟨aT8, cT8, t0, tR, t1, t2, tE⟩ := EmR.text HE8.out hBw hgR
                              dsimp only at t0 tR tE
                              obtain ⟨v9, W9, hr9, ho9, gr9⟩ := orow_apps 5 23 1 1 _ Tryd.underlying23 inOct rfl (by decide) tR t2 g8 0 E8.length cap8 (E8.map (Value.int .u8)) (by rw [List.length_map, Nat.mul_one]) (fun jj u hu => by rw [Nat.zero_add]; exact own_cells ho8 jj u hu) (one_bytes _) (by omega) (by unfold maxLen; omega)
                              obtain ⟨f9, ⟨u9, c9⟩, z9, HE9', -⟩ := tE v9 W9 E8 _ rfl ho9 gr9
                              obtain ⟨a9, cc9, rfl⟩ := orow_form' ho9
                              have HR9 := hid hr9
                              have HE9 := hid HE9'
                              have HLN2 := hid (HLN.out hmu)
                              have HM2 : Hid (mu = false) := hmu
                              clear hr9 ho9 gr9 HE9' tE tR hl8 hs8 h81 h82 hb8 ho8 hc hmu
                              go_wp2_with (first | (at_builtin; refine wpList_append_pair _ rfl (.tmp 165) (.tmp 166) 23 23 rfl _ _ rfl rfl HR9.out ?_))
                              go_roundw
                              case rel => exact ⟨j + 1, by go_num, by omega, by rw [HEM.out, HM2.out]; simp, by rw [HEM.out], by rw [HEM.out, HLN2.out, HCO.out, HM2.out, Bool.or_false]; exact HE9.out⟩
                              case measure => first | (simp [intOf]; done) | (simp [intOf]; omega)
                · obtain rfl : j = b.length := by omega
                  have hfl : Hid ((cs.take (k + 1)).flatten = (cs.take k).flatten ++ b.take b.length) := by show _ = _; rw [List.take_add_one, HBB.out, List.take_length]; simp
                  have hms : Hid _ := mid_succ (ats := ats) (fs := fs) HBB.out
                  go_wp2_with fail
                  go_roundw
                  case rel => exact ⟨k + 1, by go_num, by omega, by rw [hfl.out], by rw [hfl.out], by rw [hfl.out, hms.out]; exact hE5.out⟩
                  case measure => first | (simp [intOf]; done) | (simp [intOf]; omega)
            ·
              as_aux_lemma =>
                obtain rfl : k = cs.length := by omega
                have hds : midOf ats fs cs cs.length = markFrom ats fs [] cs := by unfold midOf; rw [List.take_length, List.drop_length, List.append_nil]
                rw [List.take_length, hds] at hE
                rw [List.take_length]
                have HDS : Hid (∃ ds, markFrom ats fs [] cs = ds ∧ Lng cs ds ∧ ds.length = cs.length) := ⟨_, rfl, mark_lng ats fs [] cs, markFrom_len ats fs [] cs⟩
                obtain ⟨ds, hd1, hd2, hd3⟩ := HDS.out
                have HD1 := hid hd1
                have HD2 := hid hd2
                have HD3 := hid hd3
                rw [hd1] at hE
                obtain ⟨em, hem⟩ : ∃ em, emUpTo ats fs cs.flatten = em := ⟨_, rfl⟩
                have HEM := hid hem
                rw [hem] at hE ⊢
                have HGD := hid ((HF.out.lng HL.out).lng hd2)
                obtain ⟨vT, vL, hI6, fT, fL, HT6⟩ := EmR.tail hE.out hBw
                have i1 : wr.cell? ⟨w.heap.size + 2, 1, none⟩ = some v1 := by simp [World.cell?, hI6]
                have i2 : wr.cell? ⟨w.heap.size + 2, 2, none⟩ = some v2 := by simp [World.cell?, hI6]
                have f1 : wr.frozen? ⟨w.heap.size + 2, 1, none⟩ = false := by simp [World.frozen?, hI6]
                have f2 : wr.frozen? ⟨w.heap.size + 2, 2, none⟩ = false := by simp [World.frozen?, hI6]
                have hgn6 : w.heap.size + 2 < wr.heap.size := (Array.getElem?_eq_some_iff.1 hI6).1
                obtain ⟨gF, cF, hvF, hF1, hF2⟩ := own_some hE.out.2.1.oF (by have := HF.out.pos; omega)
                have q1 : wr.cell? ⟨gp, 1, none⟩ = some (.slice (some ⟨gF, 0, none⟩) fs.length cF) := by rw [← hvF]; exact hE.out.2.1.cells.2.1
                have HVF := hid hvF
                have HTL := hid HT6
                have hflen : fs.length ≤ 3 := HF.out.fit.few
                have hszA := szAll_bd cs hcb.out
                unfold maxLen at hF2
                clear hds hd1 hd2 hd3 HDS hem hI6 HT6 hE hvF
                go_wp2_with fail
                go_loopw [197] (fun iv w6 => ∃ i : Nat, iv = .int .i64 (i : Int) ∧ i ≤ fs.length ∧ Hid (TlR w wo B gp (.slice aB cs.length cB) vF (.slice (some ⟨gA, 0, none⟩) cs.length cT) vT vL vs fs ats w6 ds em ((fnsOf ats fs (szAll cs)).take i) [])) (fun iv _ => (fs.length - intOf iv).toNat)
                case atStart => exact ⟨0, rfl, by omega, by rw [List.take_zero]; exact HTL.out⟩
                case round =>
                  clear i1 i2 f1 f2 hgn6 q1 HTL
                  obtain ⟨i, rfl, i1, hTl⟩ := hrel
                  have HTl := hid hTl.out
                  clear hTl
                  have hP6 := HTl.out.2.2.2.1
                  have q1 : wr.cell? ⟨gp, 1, none⟩ = some (.slice (some ⟨gF, 0, none⟩) fs.length cF) := by rw [← HVF.out]; exact hP6.cells.2.1
                  have HOF : Hid (wr.ownsRow B 3 1 (.slice (some ⟨gF, 0, none⟩) fs.length cF) fs.length (flat icell fs)) := by have h := hP6.oF; rw [HVF.out] at h; exact h
                  have HOA2 : Hid (wr.ownsRow wo.heap.size 3 1 (.slice (some ⟨gA, 0, none⟩) cs.length cT) cs.length (flat icell ats)) := by have h := HTl.out.2.2.2.2.1; rw [HAL.out] at h; exact h
                  clear hP6
                  by_cases hi : i < fs.length
                  ·
                    as_aux_lemma =>
                      obtain ⟨n, m9, e1, _, e3, e4⟩ := HGD.out.fit.seg i hi
                      have hn : n < cs.length := by have := HD3.out; omega
                      have y0 : wr.cell? ⟨gF, i, none⟩ = some (.int .i64 (n : Int)) := own_cells HOF.out i _ (by rw [show (icell : Int → List Value) = fun x => [Value.int .i64 x] from rfl, flat_pt, e1]; rfl)
                      have y1 : wr.cell? ⟨gA, n, none⟩ = some (.int .i64 (ats.getD n 0)) := own_cells HOA2.out n _ (by rw [show (icell : Int → List Value) = fun x => [Value.int .i64 x] from rfl, flat_pt, List.getElem?_eq_getElem (by have := HAL.out; omega), List.getD_eq_getElem?_getD, List.getElem?_eq_getElem (by have := HAL.out; omega)]; rfl)
                      have HAt : Hid (atOf ats fs i = ats.getD n 0) := by show _ = _; unfold atOf; rw [List.getD_eq_getElem?_getD (l := fs), e1]; rfl
                      obtain ⟨b1, b2⟩ := HAB.out n
                      have hii : (i : Int) < (fs.length : Int) := by omega
                      have hnn : (n : Int) < (cs.length : Int) := by omega
                      have hgA := own_lt HOA2.out
                      have hgF := own_lt HOF.out
                      obtain ⟨A0, hA0⟩ : ∃ A0, ats.getD n 0 = A0 := ⟨_, rfl⟩
                      have HA0 := hid hA0
                      rw [hA0] at y1 b1 b2
                      clear e1 hA0
                      go_upto_if 210 with fail
                      go_cut [197, 27] from 197 to 241 (fun iv ev wx => iv = .int .i64 (i : Int) ∧ ev = .int .i64 (endFn ats fs (szAll cs) i) ∧ wx = wr)
                      case first =>
                        by_cases hj : i + 1 < fs.length
                        · obtain ⟨n2, _, e2, _, e5, e6⟩ := HGD.out.fit.seg (i + 1) hj
                          have hn2 : n2 < cs.length := by have := HD3.out; omega
                          have z0 : wr.cell? ⟨gF, i + 1, none⟩ = some (.int .i64 (n2 : Int)) := own_cells HOF.out (i + 1) _ (by rw [show (icell : Int → List Value) = fun x => [Value.int .i64 x] from rfl, flat_pt, e2]; rfl)
                          have z1 : wr.cell? ⟨gA, n2, none⟩ = some (.int .i64 (ats.getD n2 0)) := own_cells HOA2.out n2 _ (by rw [show (icell : Int → List Value) = fun x => [Value.int .i64 x] from rfl, flat_pt, List.getElem?_eq_getElem (by have := HAL.out; omega), List.getD_eq_getElem?_getD, List.getElem?_eq_getElem (by have := HAL.out; omega)]; rfl)
                          have HEn : Hid (endFn ats fs (szAll cs) i = ats.getD n2 0) := by show _ = _; unfold endFn atOf; rw [if_pos hj, List.getD_eq_getElem?_getD (l := fs), e2]; rfl
                          have hjj : (i : Int) + 1 < (fs.length : Int) := by omega
                          have hjn : ((i + 1 : Nat) : Int) < (fs.length : Int) := by omega
                          have hnn2 : (n2 : Int) < (cs.length : Int) := by omega
                          obtain ⟨A2, hA2'⟩ : ∃ A2, ats.getD n2 0 = A2 := ⟨_, rfl⟩
                          have HA2 := hid hA2'
                          rw [hA2'] at z1
                          clear e2 hA2'
                          go_wp2_with fail
                          go_meet
                          exact ⟨rfl, by rw [HEn.out, HA2.out], rfl⟩
                        · have HEn : Hid (endFn ats fs (szAll cs) i = szAll cs) := if_neg hj
                          have hjj : ¬ (i : Int) + 1 < (fs.length : Int) := by omega
                          go_wp2_with fail
                          go_meet
                          exact ⟨rfl, by rw [HEn.out], rfl⟩
                      case rest =>
                        obtain ⟨rfl, rfl, hwc⟩ := hcut
                        rw [hwc]
                        clear hwc
                        obtain ⟨b3, b4, b5⟩ := PlGood.step (HF.out.lng HL.out) i hi
                        rw [HATS.out] at b3 b4 b5
                        rw [HAt.out, HA0.out] at b3 b4
                        have HFN : Hid ((fnsOf ats fs (szAll cs)).take (i + 1) = (fnsOf ats fs (szAll cs)).take i ++ [⟨(⟨#[102]⟩ : ByteArray) ++ ⟨(Lib.decDigits i).toArray⟩, A0, endFn ats fs (szAll cs) i - A0⟩]) := by
                          show _ = _
                          have e : (fnsOf ats fs (szAll cs))[i]? = some (fnOf ats fs (szAll cs) i) := by unfold fnsOf; rw [List.getElem?_map, List.getElem?_range hi]; rfl
                          rw [List.take_add_one, e, Option.toList_some]
                          unfold fnOf
                          rw [HAt.out, HA0.out, fn_name i (by omega)]
                        have HIT : Hid (∀ W, Calls Tryd.prog 73 #[.int .i64 (i : Int)] W fun e w' => e = .returned (.string ⟨(Lib.decDigits i).toArray⟩) ∧ w' = W) := fun W => sh_strconv_Itoa_small i (by omega) W
                        have hadd := add_name i (by omega)
                        obtain ⟨D9, hD9⟩ : ∃ D9 : ByteArray, (⟨(Lib.decDigits i).toArray⟩ : ByteArray) = D9 := ⟨_, rfl⟩
                        rw [hD9] at HFN HIT hadd
                        obtain ⟨X9, hX9⟩ : ∃ X9 : ByteArray, (⟨#[102]⟩ : ByteArray) ++ D9 = X9 := ⟨_, rfl⟩
                        rw [hX9] at HFN hadd
                        clear hD9 hX9
                        generalize endFn ats fs (szAll cs) i = E9 at *
                        have hWr : IntKind.i64.wrap (E9 - A0) = E9 - A0 := by rw [IntKind.wrap_i64]; omega
                        rw [← hWr] at HFN
                        clear hWr
                        have hfl9 : ((fnsOf ats fs (szAll cs)).take i).length = i := by rw [List.length_take]; unfold fnsOf; rw [List.length_map, List.length_range]; omega
                        generalize (fnsOf ats fs (szAll cs)).take i = fns at *
                        obtain ⟨aF, cFn, c9, a9, W9, r0, r1, r2, ⟨u9, r3⟩, r4, r5, r6⟩ := TlR.func (W1 := (wr.alloc (.cells #[.string X9, .int .i64 A0, .int .i64 (IntKind.i64.wrap (E9 - A0))] 47)).drew) HTl.out (by omega) hBw HG2.out (((Below.refl _ _).alloc (Nat.le_refl _) _).drew) wr.heap.size ⟨X9, A0, IntKind.i64.wrap (E9 - A0)⟩ (fun jj u hu => (World.cell?_alloc_new _ _ _ _).trans (by
                          rcases jj with _ | _ | _ | jj
                          · simpa [Fn.cells] using hu
                          · simpa [Fn.cells] using hu
                          · simpa [Fn.cells] using hu
                          · simp [Fn.cells] at hu))
                        have HR1 := hid r1
                        have HR6 := hid r6
                        have hgr2 : w.heap.size + 2 < wr.heap.size := by
                          obtain ⟨⟨_, _, hq, -⟩, -⟩ := HTl.out
                          exact (Array.getElem?_eq_some_iff.1 hq).1
                        have hgi : gA ≠ w.heap.size + 2 := by
                          intro q
                          obtain ⟨_, cur, hg⟩ := row_block HOA2.out rfl
                          obtain ⟨⟨_, _, hq, -⟩, -⟩ := HTl.out
                          rw [q, hq] at hg
                          simp at hg
                        have y9 : W9.cell? ⟨gA, n, none⟩ = some (.int .i64 A0) := own_keep HOA2.out (fun c' q => r5 _ _ ((heap_alloc_old wr _ (own_lt HOA2.out)).trans q)) y1
                        have y8 : (wr.alloc (.cells #[.string X9, .int .i64 A0, .int .i64 (IntKind.i64.wrap (E9 - A0))] 47)).cell? ⟨gA, n, none⟩ = some (.int .i64 A0) := (World.cell?_alloc_past _ _ _ (own_lt HOA2.out)).trans y1
                        have y7 : (W9.setCell ⟨w.heap.size + 2, 1, none⟩ (.slice a9 (fns.length + 1) c9)).cell? ⟨gA, n, none⟩ = some (.int .i64 A0) := (World.cell?_setCell_other _ _ _ _ (by simp [hgi])).trans y9
                        have yD : wr.drew.cell? ⟨gA, n, none⟩ = some (.int .i64 A0) := y1
                        have yA : ((wr.alloc (.cells #[.string X9, .int .i64 A0, .int .i64 (IntKind.i64.wrap (E9 - A0))] 47)).drew).cell? ⟨gA, n, none⟩ = some (.int .i64 A0) := y8
                        have yB : ((wr.drew).alloc (.cells #[.string X9, .int .i64 A0, .int .i64 (IntKind.i64.wrap (E9 - A0))] 47)).cell? ⟨gA, n, none⟩ = some (.int .i64 A0) := y8
                        clear r1 r5 r6 y8 hfl9
                        go_upto_region 53 with fail
                        refine wp_region_noPanic ?_
                        refine wp_region_held_drew (S := fun w' => w'.cell? ⟨gA, n, none⟩ = some (.int .i64 A0)) (by kernel_rfl) yD (fun hHeld => ?_)
                        refine wpAnyH_take (i := 0) (oi := { dst := some 222, op := Go.Op.fieldAddr 29 (Go.Operand.tmp 5) 1, type := 0, pos := "raw.go:164", after := #[], guard := none }) (v := ?_) rfl (by kernel_rfl) (by kernel_rfl) (by kernel_rfl) (fun _ _ _ h => h) (Or.inl ⟨by rfl, ?_⟩) (by assumption) ?_
                        rotate_left
                        · intro w0' hSw
                          try dsimp only at hSw
                          first | (go_simp; done) | (go_simp; with_reducible rfl)
                        try simp only [Act.put, List.setIfInBounds_toArray, List.set_cons_zero, List.set_cons_succ]
                        refine wpAnyH_take (i := 2) (oi := { dst := some 224, op := Go.Op.move (Go.Operand.tmp 25), type := 3, pos := "raw.go:164", after := #[], guard := none }) (v := ?_) rfl (by kernel_rfl) (by kernel_rfl) (by kernel_rfl) (fun _ _ _ h => h) (Or.inl ⟨by rfl, ?_⟩) (by assumption) ?_
                        rotate_left
                        · intro w0' hSw
                          try dsimp only at hSw
                          first | (go_simp; done) | (go_simp; with_reducible rfl)
                        try simp only [Act.put, List.setIfInBounds_toArray, List.set_cons_zero, List.set_cons_succ]
                        refine wpAnyH_take (i := 5) (oi := { dst := some 227, op := Go.Op.move (Go.Operand.tmp 7), type := 26, pos := "raw.go:164", after := #[], guard := none }) (v := ?_) rfl (by kernel_rfl) (by kernel_rfl) (by kernel_rfl) (fun _ _ _ h => h) (Or.inl ⟨by rfl, ?_⟩) (by assumption) ?_
                        rotate_left
                        · intro w0' hSw
                          try dsimp only at hSw
                          first | (go_simp; done) | (go_simp; with_reducible rfl)
                        try simp only [Act.put, List.setIfInBounds_toArray, List.set_cons_zero, List.set_cons_succ]
                        refine wpAnyH_take (i := 6) (oi := { dst := some 228, op := Go.Op.move (Go.Operand.tmp 26), type := 3, pos := "raw.go:164", after := #[], guard := none }) (v := ?_) rfl (by kernel_rfl) (by kernel_rfl) (by kernel_rfl) (fun _ _ _ h => h) (Or.inl ⟨by rfl, ?_⟩) (by assumption) ?_
                        rotate_left
                        · intro w0' hSw
                          try dsimp only at hSw
                          first | (go_simp; done) | (go_simp; with_reducible rfl)
                        try simp only [Act.put, List.setIfInBounds_toArray, List.set_cons_zero, List.set_cons_succ]
                        refine wpAnyH_take (i := 7) (oi := { dst := some 229, op := Go.Op.indexAddr 26 (Go.Operand.tmp 227) (Go.Operand.tmp 228), type := 0, pos := "raw.go:164", after := #[{ on := 5, ground := Go.Ground.data }, { on := 6, ground := Go.Ground.data }], guard := none }) (v := ?_) rfl (by kernel_rfl) (by kernel_rfl) (by kernel_rfl) (fun _ _ _ h => h) (Or.inl ⟨by rfl, ?_⟩) (by assumption) ?_
                        rotate_left
                        · intro w0' hSw
                          try dsimp only at hSw
                          first | (go_simp; done) | (go_simp; with_reducible rfl)
                        try simp only [Act.put, List.setIfInBounds_toArray, List.set_cons_zero, List.set_cons_succ]
                        refine wpAnyH_take (i := 8) (oi := { dst := some 230, op := Go.Op.load 3 (Go.Operand.tmp 229), type := 3, pos := "raw.go:164", after := #[{ on := 7, ground := Go.Ground.data }], guard := none }) (v := ?_) rfl (by kernel_rfl) (by kernel_rfl) (by kernel_rfl) (fun _ _ _ h => h) (Or.inl ⟨by rfl, ?_⟩) (by assumption) ?_
                        rotate_left
                        · intro w0' hSw
                          try dsimp only at hSw
                          first | (go_simp; done) | (go_simp; with_reducible rfl)
                        try simp only [Act.put, List.setIfInBounds_toArray, List.set_cons_zero, List.set_cons_succ]
                        refine wpAnyH_take (i := 9) (oi := { dst := some 231, op := Go.Op.move (Go.Operand.tmp 27), type := 3, pos := "raw.go:164", after := #[], guard := none }) (v := ?_) rfl (by kernel_rfl) (by kernel_rfl) (by kernel_rfl) (fun _ _ _ h => h) (Or.inl ⟨by rfl, ?_⟩) (by assumption) ?_
                        rotate_left
                        · intro w0' hSw
                          try dsimp only at hSw
                          first | (go_simp; done) | (go_simp; with_reducible rfl)
                        try simp only [Act.put, List.setIfInBounds_toArray, List.set_cons_zero, List.set_cons_succ]
                        refine wpAnyH_take (i := 10) (oi := { dst := some 232, op := Go.Op.move (Go.Operand.tmp 7), type := 26, pos := "raw.go:164", after := #[], guard := none }) (v := ?_) rfl (by kernel_rfl) (by kernel_rfl) (by kernel_rfl) (fun _ _ _ h => h) (Or.inl ⟨by rfl, ?_⟩) (by assumption) ?_
                        rotate_left
                        · intro w0' hSw
                          try dsimp only at hSw
                          first | (go_simp; done) | (go_simp; with_reducible rfl)
                        try simp only [Act.put, List.setIfInBounds_toArray, List.set_cons_zero, List.set_cons_succ]
                        refine wpAnyH_take (i := 11) (oi := { dst := some 233, op := Go.Op.move (Go.Operand.tmp 26), type := 3, pos := "raw.go:164", after := #[], guard := none }) (v := ?_) rfl (by kernel_rfl) (by kernel_rfl) (by kernel_rfl) (fun _ _ _ h => h) (Or.inl ⟨by rfl, ?_⟩) (by assumption) ?_
                        rotate_left
                        · intro w0' hSw
                          try dsimp only at hSw
                          first | (go_simp; done) | (go_simp; with_reducible rfl)
                        try simp only [Act.put, List.setIfInBounds_toArray, List.set_cons_zero, List.set_cons_succ]
                        refine wpAnyH_take (i := 12) (oi := { dst := some 234, op := Go.Op.indexAddr 26 (Go.Operand.tmp 232) (Go.Operand.tmp 233), type := 0, pos := "raw.go:164", after := #[{ on := 10, ground := Go.Ground.data }, { on := 11, ground := Go.Ground.data }], guard := none }) (v := ?_) rfl (by kernel_rfl) (by kernel_rfl) (by kernel_rfl) (fun _ _ _ h => h) (Or.inl ⟨by rfl, ?_⟩) (by assumption) ?_
                        rotate_left
                        · intro w0' hSw
                          try dsimp only at hSw
                          first | (go_simp; done) | (go_simp; with_reducible rfl)
                        try simp only [Act.put, List.setIfInBounds_toArray, List.set_cons_zero, List.set_cons_succ]
                        refine wpAnyH_take (i := 13) (oi := { dst := some 235, op := Go.Op.load 3 (Go.Operand.tmp 234), type := 3, pos := "raw.go:164", after := #[{ on := 12, ground := Go.Ground.data }], guard := none }) (v := ?_) rfl (by kernel_rfl) (by kernel_rfl) (by kernel_rfl) (fun _ _ _ h => h) (Or.inl ⟨by rfl, ?_⟩) (by assumption) ?_
                        rotate_left
                        · intro w0' hSw
                          try dsimp only at hSw
                          first | (go_simp; done) | (go_simp; with_reducible rfl)
                        try simp only [Act.put, List.setIfInBounds_toArray, List.set_cons_zero, List.set_cons_succ]
                        refine wpAnyH_take (i := 14) (oi := { dst := some 236, op := Go.Op.binOp Go.BinOp.sub 3 (Go.Operand.tmp 231) (Go.Operand.tmp 235) 3, type := 3, pos := "raw.go:164", after := #[{ on := 9, ground := Go.Ground.data }, { on := 13, ground := Go.Ground.data }], guard := none }) (v := ?_) rfl (by kernel_rfl) (by kernel_rfl) (by kernel_rfl) (fun _ _ _ h => h) (Or.inl ⟨by rfl, ?_⟩) (by assumption) ?_
                        rotate_left
                        · intro w0' hSw
                          try dsimp only at hSw
                          first | (go_simp; done) | (go_simp; with_reducible rfl)
                        try simp only [Act.put, List.setIfInBounds_toArray, List.set_cons_zero, List.set_cons_succ]
                        refine wpAnyH_ready (rs := [1, 3]) (by kernel_rfl) (by simp) ?_
                        refine AllReadyH.cons (o := { dst := some 223, op := Go.Op.load 24 (Go.Operand.tmp 222), type := 24, pos := "raw.go:164", after := #[{ on := 0, ground := Go.Ground.data }], guard := none }) rfl (fun K hK => ?_) ?_
                        ·
                          go_simp
                          refine hK.out _ _ ?_ (fun hHeld => ?_)
                          · try dsimp only
                            first | with_reducible exact yD | with_reducible exact yA | with_reducible exact yB | with_reducible exact y9 | with_reducible exact y7
                          clear hK K
                          try simp only [Act.put, List.setIfInBounds_toArray, List.set_cons_zero, List.set_cons_succ]
                          refine wpAnyH_ready (rs := [3]) (by kernel_rfl) (by simp) ?_
                          refine AllReadyH.cons (o := { dst := some 225, op := Go.Op.call { callee := Go.Callee.value (Go.Operand.func 73), args := #[Go.Operand.tmp 224], argTypes := #[3] }, type := 9, pos := "raw.go:164", after := #[{ on := 2, ground := Go.Ground.data }], guard := none }) rfl (fun K hK => ?_) ?_
                          ·
                            refine step_call_same rfl 73 (.tmp 224) 3 rfl (.int .i64 (i : Int)) _ rfl (itoa_enter _ _) (HIT.out _) ?_
                            refine hK.out _ _ ?_ (fun hHeld => ?_)
                            · try dsimp only
                              first | with_reducible exact yD | with_reducible exact yA | with_reducible exact yB | with_reducible exact y9 | with_reducible exact y7
                            clear hK K
                            try simp only [Act.put, List.setIfInBounds_toArray, List.set_cons_zero, List.set_cons_succ]
                            refine wpAnyH_take (i := 4) (oi := { dst := some 226, op := Go.Op.binOp Go.BinOp.add 9 (Go.Operand.const (Go.Value.string { data := #[102] })) (Go.Operand.tmp 225) 9, type := 9, pos := "raw.go:164", after := #[{ on := 3, ground := Go.Ground.data }], guard := none }) (v := ?_) rfl (by kernel_rfl) (by kernel_rfl) (by kernel_rfl) (fun _ _ _ h => h) (Or.inl ⟨by rfl, ?_⟩) (by assumption) ?_
                            rotate_left
                            · intro w0' hSw
                              try dsimp only at hSw
                              first | (go_simp; done) | (go_simp; with_reducible rfl)
                            try simp only [Act.put, List.setIfInBounds_toArray, List.set_cons_zero, List.set_cons_succ]
                            refine wpAnyH_take (i := 15) (oi := { dst := some 237, op := Go.Op.build 47 #[(0, Go.Operand.tmp 226), (1, Go.Operand.tmp 230), (2, Go.Operand.tmp 236)], type := 47, pos := "raw.go:164", after := #[{ on := 4, ground := Go.Ground.data }, { on := 8, ground := Go.Ground.data }, { on := 14, ground := Go.Ground.data }], guard := none }) (v := ?_) rfl (by kernel_rfl) (by kernel_rfl) (by kernel_rfl) (fun _ _ _ h => h) (Or.inl ⟨by rfl, ?_⟩) (by assumption) ?_
                            rotate_left
                            · intro w0' hSw
                              try dsimp only at hSw
                              first | (go_simp; done) | (go_simp; with_reducible rfl)
                            try simp only [Act.put, List.setIfInBounds_toArray, List.set_cons_zero, List.set_cons_succ]
                            refine wpAnyH_ready (rs := [16]) (by kernel_rfl) (by simp) ?_
                            refine AllReadyH.cons (o := { dst := some 238, op := Go.Op.buildSlice 24 1 #[(0, Go.Operand.tmp 237)], type := 24, pos := "raw.go:164", after := #[{ on := 15, ground := Go.Ground.data }], guard := none }) rfl (fun K hK => ?_) ?_
                            ·
                              go_simp
                              refine hK.out _ _ ?_ (fun hHeld => ?_)
                              · try dsimp only
                                first | with_reducible exact yD | with_reducible exact yA | with_reducible exact yB | with_reducible exact y9 | with_reducible exact y7
                              clear hK K
                              try simp only [Act.put, List.setIfInBounds_toArray, List.set_cons_zero, List.set_cons_succ]
                              refine wpAnyH_ready (rs := [17]) (by kernel_rfl) (by simp) ?_
                              refine AllReadyH.cons (o := { dst := some 239, op := Go.Op.call { callee := Go.Callee.builtin Go.Builtin.append, args := #[Go.Operand.tmp 223, Go.Operand.tmp 238], argTypes := #[24, 24] }, type := 24, pos := "raw.go:164", after := #[{ on := 1, ground := Go.Ground.data }, { on := 16, ground := Go.Ground.data }, { on := 3, ground := Go.Ground.chain }], guard := none }) rfl (fun K hK => ?_) ?_
                              ·
                                refine step_append_two rfl (.tmp 223) (.tmp 238) 24 24 rfl (.slice aF fns.length cFn) (.slice (some ⟨wr.heap.size, 0, none⟩) 1 1) rfl rfl HR1.out ?_
                                refine hK.out _ _ ?_ (fun hHeld => ?_)
                                · try dsimp only
                                  first | with_reducible exact yD | with_reducible exact yA | with_reducible exact yB | with_reducible exact y9 | with_reducible exact y7
                                clear hK K
                                try simp only [Act.put, List.setIfInBounds_toArray, List.set_cons_zero, List.set_cons_succ]
                                refine wpAnyH_take (i := 18) (oi := { dst := some 240, op := Go.Op.fieldAddr 29 (Go.Operand.tmp 5) 1, type := 0, pos := "raw.go:164", after := #[{ on := 0, ground := Go.Ground.phase }, { on := 1, ground := Go.Ground.phase }, { on := 2, ground := Go.Ground.phase }, { on := 3, ground := Go.Ground.phase }, { on := 4, ground := Go.Ground.phase }, { on := 5, ground := Go.Ground.phase }, { on := 6, ground := Go.Ground.phase }, { on := 7, ground := Go.Ground.phase }, { on := 8, ground := Go.Ground.phase }, { on := 9, ground := Go.Ground.phase }, { on := 10, ground := Go.Ground.phase }, { on := 11, ground := Go.Ground.phase }, { on := 12, ground := Go.Ground.phase }, { on := 13, ground := Go.Ground.phase }, { on := 14, ground := Go.Ground.phase }, { on := 15, ground := Go.Ground.phase }, { on := 16, ground := Go.Ground.phase }, { on := 17, ground := Go.Ground.phase }], guard := none }) (v := ?_) rfl (by kernel_rfl) (by kernel_rfl) (by kernel_rfl) (fun _ _ _ h => h) (Or.inl ⟨by rfl, ?_⟩) (by assumption) ?_
                                rotate_left
                                · intro w0' hSw
                                  try dsimp only at hSw
                                  first | (go_simp; done) | (go_simp; with_reducible rfl)
                                try simp only [Act.put, List.setIfInBounds_toArray, List.set_cons_zero, List.set_cons_succ]
                                refine wpAnyH_ready (rs := [19]) (by kernel_rfl) (by simp) ?_
                                refine AllReadyH.cons (o := { dst := none, op := Go.Op.store 24 (Go.Operand.tmp 240) (Go.Operand.tmp 239), type := 0, pos := "raw.go:164", after := #[{ on := 18, ground := Go.Ground.data }, { on := 17, ground := Go.Ground.data }, { on := 17, ground := Go.Ground.chain }, { on := 0, ground := Go.Ground.phase }, { on := 1, ground := Go.Ground.phase }, { on := 2, ground := Go.Ground.phase }, { on := 3, ground := Go.Ground.phase }, { on := 4, ground := Go.Ground.phase }, { on := 5, ground := Go.Ground.phase }, { on := 6, ground := Go.Ground.phase }, { on := 7, ground := Go.Ground.phase }, { on := 8, ground := Go.Ground.phase }, { on := 9, ground := Go.Ground.phase }, { on := 10, ground := Go.Ground.phase }, { on := 11, ground := Go.Ground.phase }, { on := 12, ground := Go.Ground.phase }, { on := 13, ground := Go.Ground.phase }, { on := 14, ground := Go.Ground.phase }, { on := 15, ground := Go.Ground.phase }, { on := 16, ground := Go.Ground.phase }, { on := 17, ground := Go.Ground.phase }], guard := none }) rfl (fun K hK => ?_) ?_
                                ·
                                  go_simp
                                  refine hK.out _ _ ?_ (fun hHeld => ?_)
                                  · try dsimp only
                                    first | with_reducible exact yD | with_reducible exact yA | with_reducible exact yB | with_reducible exact y9 | with_reducible exact y7
                                  clear hK K
                                  try simp only [Act.put, List.setIfInBounds_toArray, List.set_cons_zero, List.set_cons_succ]
                                  refine wpAnyH_done (by kernel_rfl) ?_ _
                                  refine NoPanic.normal ?_
                                  try go_wp2
                                  go_roundw
                                  all_goals first
                                    | exact ⟨i + 1, by go_num, by omega, by rw [HFN.out]; exact HR6.out⟩
                                    | (simp [intOf]; done)
                                    | (simp [intOf]; omega)
                                exact AllReadyH.nil
                              exact AllReadyH.nil
                            exact AllReadyH.nil
                          exact AllReadyH.nil
                        refine AllReadyH.cons (o := { dst := some 225, op := Go.Op.call { callee := Go.Callee.value (Go.Operand.func 73), args := #[Go.Operand.tmp 224], argTypes := #[3] }, type := 9, pos := "raw.go:164", after := #[{ on := 2, ground := Go.Ground.data }], guard := none }) rfl (fun K hK => ?_) ?_
                        ·
                          refine step_call_same rfl 73 (.tmp 224) 3 rfl (.int .i64 (i : Int)) _ rfl (itoa_enter _ _) (HIT.out _) ?_
                          refine hK.out _ _ ?_ (fun hHeld => ?_)
                          · try dsimp only
                            first | with_reducible exact yD | with_reducible exact yA | with_reducible exact yB | with_reducible exact y9 | with_reducible exact y7
                          clear hK K
                          try simp only [Act.put, List.setIfInBounds_toArray, List.set_cons_zero, List.set_cons_succ]
                          refine wpAnyH_take (i := 4) (oi := { dst := some 226, op := Go.Op.binOp Go.BinOp.add 9 (Go.Operand.const (Go.Value.string { data := #[102] })) (Go.Operand.tmp 225) 9, type := 9, pos := "raw.go:164", after := #[{ on := 3, ground := Go.Ground.data }], guard := none }) (v := ?_) rfl (by kernel_rfl) (by kernel_rfl) (by kernel_rfl) (fun _ _ _ h => h) (Or.inl ⟨by rfl, ?_⟩) (by assumption) ?_
                          rotate_left
                          · intro w0' hSw
                            try dsimp only at hSw
                            first | (go_simp; done) | (go_simp; with_reducible rfl)
                          try simp only [Act.put, List.setIfInBounds_toArray, List.set_cons_zero, List.set_cons_succ]
                          refine wpAnyH_take (i := 15) (oi := { dst := some 237, op := Go.Op.build 47 #[(0, Go.Operand.tmp 226), (1, Go.Operand.tmp 230), (2, Go.Operand.tmp 236)], type := 47, pos := "raw.go:164", after := #[{ on := 4, ground := Go.Ground.data }, { on := 8, ground := Go.Ground.data }, { on := 14, ground := Go.Ground.data }], guard := none }) (v := ?_) rfl (by kernel_rfl) (by kernel_rfl) (by kernel_rfl) (fun _ _ _ h => h) (Or.inl ⟨by rfl, ?_⟩) (by assumption) ?_
                          rotate_left
                          · intro w0' hSw
                            try dsimp only at hSw
                            first | (go_simp; done) | (go_simp; with_reducible rfl)
                          try simp only [Act.put, List.setIfInBounds_toArray, List.set_cons_zero, List.set_cons_succ]
                          refine wpAnyH_ready (rs := [1, 16]) (by kernel_rfl) (by simp) ?_
                          refine AllReadyH.cons (o := { dst := some 223, op := Go.Op.load 24 (Go.Operand.tmp 222), type := 24, pos := "raw.go:164", after := #[{ on := 0, ground := Go.Ground.data }], guard := none }) rfl (fun K hK => ?_) ?_
                          ·
                            go_simp
                            refine hK.out _ _ ?_ (fun hHeld => ?_)
                            · try dsimp only
                              first | with_reducible exact yD | with_reducible exact yA | with_reducible exact yB | with_reducible exact y9 | with_reducible exact y7
                            clear hK K
                            try simp only [Act.put, List.setIfInBounds_toArray, List.set_cons_zero, List.set_cons_succ]
                            refine wpAnyH_ready (rs := [16]) (by kernel_rfl) (by simp) ?_
                            refine AllReadyH.cons (o := { dst := some 238, op := Go.Op.buildSlice 24 1 #[(0, Go.Operand.tmp 237)], type := 24, pos := "raw.go:164", after := #[{ on := 15, ground := Go.Ground.data }], guard := none }) rfl (fun K hK => ?_) ?_
                            ·
                              go_simp
                              refine hK.out _ _ ?_ (fun hHeld => ?_)
                              · try dsimp only
                                first | with_reducible exact yD | with_reducible exact yA | with_reducible exact yB | with_reducible exact y9 | with_reducible exact y7
                              clear hK K
                              try simp only [Act.put, List.setIfInBounds_toArray, List.set_cons_zero, List.set_cons_succ]
                              refine wpAnyH_ready (rs := [17]) (by kernel_rfl) (by simp) ?_
                              refine AllReadyH.cons (o := { dst := some 239, op := Go.Op.call { callee := Go.Callee.builtin Go.Builtin.append, args := #[Go.Operand.tmp 223, Go.Operand.tmp 238], argTypes := #[24, 24] }, type := 24, pos := "raw.go:164", after := #[{ on := 1, ground := Go.Ground.data }, { on := 16, ground := Go.Ground.data }, { on := 3, ground := Go.Ground.chain }], guard := none }) rfl (fun K hK => ?_) ?_
                              ·
                                refine step_append_two rfl (.tmp 223) (.tmp 238) 24 24 rfl (.slice aF fns.length cFn) (.slice (some ⟨wr.heap.size, 0, none⟩) 1 1) rfl rfl HR1.out ?_
                                refine hK.out _ _ ?_ (fun hHeld => ?_)
                                · try dsimp only
                                  first | with_reducible exact yD | with_reducible exact yA | with_reducible exact yB | with_reducible exact y9 | with_reducible exact y7
                                clear hK K
                                try simp only [Act.put, List.setIfInBounds_toArray, List.set_cons_zero, List.set_cons_succ]
                                refine wpAnyH_take (i := 18) (oi := { dst := some 240, op := Go.Op.fieldAddr 29 (Go.Operand.tmp 5) 1, type := 0, pos := "raw.go:164", after := #[{ on := 0, ground := Go.Ground.phase }, { on := 1, ground := Go.Ground.phase }, { on := 2, ground := Go.Ground.phase }, { on := 3, ground := Go.Ground.phase }, { on := 4, ground := Go.Ground.phase }, { on := 5, ground := Go.Ground.phase }, { on := 6, ground := Go.Ground.phase }, { on := 7, ground := Go.Ground.phase }, { on := 8, ground := Go.Ground.phase }, { on := 9, ground := Go.Ground.phase }, { on := 10, ground := Go.Ground.phase }, { on := 11, ground := Go.Ground.phase }, { on := 12, ground := Go.Ground.phase }, { on := 13, ground := Go.Ground.phase }, { on := 14, ground := Go.Ground.phase }, { on := 15, ground := Go.Ground.phase }, { on := 16, ground := Go.Ground.phase }, { on := 17, ground := Go.Ground.phase }], guard := none }) (v := ?_) rfl (by kernel_rfl) (by kernel_rfl) (by kernel_rfl) (fun _ _ _ h => h) (Or.inl ⟨by rfl, ?_⟩) (by assumption) ?_
                                rotate_left
                                · intro w0' hSw
                                  try dsimp only at hSw
                                  first | (go_simp; done) | (go_simp; with_reducible rfl)
                                try simp only [Act.put, List.setIfInBounds_toArray, List.set_cons_zero, List.set_cons_succ]
                                refine wpAnyH_ready (rs := [19]) (by kernel_rfl) (by simp) ?_
                                refine AllReadyH.cons (o := { dst := none, op := Go.Op.store 24 (Go.Operand.tmp 240) (Go.Operand.tmp 239), type := 0, pos := "raw.go:164", after := #[{ on := 18, ground := Go.Ground.data }, { on := 17, ground := Go.Ground.data }, { on := 17, ground := Go.Ground.chain }, { on := 0, ground := Go.Ground.phase }, { on := 1, ground := Go.Ground.phase }, { on := 2, ground := Go.Ground.phase }, { on := 3, ground := Go.Ground.phase }, { on := 4, ground := Go.Ground.phase }, { on := 5, ground := Go.Ground.phase }, { on := 6, ground := Go.Ground.phase }, { on := 7, ground := Go.Ground.phase }, { on := 8, ground := Go.Ground.phase }, { on := 9, ground := Go.Ground.phase }, { on := 10, ground := Go.Ground.phase }, { on := 11, ground := Go.Ground.phase }, { on := 12, ground := Go.Ground.phase }, { on := 13, ground := Go.Ground.phase }, { on := 14, ground := Go.Ground.phase }, { on := 15, ground := Go.Ground.phase }, { on := 16, ground := Go.Ground.phase }, { on := 17, ground := Go.Ground.phase }], guard := none }) rfl (fun K hK => ?_) ?_
                                ·
                                  go_simp
                                  refine hK.out _ _ ?_ (fun hHeld => ?_)
                                  · try dsimp only
                                    first | with_reducible exact yD | with_reducible exact yA | with_reducible exact yB | with_reducible exact y9 | with_reducible exact y7
                                  clear hK K
                                  try simp only [Act.put, List.setIfInBounds_toArray, List.set_cons_zero, List.set_cons_succ]
                                  refine wpAnyH_done (by kernel_rfl) ?_ _
                                  refine NoPanic.normal ?_
                                  try go_wp2
                                  go_roundw
                                  all_goals first
                                    | exact ⟨i + 1, by go_num, by omega, by rw [HFN.out]; exact HR6.out⟩
                                    | (simp [intOf]; done)
                                    | (simp [intOf]; omega)
                                exact AllReadyH.nil
                              exact AllReadyH.nil
                            exact AllReadyH.nil
                          refine AllReadyH.cons (o := { dst := some 238, op := Go.Op.buildSlice 24 1 #[(0, Go.Operand.tmp 237)], type := 24, pos := "raw.go:164", after := #[{ on := 15, ground := Go.Ground.data }], guard := none }) rfl (fun K hK => ?_) ?_
                          ·
                            go_simp
                            refine hK.out _ _ ?_ (fun hHeld => ?_)
                            · try dsimp only
                              first | with_reducible exact yD | with_reducible exact yA | with_reducible exact yB | with_reducible exact y9 | with_reducible exact y7
                            clear hK K
                            try simp only [Act.put, List.setIfInBounds_toArray, List.set_cons_zero, List.set_cons_succ]
                            refine wpAnyH_ready (rs := [1]) (by kernel_rfl) (by simp) ?_
                            refine AllReadyH.cons (o := { dst := some 223, op := Go.Op.load 24 (Go.Operand.tmp 222), type := 24, pos := "raw.go:164", after := #[{ on := 0, ground := Go.Ground.data }], guard := none }) rfl (fun K hK => ?_) ?_
                            ·
                              go_simp
                              refine hK.out _ _ ?_ (fun hHeld => ?_)
                              · try dsimp only
                                first | with_reducible exact yD | with_reducible exact yA | with_reducible exact yB | with_reducible exact y9 | with_reducible exact y7
                              clear hK K
                              try simp only [Act.put, List.setIfInBounds_toArray, List.set_cons_zero, List.set_cons_succ]
                              refine wpAnyH_ready (rs := [17]) (by kernel_rfl) (by simp) ?_
                              refine AllReadyH.cons (o := { dst := some 239, op := Go.Op.call { callee := Go.Callee.builtin Go.Builtin.append, args := #[Go.Operand.tmp 223, Go.Operand.tmp 238], argTypes := #[24, 24] }, type := 24, pos := "raw.go:164", after := #[{ on := 1, ground := Go.Ground.data }, { on := 16, ground := Go.Ground.data }, { on := 3, ground := Go.Ground.chain }], guard := none }) rfl (fun K hK => ?_) ?_
                              ·
                                refine step_append_two rfl (.tmp 223) (.tmp 238) 24 24 rfl (.slice aF fns.length cFn) (.slice (some ⟨wr.heap.size, 0, none⟩) 1 1) rfl rfl HR1.out ?_
                                refine hK.out _ _ ?_ (fun hHeld => ?_)
                                · try dsimp only
                                  first | with_reducible exact yD | with_reducible exact yA | with_reducible exact yB | with_reducible exact y9 | with_reducible exact y7
                                clear hK K
                                try simp only [Act.put, List.setIfInBounds_toArray, List.set_cons_zero, List.set_cons_succ]
                                refine wpAnyH_take (i := 18) (oi := { dst := some 240, op := Go.Op.fieldAddr 29 (Go.Operand.tmp 5) 1, type := 0, pos := "raw.go:164", after := #[{ on := 0, ground := Go.Ground.phase }, { on := 1, ground := Go.Ground.phase }, { on := 2, ground := Go.Ground.phase }, { on := 3, ground := Go.Ground.phase }, { on := 4, ground := Go.Ground.phase }, { on := 5, ground := Go.Ground.phase }, { on := 6, ground := Go.Ground.phase }, { on := 7, ground := Go.Ground.phase }, { on := 8, ground := Go.Ground.phase }, { on := 9, ground := Go.Ground.phase }, { on := 10, ground := Go.Ground.phase }, { on := 11, ground := Go.Ground.phase }, { on := 12, ground := Go.Ground.phase }, { on := 13, ground := Go.Ground.phase }, { on := 14, ground := Go.Ground.phase }, { on := 15, ground := Go.Ground.phase }, { on := 16, ground := Go.Ground.phase }, { on := 17, ground := Go.Ground.phase }], guard := none }) (v := ?_) rfl (by kernel_rfl) (by kernel_rfl) (by kernel_rfl) (fun _ _ _ h => h) (Or.inl ⟨by rfl, ?_⟩) (by assumption) ?_
                                rotate_left
                                · intro w0' hSw
                                  try dsimp only at hSw
                                  first | (go_simp; done) | (go_simp; with_reducible rfl)
                                try simp only [Act.put, List.setIfInBounds_toArray, List.set_cons_zero, List.set_cons_succ]
                                refine wpAnyH_ready (rs := [19]) (by kernel_rfl) (by simp) ?_
                                refine AllReadyH.cons (o := { dst := none, op := Go.Op.store 24 (Go.Operand.tmp 240) (Go.Operand.tmp 239), type := 0, pos := "raw.go:164", after := #[{ on := 18, ground := Go.Ground.data }, { on := 17, ground := Go.Ground.data }, { on := 17, ground := Go.Ground.chain }, { on := 0, ground := Go.Ground.phase }, { on := 1, ground := Go.Ground.phase }, { on := 2, ground := Go.Ground.phase }, { on := 3, ground := Go.Ground.phase }, { on := 4, ground := Go.Ground.phase }, { on := 5, ground := Go.Ground.phase }, { on := 6, ground := Go.Ground.phase }, { on := 7, ground := Go.Ground.phase }, { on := 8, ground := Go.Ground.phase }, { on := 9, ground := Go.Ground.phase }, { on := 10, ground := Go.Ground.phase }, { on := 11, ground := Go.Ground.phase }, { on := 12, ground := Go.Ground.phase }, { on := 13, ground := Go.Ground.phase }, { on := 14, ground := Go.Ground.phase }, { on := 15, ground := Go.Ground.phase }, { on := 16, ground := Go.Ground.phase }, { on := 17, ground := Go.Ground.phase }], guard := none }) rfl (fun K hK => ?_) ?_
                                ·
                                  go_simp
                                  refine hK.out _ _ ?_ (fun hHeld => ?_)
                                  · try dsimp only
                                    first | with_reducible exact yD | with_reducible exact yA | with_reducible exact yB | with_reducible exact y9 | with_reducible exact y7
                                  clear hK K
                                  try simp only [Act.put, List.setIfInBounds_toArray, List.set_cons_zero, List.set_cons_succ]
                                  refine wpAnyH_done (by kernel_rfl) ?_ _
                                  refine NoPanic.normal ?_
                                  try go_wp2
                                  go_roundw
                                  all_goals first
                                    | exact ⟨i + 1, by go_num, by omega, by rw [HFN.out]; exact HR6.out⟩
                                    | (simp [intOf]; done)
                                    | (simp [intOf]; omega)
                                exact AllReadyH.nil
                              exact AllReadyH.nil
                            exact AllReadyH.nil
                          exact AllReadyH.nil
                        exact AllReadyH.nil
                  ·
                    as_aux_lemma =>
                      obtain rfl : i = fs.length := by omega
                      have hfl : (fnsOf ats fs (szAll cs)).length = fs.length := by unfold fnsOf; rw [List.length_map, List.length_range]
                      have htk : (fnsOf ats fs (szAll cs)).take fs.length = fnsOf ats fs (szAll cs) := by rw [← hfl, List.take_length]
                      rw [htk] at HTl
                      have hdl := HD3.out
                      have hbd : Hid (∀ b ∈ ds, b.length ≤ 1000) := HD2.out.short hcb.out
                      clear hfl htk
                      go_wp2_with fail
                      go_loopw [242] (fun tv w7 => ∃ t : Nat, tv = .int .i64 (t : Int) ∧ t ≤ 3 ∧ Hid (TlR w wo B gp (.slice aB cs.length cB) vF (.slice (some ⟨gA, 0, none⟩) cs.length cT) vT vL vs fs ats w7 ds em (fnsOf ats fs (szAll cs)) ((tabsOf ats fs ds L).take t))) (fun tv _ => (3 - intOf tv).toNat)
                      case atStart => exact ⟨0, rfl, by omega, by rw [List.take_zero]; exact HTl.out⟩
                      case round =>
                        clear q1 HOF HOA2 HTl
                        obtain ⟨t, rfl, t1, hTl⟩ := hrel
                        have HTl := hid hTl.out
                        clear hTl
                        by_cases ht : t < 3
                        · obtain ⟨o1, o2⟩ := owner_bd ds fs (t : Int)
                          have HOW := hid (owner_any wr B gp (.slice aB cs.length cB) vF vs ds fs (t : Int) HTl.out.2.2.2.1 HGD.out.fit hbd.out)
                          have HTB : Hid (tabOf ats fs ds L t = if 0 ≤ ownerOf ds fs (t : Int) then (List.range 3).map (tabAt ats fs ds L t) else []) := rfl
                          have HTC := hid (fun i (ho : 0 ≤ ownerOf ds fs (t : Int)) => PlGood.tab (HF.out.lng HL.out) HD3.out.symm HGD.out.fit L t i ho)
                          have htt : (t : Int) < 3 := by omega
                          obtain ⟨O, hO⟩ : ∃ O, ownerOf ds fs (t : Int) = O := ⟨_, rfl⟩
                          have HOO := hid hO
                          rw [hO] at o1 o2 HOW HTB
                          clear hO
                          go_wp2_with fail
                          refine Calls.mono HOW.out ?_
                          rintro e w8 ⟨rfl, nq, rfl⟩
                          have HT8 := hid (TlR.up (W1 := wr.drewN nq) HTl.out ⟨rfl, rfl, rfl, Nat.le_refl _, fun _ _ => rfl⟩)
                          obtain ⟨w9, hw9⟩ : ∃ w9, w9 = wr.drewN nq := ⟨_, rfl⟩
                          rw [← hw9] at HT8
                          rw [← hw9]
                          clear hw9
                          go_upto_if 249 with fail
                          go_cut [242, 29] from 242 to 320 (fun tv lv wx => tv = .int .i64 (t : Int) ∧ (∃ a c, lv = .slice a (tabOf ats fs ds L t).length c) ∧ Hid (wx.ownsRow wo.heap.size 3 1 lv (tabOf ats fs ds L t).length (flat icell (tabOf ats fs ds L t))) ∧ Hid (TlR w wo B gp (.slice aB cs.length cB) vF (.slice (some ⟨gA, 0, none⟩) cs.length cT) vT vL vs fs ats wx ds em (fnsOf ats fs (szAll cs)) ((tabsOf ats fs ds L).take t)))
                          case first =>
                            by_cases ho : 0 ≤ O
                            ·
                              as_aux_lemma =>
                                obtain ⟨o, rfl⟩ := Int.eq_ofNat_of_zero_le ho
                                have ho3 : o < fs.length := by omega
                                obtain ⟨n, m9, e1, e2, e3, e4⟩ := HGD.out.fit.seg o ho3
                                have HTi : Hid (∀ i : Nat, ∃ k : Nat, k < cs.length ∧ (n : Int) + pk (rawAt L (t + i)).A ((m9 : Int) - n) = (k : Int) ∧ tabAt ats fs ds L t i = ats.getD k 0) := fun i => by
                                  obtain ⟨k, k1, k2, _, _⟩ := HTC.out i (by rw [HOO.out]; omega)
                                  have hf : fs.getD o 0 = (n : Int) := by rw [List.getD_eq_getElem?_getD, e1]; rfl
                                  rw [HOO.out, Int.toNat_natCast, hf, e2] at k2
                                  refine ⟨k, k1, k2, ?_⟩
                                  unfold tabAt
                                  rw [HOO.out, Int.toNat_natCast, hf, e2, k2, Int.toNat_natCast]
                                have HTF : Hid (tabOf ats fs ds L t = (List.range 3).map (tabAt ats fs ds L t)) := by show _ = _; rw [HTB.out, if_pos (by omega)]
                                have hwoz : wo.heap.size ≤ w9.heap.size := HT8.out.2.2.2.2.2.2.2.2.2
                                have HE1 := hid e1
                                have HE2 := hid e2
                                have hmc : m9 ≤ cs.length := by have := HD3.out; omega
                                clear e1 e2 e4
                                go_wp2_with fail
                                go_loopw [29, 31] (fun lv iv wx => ∃ i : Nat, iv = .int .i64 (i : Int) ∧ i ≤ 3 ∧ (∃ a c, lv = .slice a i c) ∧ Hid (wx.ownsRow w9.heap.size 3 1 lv ((List.range i).map (tabAt ats fs ds L t)).length (flat icell ((List.range i).map (tabAt ats fs ds L t)))) ∧ Hid (Below w9.heap.size w9 wx)) (fun _ iv _ => (3 - intOf iv).toNat)
                                case atStart => exact ⟨0, rfl, by omega, ⟨none, 0, rfl⟩, World.ownsRow_nil _ _ _ _, Below.refl _ _⟩
                                case round =>
                                  obtain ⟨i, rfl, i1, ⟨aT2, cT2, rfl⟩, hrow, hbel⟩ := hrel
                                  by_cases hi : i < 3
                                  ·
                                    as_aux_lemma =>
                                      have HTi2 := hid (TlR.up HT8.out hbel.out)
                                      have hP6 := HTi2.out.2.2.2.1
                                      have q0 : wr.cell? ⟨gp, 0, none⟩ = some (.slice aB cs.length cB) := hP6.cells.1
                                      have q1 : wr.cell? ⟨gp, 1, none⟩ = some (.slice (some ⟨gF, 0, none⟩) fs.length cF) := by rw [← HVF.out]; exact hP6.cells.2.1
                                      have HOF : Hid (wr.ownsRow B 3 1 (.slice (some ⟨gF, 0, none⟩) fs.length cF) fs.length (flat icell fs)) := by have h := hP6.oF; rw [HVF.out] at h; exact h
                                      have HOA2 : Hid (wr.ownsRow wo.heap.size 3 1 (.slice (some ⟨gA, 0, none⟩) cs.length cT) cs.length (flat icell ats)) := by have h := HTi2.out.2.2.2.2.1; rw [HAL.out] at h; exact h
                                      have y0 : wr.cell? ⟨gF, o, none⟩ = some (.int .i64 (n : Int)) := own_cells HOF.out o _ (by rw [show (icell : Int → List Value) = fun x => [Value.int .i64 x] from rfl, flat_pt, HE1.out]; rfl)
                                      have hoo : (o : Int) < (fs.length : Int) := by omega
                                      have hii : (i : Int) < 3 := by omega
                                      have hzr : w9.heap.size ≤ wr.heap.size := hbel.out.size
                                      have hgA := own_lt HOA2.out
                                      have hgF := own_lt HOF.out
                                      have hgp9 := hP6.lt
                                      clear hP6
                                      go_upto_if 266 with fail
                                      go_cut [32] from 250 to 313 (fun ev wx => ev = .int .i64 (m9 : Int) ∧ wx = wr)
                                      case first =>
                                        by_cases hj : o + 1 < fs.length
                                        · have e5 : fs[o + 1]? = some (m9 : Int) := by
                                            have e2 := HE2.out
                                            unfold lastOf at e2
                                            rw [List.getElem?_eq_getElem hj] at e2 ⊢
                                            simp at e2
                                            rw [e2]
                                          have z0 : wr.cell? ⟨gF, o + 1, none⟩ = some (.int .i64 (m9 : Int)) := own_cells HOF.out (o + 1) _ (by rw [show (icell : Int → List Value) = fun x => [Value.int .i64 x] from rfl, flat_pt, e5]; rfl)
                                          have hjj : (o : Int) + 1 < (fs.length : Int) := by omega
                                          have hjn : ((o + 1 : Nat) : Int) < (fs.length : Int) := by omega
                                          clear e5
                                          go_wp2_with fail
                                          go_meet
                                          exact ⟨rfl, rfl⟩
                                        · have HE6 : Hid ((cs.length : Int) = (m9 : Int)) := by
                                            have e2 := HE2.out
                                            unfold lastOf at e2
                                            rw [List.getElem?_eq_none (by omega), HD3.out] at e2
                                            exact e2
                                          have hjj : ¬ (o : Int) + 1 < (fs.length : Int) := by omega
                                          go_wp2_with fail
                                          go_meet
                                          exact ⟨by rw [HE6.out], rfl⟩
                                      case rest =>
                                        obtain ⟨rfl, hwc⟩ := hcut
                                        rw [hwc]
                                        clear hwc
                                        go_upto_if 278 with fail
                                        go_cut [32] from 250 to 313 (fun ev wx => ev = .int .i64 (m9 : Int) ∧ Hid (Below wr.heap.size wr wx) ∧ ∃ K B2 C, Hid (wx.heap[wr.heap.size]? = some (.cells #[.int .i64 K, .int .i64 (rawAt L (t + i)).A, .int .i64 B2, .int .i64 C] 116)))
                                        case first =>
                                          by_cases hL0 : L.length = 0
                                          · have HR0 : Hid (rawAt L (t + i) = rwZ) := if_pos (List.length_eq_zero_iff.1 hL0)
                                            have hl0 : (L.length : Int) = 0 := by omega
                                            clear hL0
                                            go_wp2_with fail
                                            go_meet
                                            exact ⟨rfl, (Below.refl _ _).alloc (Nat.le_refl _) _, 0, 0, 0, by rw [HR0.out]; exact heap_alloc_new wr _⟩
                                          · obtain ⟨bb, oo, cp, hv, c1, c2, c3, c4⟩ := HR.out.2.resolve_left (by rintro ⟨_, _, _, h⟩; rw [h] at hL0; exact hL0 rfl)
                                            obtain ⟨rfl, rfl⟩ : au = some ⟨bb, oo, none⟩ ∧ cu = cp := by simpa using hv
                                            have hx9 : (t + i) % L.length < L.length := Nat.mod_lt _ (by omega)
                                            obtain ⟨x9, hx0⟩ : ∃ x9, (t + i) % L.length = x9 := ⟨_, rfl⟩
                                            rw [hx0] at hx9
                                            obtain ⟨r9, hr9⟩ : ∃ r9, L[x9]? = some r9 := ⟨_, List.getElem?_eq_getElem hx9⟩
                                            have HR0 : Hid (rawAt L (t + i) = r9) := by
                                              show _ = _
                                              unfold rawAt
                                              rw [if_neg (fun h => hL0 (by rw [h]; rfl)), hx0, List.getD_eq_getElem?_getD, hr9]
                                              rfl
                                            obtain ⟨d0, d1, d2, d3⟩ := c4 x9 r9 hr9
                                            have hbw : Below w0.heap.size w0 wr := (HB0.out.trans (HT8.out.2.2.2.2.2.2.2.1.mono (by omega))).trans (hbel.out.mono (by have := HB0.out.size; have := HT8.out.2.2.2.2.2.2.2.1.size; omega))
                                            have d0 := (hbw.cell (p := ⟨bb, _, none⟩) c3).trans d0
                                            have d1 := (hbw.cell (p := ⟨bb, _, none⟩) c3).trans d1
                                            have d2 := (hbw.cell (p := ⟨bb, _, none⟩) c3).trans d2
                                            have d3 := (hbw.cell (p := ⟨bb, _, none⟩) c3).trans d3
                                            have hl0 : (0 : Int) < (L.length : Int) := by omega
                                            have hlz : ((L.length : Int) == 0) = false := by simp only [beq_eq_false_iff_ne]; omega
                                            have hm1 : ((t : Int) + (i : Int)).tmod (L.length : Int) = (x9 : Int) := by rw [Int.tmod_eq_emod_of_nonneg (by omega), ← hx0, Int.natCast_emod, Int.natCast_add]
                                            have hm2 : ((t : Int) + (i : Int)) % (L.length : Int) = (x9 : Int) := by rw [← hx0, Int.natCast_emod, Int.natCast_add]
                                            have hx9' : (x9 : Int) < (L.length : Int) := by omega
                                            have hbb : bb < wr.heap.size := by have := hbw.size; omega
                                            clear c4 hr9 hx0 hv hL0 hbw
                                            go_wp2_with fail
                                            go_meet
                                            exact ⟨rfl, (Below.refl _ _).alloc (Nat.le_refl _) _, _, _, _, by rw [HR0.out]; exact heap_alloc_new wr _⟩
                                        case rest =>
                                          obtain ⟨rfl, hb9, K9, B9, C9, HBX⟩ := hcut
                                          as_aux_lemma =>
                                            have zA : wc.cell? ⟨wr.heap.size, 1, none⟩ = some (.int .i64 (rawAt L (t + i)).A) := by simp [World.cell?, HBX.out]
                                            have zP := (hb9.out.cell (p := ⟨gp, 1, none⟩) hgp9).trans q1
                                            have zF := (hb9.out.cell (p := ⟨gF, o, none⟩) hgF).trans y0
                                            obtain ⟨k9, k1, k2, k3⟩ := HTi.out i
                                            have zV : wc.cell? ⟨gA, k9, none⟩ = some (.int .i64 (ats.getD k9 0)) := (hb9.out.cell (p := ⟨gA, k9, none⟩) hgA).trans (own_cells HOA2.out k9 _ (by rw [show (icell : Int → List Value) = fun x => [Value.int .i64 x] from rfl, flat_pt, List.getElem?_eq_getElem (by have := HAL.out; omega), List.getD_eq_getElem?_getD, List.getElem?_eq_getElem (by have := HAL.out; omega)]; rfl))
                                            obtain ⟨ra1, ra2⟩ := raw_bd HR.out.1 (t + i)
                                            obtain ⟨pa1, pa2⟩ := pk_bd (rawAt L (t + i)).A ((m9 : Int) - n) (by omega)
                                            have hD9 : IntKind.i64.wrap ((m9 : Int) - n) = (m9 : Int) - n := by rw [IntKind.wrap_i64]; omega
                                            have HPK : Hid (∀ W, Calls Tryd.prog 19 #[.int .i64 (rawAt L (t + i)).A, .int .i64 (IntKind.i64.wrap ((m9 : Int) - n))] W fun e w' => e = .returned (.int .i64 (pk (rawAt L (t + i)).A ((m9 : Int) - n))) ∧ w' = W) := fun W => by
                                              rw [hD9]
                                              exact picked_any _ _ W (by omega) ra1 ra2
                                            have HK3 : Hid (tabAt ats fs ds L t i = ats.getD k9 0) := k3
                                            generalize (rawAt L (t + i)).A = A9 at *
                                            generalize pk A9 ((m9 : Int) - n) = P9 at *
                                            obtain ⟨V9, hV9⟩ : ∃ V9, ats.getD k9 0 = V9 := ⟨_, rfl⟩
                                            rw [hV9] at zV HK3
                                            have hW9 : IntKind.i64.wrap ((n : Int) + P9) = (k9 : Int) := by rw [IntKind.wrap_i64]; omega
                                            have hk9 : (k9 : Int) < (cs.length : Int) := by omega
                                            have hil : ((List.range i).map (tabAt ats fs ds L t)).length = i := by rw [List.length_map, List.length_range]
                                            have gz1 : gp < w9.heap.size := HT8.out.2.2.2.1.lt
                                            have gz2 : gF < w9.heap.size := by have h := HT8.out.2.2.2.1.oF; rw [HVF.out] at h; exact own_lt h
                                            have gz3 : gA < w9.heap.size := by have h := HT8.out.2.2.2.2.1; exact own_lt (cap := cT) (n := cs.length) (by rw [HAL.out] at h; exact h)
                                            have hrow2 := row_up hrow.out hb9.out
                                            have hzc : wr.heap.size ≤ wc.heap.size := hb9.out.size
                                            have hbl9 : Below w9.heap.size w9 wc := hbel.out.trans (hb9.out.mono hzr)
                                            obtain ⟨a3, c3, W3, r1, r2, r3, yD, yA, y9⟩ := tab_reg hrow2 (by omega) (by rw [hil]; omega) V9 zP zF zV HBX.out gz1 gz2 gz3
                                            rw [hil] at r1
                                            have hRS : (List.range (i + 1)).map (tabAt ats fs ds L t) = (List.range i).map (tabAt ats fs ds L t) ++ [V9] := by rw [List.range_succ, List.map_append, List.map_cons, List.map_nil, HK3.out]
                                            rw [← hRS] at r2
                                            conv at r2 => arg 5; rw [hil]
                                            have HR1 := hid r1
                                            have HR2 := hid r2
                                            have HR3 := hid (hbl9.trans r3)
                                            clear r1 r2 r3 hRS hil hrow2 hbl9 k2 k3 hV9 hD9
                                            go_upto_region 70 with fail
                                            go_region_held3 (fun w' => w'.cell? ⟨gp, 1, none⟩ = some (.slice (some ⟨gF, 0, none⟩) fs.length cF) ∧ w'.cell? ⟨gF, o, none⟩ = some (.int .i64 (n : Int)) ∧ w'.cell? ⟨wr.heap.size, 1, none⟩ = some (.int .i64 A9) ∧ w'.cell? ⟨gA, k9, none⟩ = some (.int .i64 V9)) (first | with_reducible exact yD | with_reducible exact yA | with_reducible exact y9) (first
                                              | refine step_call_same2 rfl 19 (.tmp 298) (.tmp 307) 3 3 rfl (.int .i64 A9) (.int .i64 (IntKind.i64.wrap ((m9 : Int) - n))) _ rfl rfl (picked_enter _ _ _) (HPK.out _) ?_
                                              | refine step_append_two rfl (.tmp 288) (.tmp 312) 26 26 rfl (.slice aT2 i cT2) (.slice (some ⟨wc.heap.size, 0, none⟩) 1 1) rfl rfl HR1.out ?_)
                                            all_goals (try go_wp2)
                                            all_goals go_roundw
                                            all_goals first
                                              | (simp [intOf]; done)
                                              | (simp [intOf]; omega)
                                              | ((repeat apply Exists.intro); exact ⟨⟨i + 1, by go_num, by omega, ⟨_, _, rfl⟩, HR2.out, HR3.out⟩, rfl⟩)
                                  · obtain rfl : i = 3 := by omega
                                    go_wp2_with fail
                                    go_meet
                                    exact ⟨rfl, ⟨aT2, cT2, by rw [HTF.out, List.length_map, List.length_range]⟩, by rw [HTF.out]; exact row_weak hrow.out hwoz, TlR.up HT8.out hbel.out⟩
                            · have HNo : Hid (tabOf ats fs ds L t = []) := by show _ = _; rw [HTB.out, if_neg ho]
                              go_wp2_with fail
                              go_meet
                              exact ⟨rfl, by rw [HNo.out]; exact ⟨none, 0, rfl⟩, by rw [HNo.out]; exact World.ownsRow_nil _ _ _ _, HT8.out⟩
                          case rest =>
                            obtain ⟨rfl, ⟨a9, c9, rfl⟩, hrow, HT9⟩ := hcut
                            have HRW := hid hrow.out
                            have HTS : Hid ((tabsOf ats fs ds L).take (t + 1) = (tabsOf ats fs ds L).take t ++ [tabOf ats fs ds L t]) := by
                              show _ = _
                              have e : (tabsOf ats fs ds L)[t]? = some (tabOf ats fs ds L t) := by unfold tabsOf; rw [List.getElem?_map, List.getElem?_range ht]; rfl
                              rw [List.take_add_one, e]; rfl
                            have htl : ((tabsOf ats fs ds L).take t).length = t := by rw [List.length_take]; unfold tabsOf; rw [List.length_map, List.length_range]; omega
                            generalize tabOf ats fs ds L t = T9 at *
                            generalize (tabsOf ats fs ds L).take t = TS at *
                            have hgt : w.heap.size + 2 < wc.heap.size := by
                              obtain ⟨⟨_, _, hq, -⟩, -⟩ := HT9.out
                              exact (Array.getElem?_eq_some_iff.1 hq).1
                            obtain ⟨aU, cU, cX, aX, WX, r0, r1, r2, ⟨uX, r3⟩, r4, r6⟩ := TlR.table (W1 := wc.alloc (.cells #[.slice a9 T9.length c9] 26)) HT9.out (by omega) hBw HG2.out ((Below.refl _ _).alloc (Nat.le_refl _) _) wc.heap.size (.slice a9 T9.length c9) T9 (by rw [World.cell?_alloc_new]; rfl) (row_up HRW.out ((Below.refl _ _).alloc (Nat.le_refl _) _))
                            have HR1 := hid r1
                            have HR6 := hid r6
                            clear r1 r6 hrow htl
                            go_wp2_with (first | (at_builtin; refine wpList_append_pair _ rfl (.tmp 315) (.tmp 317) 25 25 rfl _ _ rfl rfl HR1.out ?_))
                            go_roundw
                            case rel => exact ⟨t + 1, by go_num, by omega, by rw [HTS.out]; exact HR6.out⟩
                            case measure => first | (simp [intOf]; done) | (simp [intOf]; omega)
                        · obtain rfl : t = 3 := by omega
                          have htk : (tabsOf ats fs ds L).take 3 = tabsOf ats fs ds L := List.take_of_length_le (by unfold tabsOf; rw [List.length_map, List.length_range]; omega)
                          rw [htk] at HTl
                          clear htk
                          go_wp2_with fail
                          cases hag : em.again with
                          | true =>
                            have HRL : Hid (nShort ds < nShort cs) := by
                              show _ < _
                              rw [← HD1.out]
                              exact round_less ats fs cs (by rw [HEM.out]; exact hag)
                            go_roundw
                            case rel =>
                              refine ⟨ds, ?_⟩
                              obtain ⟨⟨y1, y2, k1, -⟩, -, -, k4, -, k6, k7, k8, k9, -⟩ := HTl.out
                              exact ⟨k4, HL.out.trans HD2.out, ⟨_, _, _, _, k1, Or.inl rfl⟩, k6, k7, k8, k9⟩
                            case measure =>
                              obtain ⟨⟨y1, y2, k1, -⟩, -, -, k4, -, k6, k7, k8, k9, -⟩ := HTl.out
                              have hle := HMU1.out (.bool true) _ ds ⟨k4, HL.out.trans HD2.out, ⟨_, _, _, _, k1, Or.inl rfl⟩, k6, k7, k8, k9⟩
                              have := HRL.out
                              have := HM.out
                              omega
                          | false =>
                            have hdc : ds = cs := by rw [← HD1.out]; exact mark_id (by rw [HEM.out]; exact hag)
                            subst hdc
                            go_roundw
                            case rel =>
                              refine ⟨ds, ?_⟩
                              obtain ⟨⟨y1, y2, k1, k2, us, k3, k31, k32⟩, kT, kL, k4, -, k6, k7, k8, k9, kz⟩ := HTl.out
                              have hwB : B ≤ wo.heap.size := by omega
                              refine ⟨k4, HL.out, ⟨_, _, _, _, k1, Or.inr ⟨rfl, by rw [HATS.out, HEM.out]; exact hag, ?_⟩⟩, k6, k7, k8, k9⟩
                              have hIm : imgOf ds ds fs L = ⟨em.text, fnsOf ats fs (szAll ds), tabsOf ats fs ds L, data6, em.lines, 0⟩ := by unfold imgOf; rw [HATS.out, HEM.out]
                              rw [hIm]
                              exact ⟨row_weak kT hwB, row_weak k2 hwB, ⟨us, row_weak k3 hwB, k31, fun j u t a b => row_weak (k32 j u t a b) hwB⟩, data_row k6 (by omega), row_weak kL hwB⟩
                            case measure =>
                              rw [HMU3.out]
                              have := HM.out
                              omega
    ·
      as_aux_lemma =>
        obtain ⟨hP, hL, ⟨v0, v1, v2, v4, hI, hav⟩, hD, hG, hB, hT⟩ := hA.out
        obtain ⟨hag, hO⟩ : (emUpTo (startsOf cs) fs cs.flatten).again = false ∧ OwnImg wr B v0 v1 v2 (.slice (some ⟨w.heap.size + 1, 0, none⟩) 6 6) v4 (imgOf cs cs fs L) := by
          rcases hav with h | ⟨_, h1, h2⟩
          · cases h
          · exact ⟨h1, h2⟩
        have hzr : w.heap.size + 2 < wr.heap.size := (Array.getElem?_eq_some_iff.1 hI).1
        obtain ⟨Z, hZ⟩ : ∃ Z, ((((((wr.setCell ⟨w.heap.size, 0, none⟩ v0).setCell ⟨w.heap.size, 1, none⟩ v1).setCell ⟨w.heap.size, 2, none⟩ v2).setCell ⟨w.heap.size, 3, none⟩ (.slice (some ⟨w.heap.size + 1, 0, none⟩) 6 6)).setCell ⟨w.heap.size, 4, none⟩ v4).setCell ⟨w.heap.size, 5, none⟩ (.int .i64 0)) = Z := ⟨_, rfl⟩
        have hz6 : Z.heap[w.heap.size]? = some (.cells #[v0, v1, v2, .slice (some ⟨w.heap.size + 1, 0, none⟩) 6 6, v4, .int .i64 0] 29) := by rw [← hZ]; exact chain6 hG _ _ _ _ _ _
        have hZO : ∀ k, k ≠ w.heap.size → Z.heap[k]? = wr.heap[k]? := fun k hk => by rw [← hZ]; exact chain6_other _ _ _ hk _ _ _ _ _ _
        have hbz : Below w.heap.size wr Z := by rw [← hZ]; exact chain6_below (Below.refl _ _) (Nat.le_refl _) _ _ _ _ _ _
        have s0 : Z.cell? ⟨w.heap.size, 0, none⟩ = some v0 := by simp [World.cell?, hz6]
        have s1 : Z.cell? ⟨w.heap.size, 1, none⟩ = some v1 := by simp [World.cell?, hz6]
        have s2 : Z.cell? ⟨w.heap.size, 2, none⟩ = some v2 := by simp [World.cell?, hz6]
        have s3 : Z.cell? ⟨w.heap.size, 3, none⟩ = some (.slice (some ⟨w.heap.size + 1, 0, none⟩) 6 6) := by simp [World.cell?, hz6]
        have s4 : Z.cell? ⟨w.heap.size, 4, none⟩ = some v4 := by simp [World.cell?, hz6]
        have s5 : Z.cell? ⟨w.heap.size, 5, none⟩ = some (.int .i64 0) := by simp [World.cell?, hz6]
        have z0 : wr.cell? ⟨w.heap.size + 2, 0, none⟩ = some v0 := by simp [World.cell?, hI]
        have z1 : wr.cell? ⟨w.heap.size + 2, 1, none⟩ = some v1 := by simp [World.cell?, hI]
        have z2 : wr.cell? ⟨w.heap.size + 2, 2, none⟩ = some v2 := by simp [World.cell?, hI]
        have z3 : wr.cell? ⟨w.heap.size + 2, 3, none⟩ = some (.slice (some ⟨w.heap.size + 1, 0, none⟩) 6 6) := by simp [World.cell?, hI]
        have z4 : wr.cell? ⟨w.heap.size + 2, 4, none⟩ = some v4 := by simp [World.cell?, hI]
        have z5 : wr.cell? ⟨w.heap.size + 2, 5, none⟩ = some (.int .i64 0) := by simp [World.cell?, hI]
        have o0 : v0.oneCell' = true := by obtain ⟨_, _, _, rfl⟩ := row_form hO.text; rfl
        have o1 : v1.oneCell' = true := by obtain ⟨_, _, _, rfl⟩ := row_form hO.funcs; rfl
        have o2 : v2.oneCell' = true := by obtain ⟨us, h, _⟩ := hO.tables; obtain ⟨_, _, _, rfl⟩ := row_form h; rfl
        have o4 : v4.oneCell' = true := by obtain ⟨_, _, _, rfl⟩ := row_form hO.lines; rfl
        have HO := hid (OwnImg.same hO (W' := Z) (img_rows hO hG fun k hk => hZO k hk))
        have HAG := hid hag
        have HL9 := hid hL
        have HB9 : Hid (Below B w Z) := hB.trans (hbz.mono hBw)
        have HRS := hid hG
        have HZ := hid hZ
        clear hA hP hL hI hav hD hG hB hT hag hO hZ hz6 hZO hbz
        go_wp2_with (first | (with_reducible refine @id (wpList _ _ _ (Oper.mk _ (Op.store _ _ _) _ _ _ _ :: _) _ _) ?_; refine wpList_store6 rfl (.tmp 4) (.tmp 321) rfl w.heap.size rfl rfl HRS.out o0 o1 o2 rfl o4 rfl HZ.out ?_))
        refine bodyPost_ret (v := .agg #[v0, v1, v2, .slice (some ⟨w.heap.size + 1, 0, none⟩) 6 6, v4, .int .i64 0]) (by simp [results, Tryd.results39, go_sem, s0, s1, s2, s3, s4, s5]) rfl ?_
        exact ⟨_, _, _, _, rfl, o0, o1, o2, o4, HB9.out, _, HL9.out, HAG.out, HO.out⟩
end Go.Proofs.YtechpdfcgimkkaaDoor
