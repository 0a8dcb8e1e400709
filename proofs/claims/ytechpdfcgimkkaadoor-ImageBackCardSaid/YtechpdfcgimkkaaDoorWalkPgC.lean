/-
  boltholekeep.Program: a plan of raw things, put together.
-/
import Derived.Test.YtechpdfcgimkkaaDoorPgMoreC
import Derived.Test.YtechpdfcgimkkaaDoorMCC
import Derived.BigQuiet
import Derived.Deep.RegionHeld3
import Derived.Deep.QuietTactic
namespace Go.Proofs.YtechpdfcgimkkaaDoor
open Go.RowKit Go.Joins Isa
set_option maxRecDepth 100000 in
set_option maxHeartbeats 8000000 in
theorem program_any (v : Value) (l : List Rw) (w : World) (hR : RawsAt w v l) (R : Value → World → Prop)
    (hA : ∀ (w1 : World) (gp : Nat) (vB vF : Value) (vs : List Value) (u : Value), Below w.heap.size w w1 → w.heap.size < w1.heap.size → RawsAt w u (l.take 150) → PlanAt w1 (w.heap.size + 1) gp vB vF vs (planOf l).1 (planOf l).2 →
      Calls Tryd.prog 39 #[.pointer (some ⟨gp, 0, none⟩), u] w1 fun e w' => ∃ x0 x1 x2 x3 x4 x5, e = .returned (.agg #[x0, x1, x2, x3, x4, x5]) ∧ x0.oneCell' = true ∧ x1.oneCell' = true ∧ x2.oneCell' = true ∧ x3.oneCell' = true ∧ x4.oneCell' = true ∧ x5.oneCell' = true ∧ Below (w.heap.size + 1) w1 w' ∧ ∀ w2, Below w.heap.size w' w2 → (∀ k, k ≠ w.heap.size → w2.heap[k]? = w'.heap[k]?) → R (.agg #[x0, x1, x2, x3, x4, x5]) w2) :
    Calls Tryd.prog 16 #[v] w fun e w' => ∃ x, e = .returned x ∧ R x w' ∧ Below w.heap.size w w' := by
  obtain ⟨aa, cp, rfl⟩ := raw_form hR
  have hl63 : l.length ≤ 9223372036854775807 := by
    rcases hR.2 with ⟨_, _, _, rfl⟩ | ⟨_, _, _, _, c1, c2, _⟩
    · simp
    · unfold maxLen at c2; omega
  have hcp : l.length ≤ cp ∨ l.length = 0 := by
    rcases hR.2 with ⟨_, _, _, rfl⟩ | ⟨_, _, _, hv, c1, c2, _⟩
    · simp
    · cases hv; exact Or.inl c1
  have HR : Hid (RawsAt w (.slice aa l.length cp) l) := hR
  have HA : Hid _ := hA
  clear hR hA
  obtain ⟨w1, hw1⟩ : ∃ w1, w.alloc (.cells #[.slice none 0 0, .slice none 0 0, .slice none 0 0, .slice none 0 0, .slice none 0 0, .int .i64 0] 29) = w1 := ⟨_, rfl⟩
  have HW1 : Hid _ := hw1
  go_enter Tryd.func16, Tryd.ntmps16
  go_upto_region 1 with fail
  try rw [HW1.out]
  clear hw1
  go_cut [0] (fun s wc => ∃ a c, s = .slice a (l.take 150).length c ∧ Hid ((l.take 150).length ≤ c ∨ (l.take 150).length = 0) ∧ Hid (RawsAt w s (l.take 150)) ∧ wc = w1)
  case first =>
    have hq : (l.length : Int) ≤ 150 ∨ (150 : Int) < l.length := by omega
    rcases hq with q | q
    · have ht : Hid (l.take 150 = l) := List.take_of_length_le (by omega)
      go_wp2
      go_meet
      exact ⟨aa, cp, by rw [ht.out], by rw [ht.out]; exact hcp, by rw [ht.out]; exact HR.out, rfl⟩
    · have ht : Hid ((l.take 150).length = 150) := by show _ = _; rw [List.length_take]; omega
      go_wp2
      go_meet
      refine ⟨aa, cp, by rw [ht.out], by rw [ht.out]; exact Or.inl (by omega), ?_, rfl⟩
      have h0 := HR.out
      rcases h0.2 with ⟨_, _, _, h⟩ | ⟨bb, oo, cap, hv, c1, c2, _⟩
      · subst h; simp at q
      · cases hv
        have := h0.cut 0 150 (by omega) (by omega) cp (by omega) (by omega)
        show RawsAt _ _ _
        simpa [Proofs.YtechpdfcgimkkaaDoor.cut] using this
  case rest =>
    obtain ⟨a, c, rfl, hc, hR, rfl⟩ := hcut
    generalize wc = w1 at *
    have hcut' : Hid (planOf l = planUpTo (l.take 150) (funcsOf (l.take 150)) (funcsOf (l.take 150))) := rfl
    have hl : (l.take 150).length ≤ 150 := by rw [List.length_take]; omega
    have HAA : Hid (∀ (w1 : World) (gp : Nat) (vB vF : Value) (vs : List Value) (u : Value), Below w.heap.size w w1 → w.heap.size < w1.heap.size → RawsAt w u (l.take 150) → PlanAt w1 (w.heap.size + 1) gp vB vF vs (planUpTo (l.take 150) (funcsOf (l.take 150)) (funcsOf (l.take 150))).1 (planUpTo (l.take 150) (funcsOf (l.take 150)) (funcsOf (l.take 150))).2 → _) := HA.out
    clear HA HR hcp hl63 hcut'
    generalize l.take 150 = L at *
    have hcc : L.length ≤ c ∨ L.length = 0 := hc.out
    have z1 : w1.heap.size = w.heap.size + 1 := by rw [← HW1.out]; simp
    have B1 : Hid (Below w.heap.size w w1) := by show Below _ _ _; rw [← HW1.out]; exact (Below.refl _ _).alloc (Nat.le_refl _) _
    have X1 : Hid (w1.heap[w.heap.size]? = some (.cells #[.slice none 0 0, .slice none 0 0, .slice none 0 0, .slice none 0 0, .slice none 0 0, .int .i64 0] 29)) := by show _ = _; rw [← HW1.out]; exact heap_alloc_new _ _
    have Z1 : Hid _ := z1
    have z1' : w.heap.size < w1.heap.size := by omega
    clear HW1 z1
    obtain ⟨pb0, pb1⟩ := pk_bd (L.length : Int) 3 (by decide)
    obtain ⟨q, hq⟩ : ∃ q, funcsOf L = q := ⟨_, rfl⟩
    have hq1 : 1 + pk (L.length : Int) 3 = (q : Int) := by rw [← hq]; unfold funcsOf pk; rw [if_neg (by omega)]; omega
    have hq2 : 1 ≤ q ∧ q ≤ 3 := by rw [← hq]; unfold funcsOf; omega
    obtain ⟨hq3, hq4⟩ := hq2
    rw [hq] at HAA
    clear hq
    have PN : Hid (PlanAt (w1.alloc (.cells #[.slice none 0 0, .slice none 0 0] 79)) (w.heap.size + 1) w1.heap.size (.slice none 0 0) (.slice none 0 0) [] [] []) := PlanAt.new w1 _ (by rw [Z1.out]; exact Nat.le_refl _)
    have BN : Hid (Below (w.heap.size + 1) w1 (w1.alloc (.cells #[.slice none 0 0, .slice none 0 0] 79))) := (Below.refl _ _).alloc (by rw [Z1.out]; exact Nat.le_refl _) _
    have hLz : -9223372036854775808 ≤ (L.length : Int) := by omega
    have hLy : (L.length : Int) ≤ 9223372036854775807 := by omega
    go_wp2_with (first | (go_at_call 19; refine (picked_any _ _ _ (by decide) hLz hLy).mono ?_; rintro e w' ⟨rfl, rfl⟩))
    generalize (w1.alloc (.cells #[.slice none 0 0, .slice none 0 0] 79)) = w2 at *
    have hq0 : ((q : Int) == 0) = false := by simp; omega
    have hgp : w.heap.size < w1.heap.size := by omega
    go_loopw [22] (fun i wr => ∃ f : Nat, f ≤ q ∧ i = .int .i64 (f : Int) ∧ ∃ vB vF vs, Hid (PlanAt wr (w.heap.size + 1) w1.heap.size vB vF vs (planUpTo L q f).1 (planUpTo L q f).2) ∧ Hid (Below (w.heap.size + 1) w1 wr)) (fun i _ => (q - intOf i).toNat)
    case atStart => exact ⟨0, by omega, rfl, _, _, _, PN, BN⟩
    case round =>
      obtain ⟨f, f1, rfl, vB, vF, vs, hP, hB⟩ := hrel
      by_cases hf : f < q
      · obtain ⟨lo, hi, t1, t2, HLO, HHI, s1, s2, b1, b2, hWW⟩ := share_facts f L.length q hf (by omega) hl
        have HWW : Hid _ := hWW
        clear hWW
        have hff : (f : Int) < (q : Int) := by omega
        have s3 : (lo : Int) ≤ (hi : Int) := by omega
        have s4 : hi ≤ c := by omega
        have s4' : (hi : Int) ≤ (c : Int) := by omega
        have s0 : (0 : Int) ≤ (lo : Int) := by omega
        obtain ⟨W1, W2, E1, E2, E3, E4, -, -⟩ := HWW.out
        go_wp2_with fail
        go_quiet (fail)
        go_upto_region 9 with fail
        clear W1 W2 E1 E2 E3 E4 HWW
        obtain ⟨rM, cM⟩ := hR.out.cut' lo hi s1 s2 hcc
        generalize (if c = lo then a else Option.map (fun x => x.add (lo * 4)) a) = a6 at rM ⊢
        generalize c - lo = c6 at rM cM ⊢
        have hsh : cut L lo hi = share L f q := by unfold share; rw [HLO.out, HHI.out]
        have hml : (cut L lo hi).length = hi - lo := cut_len _ _ _ s2
        rw [hsh] at rM hml
        have hmo : manyOf L f q = 1 + (hi - lo) / 4 := by unfold manyOf; rw [hml]
        have hMl : (share L f q).length ≤ 150 := by omega
        generalize hM : share L f q = M at *
        generalize hi - lo = ml at *
        subst hml
        obtain ⟨mo, hmo'⟩ : ∃ mo, manyOf L f q = mo := ⟨_, rfl⟩
        rw [hmo'] at hmo
        have hmo2 : 1 + (M.length : Int) / 4 = (mo : Int) := by omega
        have hmo3 : mo ≤ 38 := by omega
        rw [hmo2]
        have HMO : Hid (manyOf L f q = mo) := hmo'
        have HM : Hid (share L f q = M) := hM
        have hmo1 : 1 ≤ mo := by omega
        clear hmo hmo2 hmo' hM
        have RM : Hid (RawsAt w (.slice a6 M.length c6) M) := rM
        obtain ⟨pl1, pl2⟩ := planUpTo_len L q hl f (by omega)
        generalize hwx : wr.drewN nq = wx
        have hbx : Below wr.heap.size wr wx := by rw [← hwx]; exact ⟨rfl, rfl, rfl, Nat.le_refl _, fun _ _ => rfl⟩
        clear hwx
        have px := hP.out.up hbx
        obtain ⟨p0, p1, p2, p3⟩ := px.cells
        have pz := px.lt
        obtain ⟨aB, lB, cB, hvB⟩ := row_form px.oB
        obtain ⟨aF, lF, cF, hvF⟩ := row_form px.oF
        subst hvB hvF
        obtain ⟨vF', W, hr, ho, gr, hbw⟩ := row_app 3 26 1 8 _ Tryd.underlying26 inInt rfl (by decide) px.oF px.hB [.int .i64 ((planUpTo L q f).1.length : Int)] rfl (by intro x hx; simp at hx; subst hx; rfl) (by omega) (by unfold maxLen; omega) (Or.inr rfl)
        obtain ⟨bx0, P2, B2⟩ := px.addF hbw (n := ((planUpTo L q f).1.length : Int)) ho gr
        obtain ⟨aG, lG, cG, hvG⟩ := row_form ho
        subst hvG
        have lBe : lB = (planUpTo L q f).1.length := by
          rcases px.oB.2 with ⟨e, h0⟩ | ⟨_, _, _, e, _⟩
          · cases e; exact h0.symm
          · cases e; rfl
        subst lBe
        have gz : w1.heap.size < W.heap.size := by have := gr.size; have := hbw.size; omega
        have k0 : W.cell? ⟨w1.heap.size, 1, none⟩ = some (.slice aF lF cF) := by simp [World.cell?, bx0]
        have k1 : W.frozen? ⟨w1.heap.size, 1, none⟩ = false := by simp [World.frozen?, bx0]
        have HRR : Hid _ := hr
        have HP2 : Hid _ := P2
        have HB2 : Hid (Below (w.heap.size + 1) w1 (W.setCell ⟨w1.heap.size, 1, none⟩ (.slice aG lG cG))) := (hB.out.trans (hbx.mono (by have := hP.out.hB; omega))).trans B2
        clear hr ho gr P2 B2 hbw rM bx0
        obtain ⟨W3, hW3⟩ : ∃ W3, W.setCell ⟨w1.heap.size, 1, none⟩ (.slice aG lG cG) = W3 := ⟨_, rfl⟩
        have HW3 : Hid _ := hW3
        rw [hW3] at HP2 HB2
        go_cut [54] (fun _ wy => wy = W3)
        case first =>
          go_region_law (refine step_append_two rfl (.tmp 48) (.tmp 54) 26 26 rfl _ _ rfl rfl HRR.out ?_)
          all_goals (try go_wp2)
          all_goals go_meet
          all_goals rfl
        case rest =>
          rw [hcut]
          clear hcut HW3 HRR k0 k1 gz p0 p1 p2 p3 pz px hP hB hbx
          have N0 : Hid (∀ x, x = (planUpTo L q f).1.length → x ≤ 114) := fun x h => by omega
          obtain ⟨N, hN⟩ : ∃ N, (planUpTo L q f).1.length = N := ⟨_, rfl⟩
          have hN2 := N0.out N hN.symm
          obtain ⟨p0, p1, p2, p3⟩ := HP2.out.cells
          have pz := HP2.out.lt
          have PL : Hid (planUpTo L q (f + 1) = ((planUpTo L q f).1 ++ blocksUpTo L f q N mo, (planUpTo L q f).2 ++ [(N : Int)])) := by
            show _ = _
            rw [← hN, ← HMO.out]; rfl
          have HN : Hid _ := hN
          rw [hN] at HP2 p0
          generalize (planUpTo L q f).1 = bs at *
          generalize (planUpTo L q f).2 = fs at *
          clear hN pl1 pl2
          go_upto_region 11 with fail
          go_wp2_with fail
          go_loopw [64] (fun i wr => ∃ k : Nat, k ≤ mo ∧ i = .int .i64 (k : Int) ∧ ∃ vB vF vs, Hid (PlanAt wr (w.heap.size + 1) w1.heap.size vB vF vs (bs ++ blocksUpTo L f q N k) (fs ++ [(N : Int)])) ∧ Hid (Below (w.heap.size + 1) w1 wr)) (fun i _ => (mo - intOf i).toNat)
          case atStart => exact ⟨0, by omega, rfl, _, _, _, by rw [show blocksUpTo L f q N 0 = [] from rfl, List.append_nil]; exact HP2, HB2⟩
          case round =>
            obtain ⟨k, k1, rfl, vB, vF, vs, hP, hB⟩ := hrel
            by_cases hk : k < mo
            · obtain ⟨lo2, hi2, r1, r2, HLO2, HHI2, s5, s6, b3, b4, hXX⟩ := share_facts k M.length mo hk hmo3 hMl
              have HXX : Hid _ := hXX
              clear hXX
              have hkk : (k : Int) < (mo : Int) := by omega
              have hmz : ((mo : Int) == 0) = false := by simp; omega
              have s7 : (lo2 : Int) ≤ (hi2 : Int) := by omega
              have s8 : hi2 ≤ c6 := by omega
              have s8' : (hi2 : Int) ≤ (c6 : Int) := by omega
              have BW : Hid (Below w.heap.size w wr) := B1.out.trans (hB.out.mono (by omega))
              obtain ⟨rK, cK⟩ := RM.out.cut' lo2 hi2 s5 s6 cM
              have hKl := cut_len M lo2 hi2 s6
              obtain ⟨vM, hvM⟩ : ∃ vM, (if c6 = lo2 then a6 else Option.map (fun x => x.add (lo2 * 4)) a6) = vM := ⟨_, rfl⟩
              rw [hvM] at rK
              have RK : Hid _ := rK
              clear rK
              have bl : (bs ++ blocksUpTo L f q N k).length ≤ 1000 := by rw [List.length_append, HN.out, blocksUpTo_len]; omega
              have BC := fun (wz : World) (hz : Below wr.heap.size wr wz) => block_any _ (cut M lo2 hi2) ((N : Int) + k) N ((N : Int) + mo - 1) q wz (w.heap.size + 1) w1.heap.size vB vF vs _ _ (RawsAt.below RK.out (Nat.le_refl _) (BW.out.trans (hz.mono BW.out.size))) (by omega) (hP.out.up hz) bl (by omega) (by omega) (by omega) (by omega) (by omega) (by omega) (by omega)
              have HBC : Hid _ := BC
              clear BC bl
              have s0' : (0 : Int) ≤ (lo2 : Int) := by omega
              have hsh2 : cut M lo2 hi2 = share M k mo := by unfold share; rw [HLO2.out, HHI2.out]
              have BS : Hid (blocksUpTo L f q N (k + 1) = blocksUpTo L f q N k ++ [blockOf (cut M lo2 hi2) ((N : Int) + k) N ((N : Int) + mo - 1) q]) := by
                show _ = _
                rw [blocksUpTo_succ, HM.out, HMO.out, hsh2]
                congr 3
                omega
              clear hsh2
              have hm0 : ¬ mo = 0 := by omega
              have hn1 : ¬ hi2 < lo2 := by omega
              have hn2 : ¬ c6 < hi2 := by omega
              have hneg1 : ¬ (hi2 : Int) < (lo2 : Int) := by omega
              have hneg2 : ¬ (c6 : Int) < (hi2 : Int) := by omega
              have hneg3 : ¬ (lo2 : Int) < 0 := by omega
              have HWa0 : Hid (IntKind.i64.wrap (lo2 : Int) = (lo2 : Int)) := by show _ = _; rw [IntKind.wrap_i64]; omega
              have HWb0 : Hid (wrap64 (lo2 : Int) = (lo2 : Int)) := by show _ = _; unfold wrap64; omega
              have HWa1 : Hid (IntKind.i64.wrap (hi2 : Int) = (hi2 : Int)) := by show _ = _; rw [IntKind.wrap_i64]; omega
              have HWb1 : Hid (wrap64 (hi2 : Int) = (hi2 : Int)) := by show _ = _; unfold wrap64; omega
              have HWa2 : Hid (IntKind.i64.wrap (r1 : Int) = (r1 : Int)) := by show _ = _; rw [IntKind.wrap_i64]; omega
              have HWb2 : Hid (wrap64 (r1 : Int) = (r1 : Int)) := by show _ = _; unfold wrap64; omega
              have HWa3 : Hid (IntKind.i64.wrap (r2 : Int) = (r2 : Int)) := by show _ = _; rw [IntKind.wrap_i64]; omega
              have HWb3 : Hid (wrap64 (r2 : Int) = (r2 : Int)) := by show _ = _; unfold wrap64; omega
              have V3 : ∀ x : Int, x = (k : Int) * (M.length : Int) → IntKind.i64.wrap x = (r1 : Int) := fun x h => by rw [h]; exact HXX.out.1
              have V4 : ∀ x : Int, x = ((k : Int) + 1) * (M.length : Int) → IntKind.i64.wrap x = (r2 : Int) := fun x h => by rw [h]; exact HXX.out.2.1
              have V5 : ∀ x : Int, x = (k : Int) * (M.length : Int) → wrap64 x = (r1 : Int) := fun x h => by rw [h]; exact HXX.out.2.2.2.2.2.2.1
              have V6 : ∀ x : Int, x = ((k : Int) + 1) * (M.length : Int) → wrap64 x = (r2 : Int) := fun x h => by rw [h]; exact HXX.out.2.2.2.2.2.2.2
              have hWk : Hid (IntKind.i64.wrap ((k : Int) + 1) = (k : Int) + 1) := by show _ = _; rw [IntKind.wrap_i64]; omega
              have Vk : ∀ x : Int, x = (k : Int) + 1 → IntKind.i64.wrap x = (k : Int) + 1 := fun x h => by rw [h]; exact hWk.out
              have hWs1 : Hid (IntKind.i64.wrap ((N : Int) + (k : Int)) = (N : Int) + (k : Int)) := by show _ = _; rw [IntKind.wrap_i64]; omega
              have Vs1 : ∀ x : Int, x = (N : Int) + (k : Int) → IntKind.i64.wrap x = (N : Int) + (k : Int) := fun x h => by rw [h]; exact hWs1.out
              have hWs2 : Hid (IntKind.i64.wrap ((N : Int) + (mo : Int)) = (N : Int) + (mo : Int)) := by show _ = _; rw [IntKind.wrap_i64]; omega
              have Vs2 : ∀ x : Int, x = (N : Int) + (mo : Int) → IntKind.i64.wrap x = (N : Int) + (mo : Int) := fun x h => by rw [h]; exact hWs2.out
              have hWs3 : Hid (IntKind.i64.wrap ((N : Int) + (mo : Int) - 1) = (N : Int) + (mo : Int) - 1) := by show _ = _; rw [IntKind.wrap_i64]; omega
              have Vs3 : ∀ x : Int, x = (N : Int) + (mo : Int) - 1 → IntKind.i64.wrap x = (N : Int) + (mo : Int) - 1 := fun x h => by rw [h]; exact hWs3.out
              obtain ⟨-, -, E5, E6, E7, E8, -, -⟩ := HXX.out
              have Va0 : ∀ x : Int, x = (lo2 : Int) → IntKind.i64.wrap x = (lo2 : Int) := fun x h => by rw [h]; exact HWa0.out
              have Va1 : ∀ x : Int, x = (hi2 : Int) → IntKind.i64.wrap x = (hi2 : Int) := fun x h => by rw [h]; exact HWa1.out
              have Va2 : ∀ x : Int, x = (r1 : Int) → IntKind.i64.wrap x = (r1 : Int) := fun x h => by rw [h]; exact HWa2.out
              have Va3 : ∀ x : Int, x = (r2 : Int) → IntKind.i64.wrap x = (r2 : Int) := fun x h => by rw [h]; exact HWa3.out
              have Vb0 : ∀ x : Int, x = (lo2 : Int) → wrap64 x = (lo2 : Int) := fun x h => by rw [h]; exact HWb0.out
              have Vb1 : ∀ x : Int, x = (hi2 : Int) → wrap64 x = (hi2 : Int) := fun x h => by rw [h]; exact HWb1.out
              have Vb2 : ∀ x : Int, x = (r1 : Int) → wrap64 x = (r1 : Int) := fun x h => by rw [h]; exact HWb2.out
              have Vb3 : ∀ x : Int, x = (r2 : Int) → wrap64 x = (r2 : Int) := fun x h => by rw [h]; exact HWb3.out
              go_upto_region 14 with fail
              go_region_held3 (fun _ => True) (exact True.intro) (first | (go_at_call 38; refine (HBC.out _ (by first | exact (Below.refl _ _).drew | exact Below.refl _ _)).mono ?_; rintro e w4 ⟨rfl, vB', vs', hP4, hB4⟩; have HP4 : Hid _ := hP4; have HB4 : Hid _ := hB4; clear hP4 hB4))
              all_goals clear Vk Vs1 Vs2 Vs3 V3 V4 V5 V6 E5 E6 E7 E8 Va0 Va1 Va2 Va3 Vb0 Vb1 Vb2 Vb3
              all_goals go_wp2_with fail
              all_goals go_roundw
              all_goals first
                | exact ⟨k + 1, by omega, by go_num, vB', _, vs', (by show PlanAt _ _ _ _ _ _ _ _; rw [BS.out, ← List.append_assoc]; exact HP4.out), hB.out.trans ((((Below.refl _ _).drew).mono (Nat.le_refl _)).trans HB4.out)⟩
                | exact ⟨k + 1, by omega, by go_num, vB', _, vs', (by show PlanAt _ _ _ _ _ _ _ _; rw [BS.out, ← List.append_assoc]; exact HP4.out), hB.out.trans HB4.out⟩
                | (simp [intOf]; omega)
            · obtain rfl : k = mo := by omega
              go_wp2_with fail
              go_roundw
              case rel =>
                refine ⟨f + 1, by omega, by go_num, vB, vF, vs, ?_, hB⟩
                show PlanAt _ _ _ _ _ _ _ _
                rw [PL.out]; exact hP.out
              case measure => simp [intOf]; omega
      · obtain rfl : f = q := by omega
        have BW : Hid (Below w.heap.size w wr) := B1.out.trans (hB.out.mono (by omega))
        have HX : Hid (wr.heap[w.heap.size]? = some (.cells #[.slice none 0 0, .slice none 0 0, .slice none 0 0, .slice none 0 0, .slice none 0 0, .int .i64 0] 29)) := (hB.out.block _ (by omega)).trans X1.out
        have AA := HAA.out wr w1.heap.size vB vF vs (.slice a L.length c) BW.out (by have := BW.out.size; have := hB.out.size; omega) hR.out hP.out
        have hzr : w.heap.size + 1 ≤ wr.heap.size := by have := hB.out.size; omega
        clear hP
        go_wp2_with fail
        refine Calls.mono AA ?_
        rintro e w5 ⟨x0, x1, x2, x3, x4, x5, rfl, o0, o1, o2, o3, o4, o5, hb5, hRR⟩
        have hres : w5.heap[w.heap.size]? = some (.cells #[.slice none 0 0, .slice none 0 0, .slice none 0 0, .slice none 0 0, .slice none 0 0, .int .i64 0] 29) := (hb5.block _ (by omega)).trans HX.out
        obtain ⟨Z, hZ⟩ : ∃ Z, ((((((w5.setCell ⟨w.heap.size, 0, none⟩ x0).setCell ⟨w.heap.size, 1, none⟩ x1).setCell ⟨w.heap.size, 2, none⟩ x2).setCell ⟨w.heap.size, 3, none⟩ x3).setCell ⟨w.heap.size, 4, none⟩ x4).setCell ⟨w.heap.size, 5, none⟩ x5) = Z := ⟨_, rfl⟩
        have hz6 : Z.heap[w.heap.size]? = some (.cells #[x0, x1, x2, x3, x4, x5] 29) := by rw [← hZ]; exact chain6 hres _ _ _ _ _ _
        have HZO : Hid (∀ k, k ≠ w.heap.size → Z.heap[k]? = w5.heap[k]?) := fun k hk => by rw [← hZ]; exact chain6_other _ _ _ hk _ _ _ _ _ _
        have s0 : Z.cell? ⟨w.heap.size, 0, none⟩ = some x0 := by simp [World.cell?, hz6]
        have s1 : Z.cell? ⟨w.heap.size, 1, none⟩ = some x1 := by simp [World.cell?, hz6]
        have s2 : Z.cell? ⟨w.heap.size, 2, none⟩ = some x2 := by simp [World.cell?, hz6]
        have s3 : Z.cell? ⟨w.heap.size, 3, none⟩ = some x3 := by simp [World.cell?, hz6]
        have s4 : Z.cell? ⟨w.heap.size, 4, none⟩ = some x4 := by simp [World.cell?, hz6]
        have s5 : Z.cell? ⟨w.heap.size, 5, none⟩ = some x5 := by simp [World.cell?, hz6]
        have HBZ : Hid (Below w.heap.size w5 Z) := by show Below _ _ _; rw [← hZ]; exact chain6_below (Below.refl _ _) (Nat.le_refl _) _ _ _ _ _ _
        have HB5 : Hid (Below w.heap.size w w5) := BW.out.trans (hb5.mono (by omega))
        have HZ : Hid _ := hZ
        have HRS : Hid _ := hres
        have HRR : Hid _ := hRR
        clear hZ hres hRR hz6 hb5
        go_wp2_with (first | (with_reducible refine @id (wpList _ _ _ (Oper.mk _ (Op.store _ _ _) _ _ _ _ :: _) _ _) ?_; refine wpList_store6 rfl (.tmp 2) (.tmp 97) rfl w.heap.size rfl rfl HRS.out o0 o1 o2 o3 o4 o5 HZ.out ?_))
        refine bodyPost_ret (v := .agg #[x0, x1, x2, x3, x4, x5]) (by simp [results, Tryd.results16, go_sem, s0, s1, s2, s3, s4, s5]) rfl ?_
        exact ⟨_, rfl, HRR.out Z HBZ.out HZO.out, HB5.out.trans HBZ.out⟩
end Go.Proofs.YtechpdfcgimkkaaDoor
