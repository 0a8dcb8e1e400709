/-
  The call of boltholekeep.CodeWhole returns true at every slice of Raws, long or not.
-/
import Derived.Test.YtkofnmeononlaabDoorPureWhole
namespace Go.Proofs.YtkofnmeononlaabDoor
open Go.RowKit Go.Joins Isa
set_option maxRecDepth 100000 in
set_option maxHeartbeats 2000000 in
theorem whole_law (v : Value) (rs : List Rw) (long : Bool) (w : World) (ht : Tabs w) (hR : RawsAt w v rs) :
    Calls Tryd.prog 7 #[v, .bool long] w fun e w' => e = .returned (.bool true) ∧ Below w.heap.size w w' := by
  have hv : ∃ a cap, v = .slice a rs.length cap := by
    rcases hR.2 with ⟨a, cap, rfl, rfl⟩ | ⟨bb, oo, cap, rfl, _⟩
    · exact ⟨a, cap, rfl⟩
    · exact ⟨_, cap, rfl⟩
  obtain ⟨aa, cp, rfl⟩ := hv
  obtain ⟨is, hlen, hat, hok⟩ : ∃ is : List Ins, is.length = rs.length ∧ (∀ (m : Nat) (r : Rw), rs[m]? = some r → is[m]? = some (anyF r.K r.A r.B r.C long)) ∧ ∀ i ∈ is, i.chk = 0 := by
    refine ⟨rs.map fun r => anyF r.K r.A r.B r.C long, by simp, fun m r h => by simp [h], fun i hi => ?_⟩
    obtain ⟨r, _, rfl⟩ := List.mem_map.1 hi
    exact any_ok r.K r.A r.B r.C long
  obtain ⟨i0, hi, hz0, hz1, hz2⟩ := info_parts info5
  obtain ⟨i1, hj, hy0, hy1, hy2⟩ := info_parts infoI
  have HR : Hid _ := hR
  have HA : Hid _ := hat
  have HO : Hid _ := hok
  have h63 : rs.length ≤ cp ∧ cp ≤ maxLen ∨ rs.length = 0 := by
    rcases hR.2 with ⟨a, cap, _, rfl⟩ | ⟨bb, oo, cap, hv, q1, q2, _⟩
    · exact Or.inr rfl
    · cases hv; exact Or.inl ⟨q1, q2⟩
  have h62 : rs.length ≤ 9223372036854775807 := by unfold maxLen at h63; omega
  clear hR hat hok h63
  go_enter Tryd.func7, Tryd.ntmps7
  go_wp2_with fail
  go_loopw [5, 6, 7] (fun a b c wr => ∃ m : Nat, m ≤ rs.length ∧ m ≤ 40 ∧ c = .int .i64 m ∧ St1 w is a b wr m) (fun _ _ c _ => (40 - intOf c).toNat)
  case atStart => exact ⟨0, by omega, by omega, rfl, St1.start w is⟩
  case round =>
    obtain ⟨m, m1, m2, rfl, st⟩ := hrel
    by_cases hm : m < rs.length ∧ m < 40
    · obtain ⟨hm1, hm2⟩ := hm
      obtain ⟨own1, own2, ap1, ap2, bel⟩ := st
      obtain ⟨r, hr⟩ : ∃ r, rs[m]? = some r := ⟨_, List.getElem?_eq_getElem hm1⟩
      obtain ⟨x1, x2, x3, x4, x5, x6, x7, x8⟩ := HR.out.1 r (List.mem_of_getElem? hr)
      have hi2 := HA.out m r hr
      obtain ⟨bb, oo, cap, hv, c1, c2, c3, c4⟩ := HR.out.2.resolve_left (by rintro ⟨_, _, _, h⟩; subst h; simp at hm1)
      cases hv
      obtain ⟨d0, d1, d2, d3⟩ := c4 m r hr
      have e0 := (bel.cell (p := ⟨bb, oo + m * 4, none⟩) c3).trans d0
      have e1 := (bel.cell (p := ⟨bb, oo + m * 4 + 1, none⟩) c3).trans d1
      have e2 := (bel.cell (p := ⟨bb, oo + m * 4 + 2, none⟩) c3).trans d2
      have e3 := (bel.cell (p := ⟨bb, oo + m * 4 + 3, none⟩) c3).trans d3
      have o1 : (anyF r.K r.A r.B r.C long).chk = 0 := any_ok r.K r.A r.B r.C long
      have ai := fun w => any_any r.K r.A r.B r.C long w x1 x2 x3 x4 x5 x6 x7 x8
      generalize anyF r.K r.A r.B r.C long = i at *
      obtain ⟨K, A, B, C⟩ := r
      obtain ⟨ik, id, ia, ib, inn, il⟩ := i
      simp only at e0 e1 e2 e3 ai
      have AI : Hid _ := ai
      have HI : Hid _ := hi2
      have O1 : Hid (Isa.chk ik id ia ib inn il = 0) := o1
      clear ai hi2 o1 d0 d1 d2 d3 c4 hr x1 x2 x3 x4 x5 x6 x7 x8
      have hw := bel.size
      go_wp2_with fail
      refine (AI.out _).mono ?_
      rintro e w1 ⟨rfl, hb1⟩
      have own1a := row_below own1 hb1
      have own2a := row_below own2 hb1
      have B1 := bel.trans (hb1.mono hw)
      have hw1 := hb1.size
      clear own1 own2 e0 e1 e2 e3
      go_wp2_with fail
      refine (encode_any ik id ia ib inn il _ (ht.below ht.sz (B1.alloc (by omega) _))).mono ?_
      rintro e w2 (⟨hc, _⟩ | ⟨hc, g, cap3, rfl, own3, hb2⟩)
      · exact absurd O1.out hc
      have own1b := row_below (own1a.alloc _) hb2
      have own2b := row_below (own2a.alloc _) hb2
      obtain ⟨hc2, _⟩ := bcell hb2
      have s0 := hc2 w1.heap.size 0 (by simp)
      have s1 := hc2 w1.heap.size 1 (by simp)
      have s2 := hc2 w1.heap.size 2 (by simp)
      have s3 := hc2 w1.heap.size 3 (by simp)
      have s4 := hc2 w1.heap.size 4 (by simp)
      have s5 := hc2 w1.heap.size 5 (by simp)
      simp at s0 s1 s2 s3 s4 s5
      have hw2 : w1.heap.size < w2.heap.size := (by have := hb2.size; simp at this; omega)
      have B2 : Below w.heap.size w w2 := (B1.alloc (by omega) _).trans (hb2.mono (by simp; omega))
      have l5 : ∀ k, u5.ownBlock = some k → k < w1.heap.size := fun k hk => (own1a.lt k hk).2
      have l6 : ∀ k, u6.ownBlock = some k → w.heap.size ≤ k ∧ k < w1.heap.size := fun k hk => own2a.lt k hk
      have b5 : ∀ k, u5.ownBlock = some k → w.heap.size ≤ k := fun k hk => (own1a.lt k hk).1
      obtain ⟨h1, h2, _⟩ := chk_zero O1.out
      have hel := encL_len (d := id) (a := ia) (b := ib) (n := inn) (l := il) h1 h2
      have hes : 1 ≤ siz ik il ∧ siz ik il ≤ 5 := by have := wid_bd ik il h1 h2; unfold siz; constructor <;> split <;> split <;> omega
      have hal := encAll_len (is.take m) fun i hi => HO.out i (List.mem_of_mem_take hi)
      have htl : (is.take m).length ≤ 40 := by rw [List.length_take]; omega
      obtain ⟨N, hN⟩ : ∃ N, (encL ik id ia ib inn il).length = N := ⟨_, rfl⟩
      obtain ⟨M, hM⟩ : ∃ M, (encAll (is.take m)).length = M := ⟨_, rfl⟩
      rw [hN] at own3 hel ⊢
      rw [hM] at own1b hal
      have n1 : 1 ≤ N := by omega
      have n2 : N ≤ 5 := by omega
      have M1 : M ≤ 200 := by omega
      have hnew : ∀ j u, ((encL ik id ia ib inn il).map (Value.int .u8))[j]? = some u → w2.cell? ((⟨g, 0, none⟩ : Addr).add j) = some u := own3.cells (g := g) rfl
      have hnl : ((encL ik id ia ib inn il).map (Value.int .u8)).length = N * 1 := by rw [List.length_map, hN]; omega
      have HE : Hid _ := hnew
      have HN : Hid _ := hN
      have HM : Hid _ := hM
      have P1 : Hid (w2.ownsRow w.heap.size 5 1 u5 M ((encAll (is.take m)).map (Value.int .u8))) := own1b
      have P2 : Hid (w2.ownsRow w.heap.size 29 6 u6 m (valAll (is.take m))) := own2b
      have z5 : some w1.heap.size ≠ u5.ownBlock := fun h => by have := l5 _ h.symm; omega
      clear hnew hN hM own1b own2b own1a own2a own3 hb2 hc2 hc hel hal hes h1 h2 htl hb1
      have hv6 : ∀ w3 : World, ∀ j u, (valI ⟨ik, id, ia, ib, inn, il⟩)[j]? = some u → (w3.alloc (.cells #[.int .i64 ik, .int .i64 id, .int .i64 ia, .int .i64 ib, .int .i64 inn, .bool il] 29)).cell? ((⟨w3.heap.size, 0, none⟩ : Addr).add j) = some u := fun w3 j u hu => by
        rw [Addr.add_lit, Nat.zero_add, World.cell?_alloc_new]
        simpa [valI] using hu
      have HV : Hid _ := hv6
      clear hv6
      go_wp2_with (first
        | (at_builtin; refine wpList_append_lies _ rfl (.tmp 43) (.tmp 44) 24 rfl w.heap.size 5 i0 (.int .u8 0) 1 1 Tryd.underlying24 hi hz0 hz1 hz2 rfl (by decide) u5 M _ rfl P1.out ⟨g, 0, none⟩ N cap3 _ rfl hnl HE.out (one_bytes _) (by omega) (by unfold maxLen; omega) (by omega) (by omega) w2.heap.size rfl ?_; intro g1 cap1 w3 own1c gr1 hat1 hlt1; have t0 := gr1.cell s0 z5; have t1 := gr1.cell s1 z5; have t2 := gr1.cell s2 z5; have t3 := gr1.cell s3 z5; have t4 := gr1.cell s4 z5; have t5 := gr1.cell s5 z5)
        | (at_builtin; refine wpList_append_lies _ rfl (.tmp 46) (.tmp 48) 35 rfl w.heap.size 29 i1 (.agg #[.int .i64 0, .int .i64 0, .int .i64 0, .int .i64 0, .int .i64 0, .bool false]) 6 48 Tryd.underlying35 hj hy0 hy1 hy2 rfl (by decide) u6 m _ rfl ((P2.out.kept gr1 ap2).alloc _) ⟨w3.heap.size, 0, none⟩ 1 1 (valI ⟨ik, id, ia, ib, inn, il⟩) rfl rfl (HV.out w3) (one_vals _) (by decide) (by unfold maxLen; omega) (by omega) (by simp; have := gr1.size; omega) (w3.heap.size + 1) (by simp) ?_; intro g2 cap2 w4 own2e gr2 hat2 hlt2))
      have g16 : some g1 ≠ u6.ownBlock := by
        intro h
        have := l6 _ h.symm
        rcases hat1 with q | q
        · rcases ap1 with q2 | q2
          · rw [q2] at q; cases q
          · exact q2 (q.trans h)
        · omega
      have g12 : g1 ≠ g2 := by
        rintro rfl
        rcases hat2 with q | q
        · exact g16 q.symm
        · omega
      have own1d := World.ownsRow.kept (World.ownsRow.alloc own1c _) gr2 (Or.inr g16)
      have B3 : Below w.heap.size w w3 := B2.grown gr1 (by omega) b5
      have z3 := gr1.size
      have B4 : Below w.heap.size w w4 := (B3.alloc (by omega) _).grown gr2 (by simp; omega) (fun k hk => (l6 k hk).1)
      go_roundw
      case rel => exact ⟨m + 1, by omega, by omega, by go_num, St1.next (i := ⟨ik, id, ia, ib, inn, il⟩) HI.out (by rw [HM.out]; exact congrArg _ HN.out.symm) own1d own2e (by intro h; exact g12 (Option.some.inj h)) B4⟩
      case measure => simp [intOf]; omega
    · obtain ⟨own1, own2, _, _, bel⟩ := st
      have hjs : ∀ i ∈ is.take m, i.chk = 0 := fun i hi => HO.out i (List.mem_of_mem_take hi)
      have hjl : (is.take m).length = m := by rw [List.length_take]; omega
      generalize is.take m = js at *
      have hal := encAll_len js hjs
      have hbl := encAll_bytes js hjs
      obtain ⟨M, hM⟩ : ∃ M, (encAll js).length = M := ⟨_, rfl⟩
      rw [hM] at own1 hal
      have M1 : M ≤ 200 := by omega
      obtain ⟨a5, cp5, rfl, T5⟩ : ∃ a cp, u5 = .slice a M cp ∧ TextAt wr u5 (encAll js) := by
        rcases Nat.eq_zero_or_pos M with h0 | h0
        · subst h0
          have hE : encAll js = [] := List.length_eq_zero_iff.1 hM
          rcases own1.2 with ⟨rfl, _⟩ | ⟨g, cap, cur, rfl, _⟩
          · exact ⟨none, 0, rfl, by rw [hE]; exact ⟨fun _ h => (by cases h), Or.inl ⟨_, _, rfl, rfl⟩⟩⟩
          · exact ⟨_, cap, rfl, by rw [hE]; exact ⟨fun _ h => (by cases h), Or.inl ⟨_, _, rfl, rfl⟩⟩⟩
        · obtain ⟨g, cap, rfl, _⟩ := own1.form h0
          refine ⟨_, cap, rfl, ?_⟩
          have := text_own own1 hbl M (Nat.le_refl _)
          rwa [List.take_of_length_le (by omega)] at this
      obtain ⟨a6, cp6, rfl, h6⟩ : ∃ a cp, u6 = .slice a m cp ∧ (0 < m → ∃ g, a = some ⟨g, 0, none⟩ ∧ g < wr.heap.size ∧ ∀ j u, (valAll js)[j]? = some u → wr.cell? ⟨g, j, none⟩ = some u) := by
        rcases Nat.eq_zero_or_pos m with h0 | h0
        · subst h0
          rcases own2.2 with ⟨rfl, _⟩ | ⟨g, cap, cur, rfl, _⟩
          · exact ⟨none, 0, rfl, fun h => absurd h (by omega)⟩
          · exact ⟨_, cap, rfl, fun h => absurd h (by omega)⟩
        · obtain ⟨g, cap, rfl, _, hlt⟩ := own2.form h0
          refine ⟨_, cap, rfl, fun _ => ⟨g, rfl, hlt, fun j u hj => ?_⟩⟩
          have := own2.cells (g := g) rfl j u hj
          rwa [Addr.add_lit, Nat.zero_add] at this
      have H6 : Hid _ := h6
      have HM : Hid _ := hM
      have HJ : Hid _ := hjs
      clear h6 hM hjs own1 own2 hal hbl HA HO
      generalize wr = wo at *
      have hge : (rs.length : Int) ≤ m ∨ (m : Int) < rs.length ∧ (40 : Int) ≤ m := by omega
      rcases hge with hge | ⟨hge0, hge⟩
      all_goals
        go_wp2_with fail
        go_loopw [11, 52] (fun a c wq => ∃ j : Nat, j ≤ m ∧ c = .int .i64 j ∧ a = .int .i64 ((encAll (js.take j)).length : Nat) ∧ Below wo.heap.size wo wq) (fun _ c _ => (m - intOf c).toNat)
        case atStart => exact ⟨0, by omega, rfl, rfl, Below.refl _ _⟩
        case round =>
          obtain ⟨j, j1, rfl, rfl, bq⟩ := hrel
          have Bq : Below w.heap.size w wr := bel.trans (bq.mono bel.size)
          have zq := bq.size
          have zw := bel.size
          by_cases hj : j < m
          · obtain ⟨i, hi2⟩ : ∃ i, js[j]? = some i := ⟨_, List.getElem?_eq_getElem (by omega)⟩
            obtain ⟨q1, q2, q3, q4⟩ := dec_at js HJ.out j i hi2
            obtain ⟨g, rfl, g1, g2⟩ := H6.out (by omega)
            have hv := fun o ho => valAll_at js j i hi2 o ho
            have y : ∀ o u, o < 6 → (valI i)[o]? = some u → wr.cell? ⟨g, j * 6 + o, none⟩ = some u := fun o u ho hu => (bq.cell (p := ⟨g, _, none⟩) g1).trans (g2 _ u ((hv o ho).trans hu))
            obtain ⟨ik, id, ia, ib, inn, il⟩ := i
            have y0 := y 0 _ (by decide) rfl
            have y1 := y 1 _ (by decide) rfl
            have y2 := y 2 _ (by decide) rfl
            have y3 := y 3 _ (by decide) rfl
            have y4 := y 4 _ (by decide) rfl
            have y5 := y 5 _ (by decide) rfl
            simp only [Nat.add_zero] at y0
            simp only at q1 q2 q3 q4
            obtain ⟨S, hS⟩ := Int.eq_ofNat_of_zero_le (show 0 ≤ siz ik il by omega)
            rw [hS] at q1 q2 q3 q4
            rw [Int.toNat_natCast] at q2
            obtain ⟨P, hP⟩ : ∃ P, (encAll (js.take j)).length = P := ⟨_, rfl⟩
            have hPM : P ≤ 200 := by
              have h1 := encAll_len (js.take j) fun i hi => HJ.out i (List.mem_of_mem_take hi)
              rw [List.length_take] at h1
              omega
            rw [hP] at q1 q2 ⊢
            have Q1 : Hid _ := q1
            have Q2 : Hid _ := q2
            have htq := ht.below ht.sz (Bq.alloc (by omega) (.cells #[.int .i64 ik, .int .i64 id, .int .i64 ia, .int .i64 ib, .int .i64 inn, .bool il] 29))
            have T6 := text_stays T5 (Nat.le_refl _) (bq.alloc zq (.cells #[.int .i64 ik, .int .i64 id, .int .i64 ia, .int .i64 ib, .int .i64 inn, .bool il] 29))
            clear q1 q2 y hv g2 hi2 hS
            go_wp2_with fail
            refine (decode_any _ _ P _ htq T6).mono ?_
            rw [Q1.out]
            rintro e w5 ⟨rfl, hb5⟩
            obtain ⟨hc5, _⟩ := bcell hb5
            have s0 := hc5 wr.heap.size 0 (by simp)
            have s1 := hc5 wr.heap.size 1 (by simp)
            have s2 := hc5 wr.heap.size 2 (by simp)
            have s3 := hc5 wr.heap.size 3 (by simp)
            have s4 := hc5 wr.heap.size 4 (by simp)
            have s5 := hc5 wr.heap.size 5 (by simp)
            simp at s0 s1 s2 s3 s4 s5
            have z5 : wr.heap.size < w5.heap.size := (by have := hb5.size; simp at this; omega)
            have b5 : Below wo.heap.size wo w5 := (bq.alloc zq _).trans (hb5.mono (by simp; omega))
            clear hb5 hc5 y0 y1 y2 y3 y4 y5 T6 htq
            go_wp2_with fail
            go_roundw
            case rel => exact ⟨j + 1, by omega, by go_num, by rw [Q2.out]; go_num, b5.alloc (by omega) _⟩
            case measure => simp [intOf]; omega
          · obtain rfl : j = m := by omega
            rw [List.take_of_length_le (show js.length ≤ j by omega), HM.out]
            have htq := ht.below ht.sz Bq
            have T6 := text_stays T5 (Nat.le_refl _) bq
            have hde : decOut (encAll js) (M : Int) = (zeroI, 0, 2) := by have := dec_end (encAll js); rwa [HM.out] at this
            have HD : Hid _ := hde
            clear hde
            go_wp2_with fail
            refine (decode_any _ _ M _ htq T6).mono ?_
            rw [HD.out]
            rintro e w5 ⟨rfl, hb5⟩
            have B5 : Below w.heap.size w w5 := Bq.trans (hb5.mono (by omega))
            have z5 := B5.size
            clear hb5
            go_wp2_with fail
            go_ret
            exact ⟨by simp, B5.alloc z5 _⟩
end Go.Proofs.YtkofnmeononlaabDoor
