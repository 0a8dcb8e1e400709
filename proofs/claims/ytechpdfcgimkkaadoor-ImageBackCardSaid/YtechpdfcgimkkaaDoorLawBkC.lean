/-
  The call of boltholekeep.ImageBack returns true, whatever the input (written by genbk2.py).
-/
import Derived.Test.YtechpdfcgimkkaaDoorWalkPiC
import Derived.Test.YtechpdfcgimkkaaDoorMNBC
import Derived.Test.YtechpdfcgimkkaaDoorMNEC
import Derived.Test.YtechpdfcgimkkaaDoorWalkEsC
import Derived.BigQuiet
import Derived.Deep.QuietTactic
import Derived.Deep.RegionHeld3
namespace Go.Proofs.YtechpdfcgimkkaaDoor
open Go.RowKit Go.Joins Isa
set_option maxRecDepth 100000 in
set_option maxHeartbeats 1000000 in
/-- slices.Clone at bytes. -/
theorem clone_any (g n c : Nat) (bs : List Int) (w : World) (h : ListAt w ucell 1 (.slice (some ⟨g, 0, none⟩) n c) bs) (hn : bs ≠ []) (hl : bs.length ≤ 100000) :
    Calls Tryd.prog 20 #[.slice (some ⟨g, 0, none⟩) n c] w fun e w' => ∃ a' c', e = .returned (.slice a' bs.length c') ∧ w'.ownsRow w.heap.size 5 1 (.slice a' bs.length c') bs.length (flat ucell bs) ∧ Below w.heap.size w w' := by
  obtain ⟨bb, oo, cap, hv, c1, c2, c3, c4⟩ := h.resolve_left (by rintro ⟨_, _, _, h⟩; exact hn h)
  obtain ⟨⟨rfl, rfl⟩, rfl, rfl⟩ : (g = bb ∧ 0 = oo) ∧ n = bs.length ∧ c = cap := by simpa using hv
  obtain ⟨v', W, r1, r2, gr⟩ := orow_apps 5 23 1 1 _ Tryd.underlying23 inOct rfl (by decide) (row_lit w w.heap.size 1 0 w.heap.size 5 [] #[] rfl (Nat.le_refl _) rfl rfl (by unfold maxLen; omega)) (by simp) g 0 bs.length c (flat ucell bs) (flat_len ucell_len bs) (fun j u hj => by
    obtain ⟨k, o, x, rfl, ho, hx, hu⟩ := flat_split (cells := ucell) (sz := 1) (by decide) ucell_len bs j u hj
    have hlt : g < w.heap.size := c3
    have := c4 k x hx o u hu
    rw [Nat.zero_add, Nat.add_comm] at this
    rw [Nat.zero_add]
    refine (World.cell?_alloc_lt w _ ⟨g, _, none⟩ hlt).trans ?_
    rw [Nat.add_comm]
    simpa [Nat.add_comm] using c4 k x hx o u hu) (flat_one ucell_one bs) (by omega) (by unfold maxLen; omega)
  rw [Nat.zero_add] at r2
  obtain ⟨a', c', rfl⟩ := orow_form' r2
  have HR := hid r1
  have HO := hid r2
  have HB : Hid (Below w.heap.size w W) := ((Below.refl _ _).alloc (Nat.le_refl _) _).trans (obelow_grown (C := w.heap.size) (row_lit w w.heap.size 1 0 w.heap.size 5 [] #[] rfl (Nat.le_refl _) rfl rfl (by unfold maxLen; omega)) gr (Nat.le_refl _) (by simp))
  have qT : ∀ (w : World) (a : Option Addr) (n c n' c' : Nat), (binOp .eql 23 (.slice a n c) (.slice none n' c')).run Tryd.prog w = .ok (.bool a.isNone) w := fun w a n c n' c' => Lib.run_eql_slice_nil w 23 5 a n c n' c' Tryd.underlying23
  clear r1 r2 gr c4 h hv
  go_enter Tryd.func20, Tryd.ntmps20
  go_wp2_with (first | (at_builtin; refine wpList_append_pair _ rfl (.tmp 5) (.tmp 6) 23 23 rfl _ _ rfl rfl HR.out ?_))
  go_ret
  refine ⟨a', c', rfl, ?_, HB.out⟩
  have := HO.out
  simpa using this
set_option maxRecDepth 100000 in
set_option maxHeartbeats 8000000 in
theorem imageBack_law (v : Value) (l : List Rw) (cut tail : Int) (w : World) (ht : Tabs w) (hR : RawsAt w v l) (a1 : -9223372036854775808 ≤ cut) (a2 : cut ≤ 9223372036854775807) (b1 : 0 ≤ tail) (b2 : tail ≤ 255) :
    Calls Tryd.prog 3 #[v, .int .i64 cut, .int .u8 tail] w fun e w' => e = .returned (.bool true) ∧ Below w.heap.size w w' := by
  have PR := hid (program_img v l w hR ht)
  clear hR ht
  go_enter Tryd.func3, Tryd.ntmps3
  go_upto_region 1 with fail
  go_wp2_with fail
  refine Calls.mono PR.out ?_
  rintro e w1 ⟨vT, vF, vB, vD, vL, m, rfl, hm, hO, hb⟩
  have HEN := hid hm.entry
  have HM := hid hm
  have HI : Hid (ImgAt w1 vT vF vB vD vL m) := hO.at
  have HB : Hid (Below w.heap.size w w1) := hb
  have hz : w.heap.size ≤ w1.heap.size := hb.size
  obtain ⟨aT, cT, rfl⟩ := orow_form' hO.text
  obtain ⟨aF, cF, rfl⟩ := orow_form' hO.funcs
  obtain ⟨us, hus, -, -⟩ := hO.tables
  obtain ⟨aB, cB, rfl⟩ := orow_form' hus
  obtain ⟨aD, cD, rfl⟩ := orow_form' hO.data
  obtain ⟨aL, cL, rfl⟩ := orow_form' hO.lines
  clear hO hm hus hb PR
  go_upto_region 2 with fail
  obtain ⟨w2, hw2⟩ : ∃ w2, w1.alloc (.cells #[.slice aT m.text.length cT, .slice aF m.funcs.length cF, .slice aB us.length cB, .slice aD m.data.length cD, .slice aL m.lines.length cL, .int .i64 0] 29) = w2 := ⟨_, rfl⟩
  rw [hw2]
  have HX2 : Hid (w2.heap[w1.heap.size]? = some (.cells #[.slice aT m.text.length cT, .slice aF m.funcs.length cF, .slice aB us.length cB, .slice aD m.data.length cD, .slice aL m.lines.length cL, .int .i64 0] 29)) := by rw [← hw2]; exact heap_alloc_new _ _
  have HB2 : Hid (Below w1.heap.size w1 w2) := by rw [← hw2]; exact (Below.refl _ _).alloc (Nat.le_refl _) _
  have hgl : w1.heap.size < w2.heap.size := (Array.getElem?_eq_some_iff.1 HX2.out).1
  have HI2 := hid (HI.out.stays (Nat.le_refl _) HB2.out)
  clear hw2
  have hlen := encImg_le m HM.out.may
  have hlen4 : 4 ≤ (encImg m).length := by rw [enc_mark]; simp [magic]
  have hby : ∀ x ∈ encImg m, 0 ≤ x ∧ x ≤ 255 := enc_byt m HM.out.chk.2.1
  have HD1 := hid (dec_whole HM.out.chk.1 (by omega))
  have HD2 := hid (dec_more HM.out.chk.1 (by omega) tail)
  have HD3 := hid (fun k hk => dec_cut HM.out.chk.1 (by omega) k hk)
  have HBY := hid hby
  clear hby
  obtain ⟨s0, s1, s2, s3, s4, s5⟩ := img_six HX2.out
  have EN := encode_img _ _ _ _ _ m w2 HI2.out HM.out.chk.2.1
  rw [HEN.out] at EN
  have HEE := hid EN
  clear EN
  go_wp2_with fail
  refine Calls.mono HEE.out ?_
  rintro e w3 (⟨hx, _⟩ | ⟨_, vE, rfl, ⟨BE, hBE, hoE⟩, hb3⟩)
  · exact absurd HM.out.chk.1 hx
  have HB3 := hid hb3
  have hz3 : w2.heap.size ≤ w3.heap.size := hb3.size
  have hlE := hoE.list (by unfold maxLen; omega)
  have HLE := hid hlE
  obtain ⟨gE, oE, cE, rfl, ec1, ec2, ec3, -⟩ := hlE.resolve_left (by rintro ⟨_, _, _, h⟩; rw [h] at hlen4; simp at hlen4)
  obtain ⟨rfl⟩ : oE = 0 := own_zero hoE
  have HX3 := hid ((hb3.block _ hgl).trans HX2.out)
  clear hb3 hoE hlE s0 s1 s2 s3 s4 s5 HEE
  obtain ⟨N, hN⟩ : ∃ N, (encImg m).length = N := ⟨_, rfl⟩
  have HN := hid hN
  rw [hN] at hlen hlen4 ec1 HLE ⊢
  clear hN
  have hgl3 : w1.heap.size < w3.heap.size := by omega
  go_wp2_with fail
  refine Calls.mono (idecode_any _ (encImg m) w3 HLE.out HBY.out) ?_
  rintro e w4 (⟨hx, _⟩ | ⟨_, xT, xF, xB, xD, xL, rfl, hX, hb4⟩)
  · exact absurd HD1.out.1 hx
  rw [HD1.out.2] at hX ⊢
  rw [HEN.out]
  obtain ⟨bT, dT, rfl, -⟩ := hX.text.form
  obtain ⟨bF, dF, rfl, -⟩ := hX.funcs.form
  obtain ⟨ux, hux, -, -⟩ := hX.tables
  obtain ⟨bB, dB, rfl, -⟩ := hux.form
  obtain ⟨bD, dD, rfl, -⟩ := hX.data.form
  obtain ⟨bL, dL, rfl, -⟩ := hX.lines.form
  have HXI := hid hX
  have HB4 := hid hb4
  have hz4 : w3.heap.size ≤ w4.heap.size := hb4.size
  clear hX hb4 hux
  go_upto_region 4 with fail
  obtain ⟨w5, hw5⟩ : ∃ w5, w4.alloc (.cells #[.slice bT m.text.length dT, .slice bF m.funcs.length dF, .slice bB ux.length dB, .slice bD m.data.length dD, .slice bL m.lines.length dL, .int .i64 0] 29) = w5 := ⟨_, rfl⟩
  rw [hw5]
  have HY5 : Hid (w5.heap[w4.heap.size]? = some (.cells #[.slice bT m.text.length dT, .slice bF m.funcs.length dF, .slice bB ux.length dB, .slice bD m.data.length dD, .slice bL m.lines.length dL, .int .i64 0] 29)) := by rw [← hw5]; exact heap_alloc_new _ _
  have HB5 : Hid (Below w4.heap.size w4 w5) := by rw [← hw5]; exact (Below.refl _ _).alloc (Nat.le_refl _) _
  have hgx : w4.heap.size < w5.heap.size := (Array.getElem?_eq_some_iff.1 HY5.out).1
  have HB35 : Hid (Below w3.heap.size w3 w5) := HB4.out.trans (HB5.out.mono hz4)
  have HX5 := hid ((HB35.out.block _ hgl3).trans HX3.out)
  have HLE5 := hid (HLE.out.stays (Nat.le_refl _) HB35.out)
  clear hw5
  have hmx : max (N : Int) 1 = (N : Int) := by omega
  obtain ⟨p0, p1⟩ := pk_bd cut (N : Int) (by omega)
  have PK : Hid (∀ W, Calls Tryd.prog 19 #[.int .i64 cut, .int .i64 (N : Int)] W fun e w' => e = .returned (.int .i64 (pk cut (N : Int))) ∧ w' = W) := fun W => picked_any cut _ W (by omega) a1 a2
  obtain ⟨p, hp⟩ := Int.eq_ofNat_of_zero_le p0
  rw [hp] at PK p1
  have hpN : p < N := by omega
  obtain ⟨hfr, hpc⟩ := list_frontU HLE5.out p (by rw [HN.out]; omega)
  have HFR := hid hfr
  have HD4 : Hid (decErr ((encImg m).take p) = 5) := HD3.out p (by rw [HN.out]; exact hpN)
  have HBT : Hid (∀ x ∈ (encImg m).take p, 0 ≤ x ∧ x ≤ 255) := fun x hx => HBY.out x (List.mem_of_mem_take hx)
  have hpc1 : (p : Int) ≤ (cE : Int) := by omega
  have hpc2 : ¬ (cE : Int) < (p : Int) := by omega
  have hpc3 : ¬ cE < p := by omega
  have hpc4 : (0 : Int) ≤ (p : Int) := by omega
  have hN9 : (N : Int) ≤ 9223372036854775807 := by omega
  clear hp p0 hfr
  go_wp2_with (first | (go_at_call 19; refine (PK.out _).mono ?_; rintro e w' ⟨rfl, hw⟩; rw [hw]; clear hw w'))
  refine Calls.mono (idecode_any _ ((encImg m).take p) w5 HFR.out HBT.out) ?_
  rintro e w6 (⟨_, rfl, hb6⟩ | ⟨hx, _⟩)
  case inr => rw [HD4.out] at hx; exact absurd hx (by decide)
  rw [HD4.out]
  have HB6 := hid hb6
  have hz6 : w5.heap.size ≤ w6.heap.size := hb6.size
  clear hb6 hpc1 hpc2 hpc3 hpc4
  go_upto_region 5 with fail
  obtain ⟨w7, hw7⟩ : ∃ w7, w6.alloc (.cells #[.slice none 0 0, .slice none 0 0, .slice none 0 0, .slice none 0 0, .slice none 0 0, .int .i64 0] 29) = w7 := ⟨_, rfl⟩
  rw [hw7]
  have HB7 : Hid (Below w5.heap.size w5 w7) := by rw [← hw7]; exact HB6.out.alloc hz6 _
  have hz7 : w5.heap.size ≤ w7.heap.size := HB7.out.size
  clear hw7
  have HLE7 := hid (HLE5.out.stays (Nat.le_refl _) HB7.out)
  have CL := hid (clone_any gE N cE (encImg m) w7 HLE7.out (by intro h; have := HN.out; rw [h] at this; simp at this; omega) (by rw [HN.out]; omega))
  rw [HN.out] at CL
  go_wp2_with fail
  refine Calls.mono CL.out ?_
  rintro e w8 ⟨aK, cK, rfl, hoK, hb8⟩
  have HB8 : Hid (Below w5.heap.size w5 w8) := HB7.out.trans (hb8.mono hz7)
  have hz8 : w7.heap.size ≤ w8.heap.size := hb8.size
  obtain ⟨v9, W9, r1, r2, gr⟩ := orow_apps 5 23 1 1 _ Tryd.underlying23 inOct rfl (by decide) (row_up hoK ((Below.refl w8.heap.size w8).alloc (Nat.le_refl _) (.cells #[.int .u8 tail] 5))) (by simp; omega) w8.heap.size 0 1 1 (ucell tail) rfl (fun j u hj => by
    rw [World.cell?_alloc_new, Nat.zero_add]
    simpa [ucell] using hj) (ucell_one tail) (by omega) (by unfold maxLen; omega)
  obtain ⟨a9, c9, rfl⟩ := orow_form' r2
  have e9 : flat ucell (encImg m) ++ ucell tail = flat ucell (encImg m ++ [tail]) := by simp [flat]
  have l9 : N + 1 = (encImg m ++ [tail]).length := by rw [List.length_append, HN.out]; rfl
  rw [e9] at r2
  have hl9 : ListAt W9 ucell 1 (.slice a9 (N + 1) c9) (encImg m ++ [tail]) := by
    refine row_list ucell_len (B := w7.heap.size) (E := 5) ?_
    rw [← l9]
    exact r2
  have HB9 : Hid (Below w5.heap.size w5 W9) := HB8.out.trans ((((Below.refl _ _).alloc (Nat.le_refl _) _).mono (by omega)).trans ((obelow_grown (C := w5.heap.size) (row_up hoK ((Below.refl w8.heap.size w8).alloc (Nat.le_refl _) (.cells #[.int .u8 tail] 5))) gr hz7 (by simp; omega))))
  have HR1 := hid r1
  have HL9 := hid hl9
  have HBY9 : Hid (∀ x ∈ encImg m ++ [tail], 0 ≤ x ∧ x ≤ 255) := fun x hx => by
    rcases List.mem_append.1 hx with hx | hx
    · exact HBY.out x hx
    · simp at hx; omega
  have hz9 : w5.heap.size ≤ W9.heap.size := HB9.out.size
  clear r1 r2 gr e9 l9 hl9 hoK hb8 CL
  go_wp2_with (first | (at_builtin; refine wpList_append_pair _ rfl (.tmp 41) (.tmp 43) 23 23 rfl _ _ rfl rfl HR1.out ?_))
  refine Calls.mono (idecode_any _ (encImg m ++ [tail]) W9 HL9.out HBY9.out) ?_
  rintro e w10 (⟨_, rfl, hb10⟩ | ⟨hx, _⟩)
  case inr => rw [HD2.out] at hx; exact absurd hx (by decide)
  rw [HD2.out]
  have HB10 : Hid (Below w5.heap.size w5 w10) := HB9.out.trans (hb10.mono hz9)
  have hz10 : w5.heap.size ≤ w10.heap.size := HB10.out.size
  clear hb10 HR1
  go_upto_region 6 with fail
  obtain ⟨w9, hw9⟩ : ∃ w9, w10.alloc (.cells #[.slice none 0 0, .slice none 0 0, .slice none 0 0, .slice none 0 0, .slice none 0 0, .int .i64 0] 29) = w9 := ⟨_, rfl⟩
  rw [hw9]
  have HBE : Hid (Below w5.heap.size w5 w9) := by rw [← hw9]; exact HB10.out.alloc hz10 _
  have hz9e : w5.heap.size ≤ w9.heap.size := HBE.out.size
  clear hw9
  have HX9 := hid ((HBE.out.block _ (by omega)).trans HX5.out)
  have HY9 := hid ((HBE.out.block _ hgx).trans HY5.out)
  have hxl : w1.heap.size < w9.heap.size := by omega
  have hyl : w4.heap.size < w9.heap.size := by omega
  have HIM9 : Hid (ImgAt w9 (.slice aT m.text.length cT) (.slice aF m.funcs.length cF) (.slice aB us.length cB) (.slice aD m.data.length cD) (.slice aL m.lines.length cL) m) := HI2.out.stays (Nat.le_refl _) (HB3.out.trans ((HB35.out.trans (HBE.out.mono (by omega))).mono hz3))
  have HIX9 : Hid (ImgAt w9 (.slice bT m.text.length dT) (.slice bF m.funcs.length dF) (.slice bB ux.length dB) (.slice bD m.data.length dD) (.slice bL m.lines.length dL) m) := HXI.out.stays (Nat.le_refl _) (HB5.out.trans (HBE.out.mono (by omega)))
  have KS : Hid (∀ W, Below w9.heap.size w9 W → W.cell? ⟨w1.heap.size, 0, none⟩ = some (.slice aT m.text.length cT) ∧ W.cell? ⟨w1.heap.size, 1, none⟩ = some (.slice aF m.funcs.length cF) ∧ W.cell? ⟨w1.heap.size, 2, none⟩ = some (.slice aB us.length cB) ∧ W.cell? ⟨w1.heap.size, 3, none⟩ = some (.slice aD m.data.length cD) ∧ W.cell? ⟨w1.heap.size, 4, none⟩ = some (.slice aL m.lines.length cL) ∧ W.cell? ⟨w1.heap.size, 5, none⟩ = some (.int .i64 0) ∧ W.cell? ⟨w4.heap.size, 0, none⟩ = some (.slice bT m.text.length dT) ∧ W.cell? ⟨w4.heap.size, 1, none⟩ = some (.slice bF m.funcs.length dF) ∧ W.cell? ⟨w4.heap.size, 2, none⟩ = some (.slice bB ux.length dB) ∧ W.cell? ⟨w4.heap.size, 3, none⟩ = some (.slice bD m.data.length dD) ∧ W.cell? ⟨w4.heap.size, 4, none⟩ = some (.slice bL m.lines.length dL) ∧ W.cell? ⟨w4.heap.size, 5, none⟩ = some (.int .i64 0)) := fun W hW => by
    obtain ⟨q0, q1, q2, q3, q4, q5⟩ := img_six ((hW.block _ hxl).trans HX9.out)
    obtain ⟨k0, k1, k2, k3, k4, k5⟩ := img_six ((hW.block _ hyl).trans HY9.out)
    exact ⟨q0, q1, q2, q3, q4, q5, k0, k1, k2, k3, k4, k5⟩
  have CK : Hid (∀ W, Below w9.heap.size w9 W → Calls Tryd.prog 21 #[.agg #[.slice aT m.text.length cT, .slice aF m.funcs.length cF, .slice aB us.length cB, .slice aD m.data.length cD, .slice aL m.lines.length cL, .int .i64 0]] W fun e w' => e = .returned (.int .i64 0) ∧ (w'.cell? ⟨w1.heap.size, 0, none⟩ = some (.slice aT m.text.length cT) ∧ w'.cell? ⟨w1.heap.size, 1, none⟩ = some (.slice aF m.funcs.length cF) ∧ w'.cell? ⟨w1.heap.size, 2, none⟩ = some (.slice aB us.length cB) ∧ w'.cell? ⟨w1.heap.size, 3, none⟩ = some (.slice aD m.data.length cD) ∧ w'.cell? ⟨w1.heap.size, 4, none⟩ = some (.slice aL m.lines.length cL) ∧ w'.cell? ⟨w1.heap.size, 5, none⟩ = some (.int .i64 0) ∧ w'.cell? ⟨w4.heap.size, 0, none⟩ = some (.slice bT m.text.length dT) ∧ w'.cell? ⟨w4.heap.size, 1, none⟩ = some (.slice bF m.funcs.length dF) ∧ w'.cell? ⟨w4.heap.size, 2, none⟩ = some (.slice bB ux.length dB) ∧ w'.cell? ⟨w4.heap.size, 3, none⟩ = some (.slice bD m.data.length dD) ∧ w'.cell? ⟨w4.heap.size, 4, none⟩ = some (.slice bL m.lines.length dL) ∧ w'.cell? ⟨w4.heap.size, 5, none⟩ = some (.int .i64 0)) ∧ Hid (Below w9.heap.size w9 w')) := fun W hW => by
    have := icheck_any _ _ _ _ _ m W (HIM9.out.stays (Nat.le_refl _) hW) HM.out.chk.2.1
    rw [HEN.out, HM.out.chk.1] at this
    refine this.mono ?_
    rintro e w' ⟨rfl, hb⟩
    have := hW.trans (hb.mono hW.size)
    exact ⟨rfl, KS.out _ this, this⟩
  have SI : Hid (∀ W, Below w9.heap.size w9 W → Calls Tryd.prog 22 #[.agg #[.slice aT m.text.length cT, .slice aF m.funcs.length cF, .slice aB us.length cB, .slice aD m.data.length cD, .slice aL m.lines.length cL, .int .i64 0], .agg #[.slice bT m.text.length dT, .slice bF m.funcs.length dF, .slice bB ux.length dB, .slice bD m.data.length dD, .slice bL m.lines.length dL, .int .i64 0]] W fun e w' => e = .returned (.bool true) ∧ (w'.cell? ⟨w1.heap.size, 0, none⟩ = some (.slice aT m.text.length cT) ∧ w'.cell? ⟨w1.heap.size, 1, none⟩ = some (.slice aF m.funcs.length cF) ∧ w'.cell? ⟨w1.heap.size, 2, none⟩ = some (.slice aB us.length cB) ∧ w'.cell? ⟨w1.heap.size, 3, none⟩ = some (.slice aD m.data.length cD) ∧ w'.cell? ⟨w1.heap.size, 4, none⟩ = some (.slice aL m.lines.length cL) ∧ w'.cell? ⟨w1.heap.size, 5, none⟩ = some (.int .i64 0) ∧ w'.cell? ⟨w4.heap.size, 0, none⟩ = some (.slice bT m.text.length dT) ∧ w'.cell? ⟨w4.heap.size, 1, none⟩ = some (.slice bF m.funcs.length dF) ∧ w'.cell? ⟨w4.heap.size, 2, none⟩ = some (.slice bB ux.length dB) ∧ w'.cell? ⟨w4.heap.size, 3, none⟩ = some (.slice bD m.data.length dD) ∧ w'.cell? ⟨w4.heap.size, 4, none⟩ = some (.slice bL m.lines.length dL) ∧ w'.cell? ⟨w4.heap.size, 5, none⟩ = some (.int .i64 0)) ∧ Hid (Below w9.heap.size w9 w')) := fun W hW => by
    have := sameImg_any _ _ _ _ _ _ _ _ _ _ m W (HIM9.out.stays (Nat.le_refl _) hW) (HIX9.out.stays (Nat.le_refl _) hW)
    rw [HEN.out] at this
    refine this.mono ?_
    rintro e w' ⟨rfl, hb⟩
    have := hW.trans (hb.mono hW.size)
    exact ⟨rfl, KS.out _ this, this⟩
  have CP : Hid (∀ W, Below w9.heap.size w9 W → Calls Tryd.prog 23 #[.agg #[.slice aT m.text.length cT, .slice aF m.funcs.length cF, .slice aB us.length cB, .slice aD m.data.length cD, .slice aL m.lines.length cL, .int .i64 0]] W fun e w' => ∃ yT yF yB yD yL, e = .returned (.agg #[yT, yF, yB, yD, yL, .int .i64 0]) ∧ (w'.cell? ⟨w1.heap.size, 0, none⟩ = some (.slice aT m.text.length cT) ∧ w'.cell? ⟨w1.heap.size, 1, none⟩ = some (.slice aF m.funcs.length cF) ∧ w'.cell? ⟨w1.heap.size, 2, none⟩ = some (.slice aB us.length cB) ∧ w'.cell? ⟨w1.heap.size, 3, none⟩ = some (.slice aD m.data.length cD) ∧ w'.cell? ⟨w1.heap.size, 4, none⟩ = some (.slice aL m.lines.length cL) ∧ w'.cell? ⟨w1.heap.size, 5, none⟩ = some (.int .i64 0) ∧ w'.cell? ⟨w4.heap.size, 0, none⟩ = some (.slice bT m.text.length dT) ∧ w'.cell? ⟨w4.heap.size, 1, none⟩ = some (.slice bF m.funcs.length dF) ∧ w'.cell? ⟨w4.heap.size, 2, none⟩ = some (.slice bB ux.length dB) ∧ w'.cell? ⟨w4.heap.size, 3, none⟩ = some (.slice bD m.data.length dD) ∧ w'.cell? ⟨w4.heap.size, 4, none⟩ = some (.slice bL m.lines.length dL) ∧ w'.cell? ⟨w4.heap.size, 5, none⟩ = some (.int .i64 0)) ∧ Hid (Below w9.heap.size w9 w') ∧ Hid (ImgAt w' yT yF yB yD yL m)) := fun W hW => by
    have := copy_any _ _ _ _ _ m W (HIM9.out.stays (Nat.le_refl _) hW) HM.out.small
    rw [HEN.out] at this
    refine this.mono ?_
    rintro e w' ⟨yT, yF, yB, yD, yL, rfl, hI, hb⟩
    have := hW.trans (hb.mono hW.size)
    exact ⟨_, _, _, _, _, rfl, KS.out _ this, this, hI⟩
  have SJ : Hid (∀ (W : World) (yT yF yB yD yL : Value), ImgAt W yT yF yB yD yL m → Below w9.heap.size w9 W → Calls Tryd.prog 22 #[.agg #[yT, yF, yB, yD, yL, .int .i64 0], .agg #[.slice aT m.text.length cT, .slice aF m.funcs.length cF, .slice aB us.length cB, .slice aD m.data.length cD, .slice aL m.lines.length cL, .int .i64 0]] W fun e w' => e = .returned (.bool true) ∧ (w'.cell? ⟨w1.heap.size, 0, none⟩ = some (.slice aT m.text.length cT) ∧ w'.cell? ⟨w1.heap.size, 1, none⟩ = some (.slice aF m.funcs.length cF) ∧ w'.cell? ⟨w1.heap.size, 2, none⟩ = some (.slice aB us.length cB) ∧ w'.cell? ⟨w1.heap.size, 3, none⟩ = some (.slice aD m.data.length cD) ∧ w'.cell? ⟨w1.heap.size, 4, none⟩ = some (.slice aL m.lines.length cL) ∧ w'.cell? ⟨w1.heap.size, 5, none⟩ = some (.int .i64 0) ∧ w'.cell? ⟨w4.heap.size, 0, none⟩ = some (.slice bT m.text.length dT) ∧ w'.cell? ⟨w4.heap.size, 1, none⟩ = some (.slice bF m.funcs.length dF) ∧ w'.cell? ⟨w4.heap.size, 2, none⟩ = some (.slice bB ux.length dB) ∧ w'.cell? ⟨w4.heap.size, 3, none⟩ = some (.slice bD m.data.length dD) ∧ w'.cell? ⟨w4.heap.size, 4, none⟩ = some (.slice bL m.lines.length dL) ∧ w'.cell? ⟨w4.heap.size, 5, none⟩ = some (.int .i64 0)) ∧ Hid (Below w9.heap.size w9 w')) := fun W yT yF yB yD yL hY hW => by
    have := sameImg_any _ _ _ _ _ _ _ _ _ _ m W hY (HIM9.out.stays (Nat.le_refl _) hW)
    rw [HEN.out] at this
    refine this.mono ?_
    rintro e w' ⟨rfl, hb⟩
    have := hW.trans (hb.mono hW.size)
    exact ⟨rfl, KS.out _ this, this⟩
  have HBF : Hid (∀ W, Below w9.heap.size w9 W → Below w.heap.size w W) := fun W hW => HB.out.trans ((HB2.out.trans ((HB3.out.trans ((HB35.out.trans ((HBE.out.trans (hW.mono hz9e)).mono (by omega))).mono hz3)).mono (by omega))).mono hz)
  have hs9 := KS.out w9 (Below.refl _ _)
  obtain ⟨s0, s1, s2, s3, s4, s5, k0, k1, k2, k3, k4, k5⟩ := id hs9
  clear HX2 HX3 HX5 HY5 HB7 HB8 HB9 HB10 HL9 HBY9 HLE HLE5 HLE7 HFR PK
  go_region_held3 (fun w' => w'.cell? ⟨w1.heap.size, 0, none⟩ = some (.slice aT m.text.length cT) ∧ w'.cell? ⟨w1.heap.size, 1, none⟩ = some (.slice aF m.funcs.length cF) ∧ w'.cell? ⟨w1.heap.size, 2, none⟩ = some (.slice aB us.length cB) ∧ w'.cell? ⟨w1.heap.size, 3, none⟩ = some (.slice aD m.data.length cD) ∧ w'.cell? ⟨w1.heap.size, 4, none⟩ = some (.slice aL m.lines.length cL) ∧ w'.cell? ⟨w1.heap.size, 5, none⟩ = some (.int .i64 0) ∧ w'.cell? ⟨w4.heap.size, 0, none⟩ = some (.slice bT m.text.length dT) ∧ w'.cell? ⟨w4.heap.size, 1, none⟩ = some (.slice bF m.funcs.length dF) ∧ w'.cell? ⟨w4.heap.size, 2, none⟩ = some (.slice bB ux.length dB) ∧ w'.cell? ⟨w4.heap.size, 3, none⟩ = some (.slice bD m.data.length dD) ∧ w'.cell? ⟨w4.heap.size, 4, none⟩ = some (.slice bL m.lines.length dL) ∧ w'.cell? ⟨w4.heap.size, 5, none⟩ = some (.int .i64 0)) (first | with_reducible assumption | (simp [go_sem, *]; done)) (first
    | (go_at_call 21; refine (CK.out _ (by first | exact (Below.refl _ _).drew | exact Below.refl _ _)).mono ?_; rintro e wa ⟨rfl, hSa, hBa⟩)
    | (go_at_call 23; refine (CP.out _ hBb.out).mono ?_; rintro e wc ⟨yT, yF, yB, yD, yL, rfl, hSc, hBc, hIc⟩)
    | (go_at_call 22; refine (SJ.out _ _ _ _ _ _ hIc.out hBc.out).mono ?_; rintro e wd ⟨rfl, hSd, hBd⟩)
    | (go_at_call 22; refine (SI.out _ hBa.out).mono ?_; rintro e wb ⟨rfl, hSb, hBb⟩))
  all_goals (try go_wp2)
  all_goals go_ret
  all_goals exact ⟨rfl, HBF.out _ hBd.out⟩
end Go.Proofs.YtechpdfcgimkkaaDoor
