/-
  The call of boltholekeep.TallyBack returns true at all raws.
-/
import Derived.Test.YtjcackcimofcmaaDoorTbKitC
import Derived.Test.YtjcackcimofcmaaDoorWalkQeC
import Derived.Test.YtjcackcimofcmaaDoorWalkTrC
import Derived.Deep.RegionWith
import Derived.Deep.RegionHeld3
import Derived.Deep.DeepCutAuto
import Derived.Deep.QuietTactic
import Derived.BigQuiet
import Derived.Laws.Concat
namespace Go.Proofs.YtjcackcimofcmaaDoor
open Go.RowKit Go.Joins
theorem add_str (a b : ByteArray) (h : a.size + b.size ≤ 9223372036854775807) : ∃ c : ByteArray, (∀ W, (Op.stringOp .add a b).run Tryd.prog W = .ok (.string c) W) ∧ c.size = a.size + b.size ∧ c.data.toList = a.data.toList ++ b.data.toList :=
  ⟨a ++ b, fun W => run_string_add_sum W a b h, ByteArray.size_append, by simp⟩
theorem itoa_size {x : Int} (h : 0 ≤ x ∧ x ≤ 1073741824) : (⟨(Lib.itoa x).toArray⟩ : ByteArray).size ≤ 10 := by
  rw [str_size]; exact itoa_len h.1 h.2
theorem take_edR {rs : List R4} {j : Nat} {r : R4} (h : rs[j]? = some r) : (rs.take (j + 1)).map edR = (rs.take j).map edR ++ [edR r] := by
  rw [List.take_add_one, h, List.map_append]; rfl
set_option maxRecDepth 100000 in
set_option maxHeartbeats 4000000 in
theorem back_law (v : Value) (rs : List R4) (w : World) (h : ListAt w R4.cells 4 v rs) (hok : ∀ r ∈ rs, r.ok) (ht : TalAt w) :
    Calls Tryd.prog 4 #[v] w fun e w' => e = .returned (.bool true) ∧ Below w.heap.size w w' := by
  obtain ⟨aa, cp, rfl, hlen⟩ := h.form
  have HL : Hid (ListAt w R4.cells 4 (.slice aa rs.length cp) rs) := h
  have HK : Hid (∀ r ∈ rs, r.ok) := hok
  have HT : Hid (∀ W, Below w.heap.size w W → TalAt W) := fun W hb => ht.stays (Nat.le_refl _) hb
  unfold maxLen at hlen
  clear h hok ht
  go_enter Tryd.func4, Tryd.ntmps4
  go_wp2_with fail
  go_loopw [3, 4, 5] (fun sv lv iv wr => ∃ (t : ByteArray) (j : Nat), sv = .string t ∧ iv = .int .i64 (j : Int) ∧ j ≤ rs.length ∧ j ≤ 60 ∧ t.size ≤ 33 * j ∧ (∃ a c, lv = .slice a j c) ∧ Hid (t.data.toList = textT ((rs.take j).map edR)) ∧
    Hid (wr.ownsRow w.heap.size 33 3 lv ((rs.take j).map edR).length (flat Ed.cells ((rs.take j).map edR))) ∧ Hid (Below w.heap.size w wr)) (fun _ _ iv _ => (60 - intOf iv).toNat)
  case atStart => exact ⟨⟨#[]⟩, 0, rfl, rfl, by omega, by omega, by decide, ⟨none, 0, rfl⟩, rfl, World.ownsRow_nil _ _ _ _, Below.refl _ _⟩
  case round =>
    obtain ⟨t, j, rfl, rfl, j1, j2, ht, ⟨aL, cL, rfl⟩, hx, ho, hb⟩ := hrel
    have hz := hb.out.size
    by_cases hj : j < rs.length ∧ j < 60
    · obtain ⟨hj, h60⟩ := hj
      obtain ⟨y, hy⟩ : ∃ y, rs[j]? = some y := ⟨_, List.getElem?_eq_getElem (by omega)⟩
      obtain ⟨bb, oo, cap, hv, c1, c2, c3, c4⟩ := HL.out.resolve_left (by rintro ⟨_, _, _, h⟩; subst h; simp at hj)
      cases hv
      have d1 : wr.cell? ⟨bb, oo + j * 4 + 1, none⟩ = some (.int .i64 y.a) := (hb.out.cell (p := ⟨bb, _, none⟩) c3).trans (c4 j y hy 1 _ rfl)
      have d2 : wr.cell? ⟨bb, oo + j * 4 + 2, none⟩ = some (.int .i64 y.b) := (hb.out.cell (p := ⟨bb, _, none⟩) c3).trans (c4 j y hy 2 _ rfl)
      have d3 : wr.cell? ⟨bb, oo + j * 4 + 3, none⟩ = some (.int .i64 y.c) := (hb.out.cell (p := ⟨bb, _, none⟩) c3).trans (c4 j y hy 3 _ rfl)
      have hbb : Hid (bb < wr.heap.size) := by show _ < _; omega
      have hyk := HK.out y (List.mem_of_getElem? hy)
      have b1 : i64 y.a := hyk.2.1
      have b2 : i64 y.b := hyk.2.2.1
      have b3 : i64 y.c := hyk.2.2.2
      have PK : ∀ (x m : Int), 0 < m → i64 x → ∀ W, Calls Tryd.prog 8 #[.int .i64 x, .int .i64 m] W fun e w' => e = .returned (.int .i64 (tpk x m)) ∧ w' = W := fun x m hm hx W => tpicked_any x m W hm hx.1 hx.2
      have hm := edR_may y
      have HS : Hid ((rs.take (j + 1)).map edR = (rs.take j).map edR ++ [(⟨tpk y.a 3000, tpk y.b 3000, tpk y.c 100000⟩ : Ed)]) := take_edR hy
      have HJL : Hid (((rs.take j).map edR).length = j) := by show _ = _; rw [List.length_map, List.length_take]; omega
      clear c4 hyk hy
      unfold edR at hm
      unfold Ed.may at hm
      simp only at hm
      have HM : Hid ((0 ≤ tpk y.a 3000 ∧ tpk y.a 3000 ≤ 1073741824) ∧ (0 ≤ tpk y.b 3000 ∧ tpk y.b 3000 ≤ 1073741824) ∧ 0 ≤ tpk y.c 100000 ∧ tpk y.c 100000 ≤ 1073741824) := hm
      have HJ : Hid (j ≤ rs.length ∧ j ≤ 60 ∧ t.size ≤ 33 * j ∧ w.heap.size ≤ wr.heap.size ∧ j < 60 ∧ j < rs.length) := ⟨j1, j2, ht, hz, h60, hj⟩
      clear hm j1 j2 ht hz
      have hj' : (j : Int) < (rs.length : Int) := by omega
      have h60' : (j : Int) < 60 := by omega
      have xa1 : ∀ o, (wr.alloc o).cell? ⟨bb, oo + j * 4 + 1, none⟩ = some (.int .i64 y.a) := fun o => (World.cell?_alloc_past _ _ _ hbb.out).trans d1
      have xa2 : ∀ o, (wr.alloc o).cell? ⟨bb, oo + j * 4 + 2, none⟩ = some (.int .i64 y.b) := fun o => (World.cell?_alloc_past _ _ _ hbb.out).trans d2
      have xa3 : ∀ o, (wr.alloc o).cell? ⟨bb, oo + j * 4 + 3, none⟩ = some (.int .i64 y.c) := fun o => (World.cell?_alloc_past _ _ _ hbb.out).trans d3
      go_upto_region 6 with fail
      go_cut [6] (fun p wc => ∃ gb, p = .pointer (some ⟨gb, 0, none⟩) ∧ wr.heap.size ≤ gb ∧ Hid (wc.heap[gb]? = some (.cells #[.int .i64 (tpk y.a 3000), .int .i64 (tpk y.b 3000), .int .i64 (tpk y.c 100000)] 33)) ∧ Hid (Below wr.heap.size wr wc))
      case first =>
        go_region_held3 (fun w' => w'.cell? ⟨bb, oo + j * 4 + 1, none⟩ = some (.int .i64 y.a) ∧ w'.cell? ⟨bb, oo + j * 4 + 2, none⟩ = some (.int .i64 y.b) ∧ w'.cell? ⟨bb, oo + j * 4 + 3, none⟩ = some (.int .i64 y.c)) (first | exact ⟨d1, d2, d3⟩ | assumption | exact ⟨xa1 _, xa2 _, xa3 _⟩) (first
          | (go_at_call 8; refine (PK _ _ (by decide) (by first | exact b1 | exact b2 | exact b3) _).mono ?_; rintro e w1 ⟨rfl, hw1⟩; obtain rfl := hw1.symm))
        all_goals (try go_wp2)
        all_goals go_meet
        all_goals refine ⟨wr.heap.size, rfl, Nat.le_refl _, ?_, ((Below.refl _ _).alloc (Nat.le_refl _) _).drew⟩
        all_goals (show (wr.heap.push _)[wr.heap.size]? = _; simp)
      case rest =>
        obtain ⟨gb, rfl, hgb, HX, hbc⟩ := hcut
        clear xa1 xa2 xa3 d1 d2 d3 PK b1 b2 b3
        generalize tpk y.a 3000 = F at *
        generalize tpk y.b 3000 = T at *
        generalize tpk y.c 100000 = C at *
        obtain ⟨j1, j2, ht, hz, h60, hj⟩ := HJ.out
        have HX0 : Hid _ := HX.out
        have y0 : wc.cell? ⟨gb, 0, none⟩ = some (.int .i64 F) := by simp only [World.cell?, HX0.out]; rfl
        have y1 : wc.cell? ⟨gb, 1, none⟩ = some (.int .i64 T) := by simp only [World.cell?, HX0.out]; rfl
        have y2 : wc.cell? ⟨gb, 2, none⟩ = some (.int .i64 C) := by simp only [World.cell?, HX0.out]; rfl
        have hgl : gb < wc.heap.size := (Array.getElem?_eq_some_iff.1 HX0.out).1
        have hzc : wr.heap.size ≤ wc.heap.size := hbc.out.size
        obtain ⟨a7, c7, W7, hr7, ho7, hb7, hs7, hk7⟩ := app_ed2 ho.out hb.out.size (by rw [HJL.out]; omega) ⟨F, T, C⟩ _ (hbc.out.alloc hzc (.cells #[.int .i64 F, .int .i64 T, .int .i64 C] 33)) wc.heap.size (fun j u hj => by
          rw [World.cell?_alloc_new]
          simpa [Ed.cells] using hj)
        rw [HJL.out] at hr7 ho7
        have HX7 : Hid (W7.heap[gb]? = some (.cells #[.int .i64 F, .int .i64 T, .int .i64 C] 33)) := by
          show _ = _
          rw [hk7 gb hgb (by simp; omega)]
          show (wc.heap.push _)[gb]? = _
          rw [Array.getElem?_push, if_neg (by omega)]
          exact HX0.out
        have z0 : W7.cell? ⟨gb, 0, none⟩ = some (.int .i64 F) := by simp only [World.cell?, HX7.out]; rfl
        have z1 : W7.cell? ⟨gb, 1, none⟩ = some (.int .i64 T) := by simp only [World.cell?, HX7.out]; rfl
        have z2 : W7.cell? ⟨gb, 2, none⟩ = some (.int .i64 C) := by simp only [World.cell?, HX7.out]; rfl
        have hgw : gb < W7.heap.size := (Array.getElem?_eq_some_iff.1 HX7.out).1
        have HB7 : Hid (Below w.heap.size w W7) := hb.out.trans hb7
        have HO7 : Hid _ := ho7
        have HR7 : Hid _ := hr7
        have IC : ∀ (x : Int), 0 ≤ x ∧ x ≤ 1073741824 → ∀ W, (W.cell? ⟨gb, 0, none⟩ = some (.int .i64 F) ∧ W.cell? ⟨gb, 1, none⟩ = some (.int .i64 T) ∧ W.cell? ⟨gb, 2, none⟩ = some (.int .i64 C) ∧ Hid (Below W7.heap.size W7 W)) →
            Calls Tryd.prog 9 #[.int .i64 x] W fun e w' => e = .returned (.string ⟨(Lib.itoa x).toArray⟩) ∧ (w'.cell? ⟨gb, 0, none⟩ = some (.int .i64 F) ∧ w'.cell? ⟨gb, 1, none⟩ = some (.int .i64 T) ∧ w'.cell? ⟨gb, 2, none⟩ = some (.int .i64 C) ∧ Hid (Below W7.heap.size W7 w')) := fun x hx W hW =>
          (sh_strconv_Itoa x (by omega) (by omega) W (HT.out W (HB7.out.trans (hW.2.2.2.out.mono HB7.out.size))).p10).mono fun e w' ⟨h1, k, os, h2⟩ => by
            have hbw : Below W.heap.size W w' := by rw [h2]; exact Lib.below_grow _ _ (Nat.le_refl _) k os
            have hlt : gb < W.heap.size := Nat.lt_of_lt_of_le hgw hW.2.2.2.out.size
            exact ⟨h1, (hbw.cell (p := ⟨gb, 0, none⟩) hlt).trans hW.1, (hbw.cell (p := ⟨gb, 1, none⟩) hlt).trans hW.2.1, (hbw.cell (p := ⟨gb, 2, none⟩) hlt).trans hW.2.2.1, hW.2.2.2.out.trans (hbw.mono hW.2.2.2.out.size)⟩
        have i0 := HM.out.1
        have i1 := HM.out.2.1
        have i2 := HM.out.2.2
        have HJ2 : Hid (j ≤ rs.length ∧ j ≤ 60 ∧ t.size ≤ 33 * j ∧ w.heap.size ≤ wr.heap.size ∧ j < 60 ∧ j < rs.length) := ⟨j1, j2, ht, hz, h60, hj⟩
        clear hr7 ho7 hb7 hk7 HX HJ HM j1 j2 ht hz h60 hj
        go_wp2_with (first | (at_builtin; refine wpList_append_pair _ rfl (.tmp 38) (.tmp 40) 22 22 rfl _ _ rfl rfl HR7.out ?_))
        clear y0 y1 y2 hgl hzc hs7
        have g0 := itoa_size i0
        have g1 := itoa_size i1
        have g2 := itoa_size i2
        have gt : t.size ≤ 1980 := by have := HJ2.out; omega
        have n1 : (⟨#[32]⟩ : ByteArray).size = 1 := rfl
        have n2 : (⟨#[10]⟩ : ByteArray).size = 1 := rfl
        obtain ⟨s1, A1, l1, q1⟩ := add_str ⟨(Lib.itoa F).toArray⟩ ⟨#[32]⟩ (by omega)
        obtain ⟨s2, A2, l2, q2⟩ := add_str s1 ⟨(Lib.itoa T).toArray⟩ (by omega)
        obtain ⟨s3, A3, l3, q3⟩ := add_str s2 ⟨#[32]⟩ (by omega)
        obtain ⟨s4, A4, l4, q4⟩ := add_str s3 ⟨(Lib.itoa C).toArray⟩ (by omega)
        obtain ⟨s5, A5, l5, q5⟩ := add_str s4 ⟨#[10]⟩ (by omega)
        obtain ⟨s6, A6, l6, q6⟩ := add_str t s5 (by omega)
        have HQ : Hid (s6.data.toList = t.data.toList ++ (lineT ⟨F, T, C⟩ ++ [10])) := by
          show _ = _
          rw [q6, q5, q4, q3, q2, q1]
          simp [lineT]
        have HZ : Hid (s6.size ≤ 33 * (j + 1)) := by
          show _ ≤ _
          have := HJ2.out
          omega
        clear n1 n2 l1 l2 l3 l4 l5 l6 q1 q2 q3 q4 q5 q6 g0 g1 g2 gt
        go_region_held3 (fun w' => w'.cell? ⟨gb, 0, none⟩ = some (.int .i64 F) ∧ w'.cell? ⟨gb, 1, none⟩ = some (.int .i64 T) ∧ w'.cell? ⟨gb, 2, none⟩ = some (.int .i64 C) ∧ Hid (Below W7.heap.size W7 w')) (first | exact ⟨z0, z1, z2, Below.refl _ _⟩ | exact ⟨z0, z1, z2, (Below.refl _ _).drew⟩ | assumption) (first
          | (go_at_call 9; refine (IC _ (by first | exact i0 | exact i1 | exact i2) _ (by first | assumption | exact ⟨by assumption, by assumption, by assumption, by assumption⟩)).mono ?_; rintro e w1 ⟨rfl, hw1⟩))
        go_wp2_with fail
        go_roundw
        case rel =>
          have hb9 : Below W7.heap.size W7 w1 := by first | exact hw1.2.2.2.out | assumption
          have ho9 := row_up HO7.out hb9
          obtain ⟨j1, j2, ht, hz, h60, hj⟩ := HJ2.out
          refine ⟨s6, j + 1, rfl, by go_num, by omega, by omega, HZ.out, ⟨a7, c7, rfl⟩, ?_, ?_, HB7.out.trans (hb9.mono HB7.out.size)⟩
          · show _ = _
            rw [HQ.out, HS.out, text_snoc, hx.out]
          · show World.ownsRow _ _ _ _ _ _ _
            rw [HS.out]
            exact ho9
        case measure => first | (simp [intOf]; done) | (have := HJ2.out; simp [intOf]; omega)
    · have hjn : ¬ ((j : Int) < (rs.length : Int) ∧ (j : Int) < 60) := by omega
      have HE : Hid (tallyN t.data.toList = (0, (rs.take j).map edR)) := by
        show _ = _
        rw [hx.out]
        refine tally_text _ (fun e he => ?_) (by rw [List.length_map, List.length_take]; omega)
        obtain ⟨r, _, rfl⟩ := List.mem_map.1 he
        exact edR_may r
      have RD := read_any t wr (HT.out wr hb.out) (by unfold maxLen; omega)
      rw [HE.out] at RD
      have HL2 : Hid (ListAt wr Ed.cells 3 (.slice aL j cL) ((rs.take j).map edR)) := row_list ecell_len ho.out
      generalize (rs.take j).map edR = es at *
      clear HE
      have hend : Calls Tryd.prog 5 #[.string t] wr fun e w' => ∃ v, e = .returned (.tuple #[v, .int .i64 0]) ∧ ListAt w' Ed.cells 3 v es ∧ Below wr.heap.size wr w' := RD.mono fun e w' ⟨v, h1, h2, h3⟩ => ⟨v, h1, row_list ecell_len h2, h3⟩
      clear RD
      by_cases hj : (j : Int) < (rs.length : Int)
      · have h60 : ¬ ((j : Int) < 60) := by omega
        go_wp2_with fail
        refine Calls.mono hend ?_
        rintro e w2 ⟨v2, rfl, hl2, hb2⟩
        have HL3 : Hid (ListAt w2 Ed.cells 3 (.slice aL j cL) es) := ListAt.stays HL2.out (Nat.le_refl _) hb2
        have HL4 : Hid _ := hl2
        have HB2 : Hid (Below w.heap.size w w2) := hb.out.trans (hb2.mono hz)
        clear hl2 hb2
        go_wp2_with fail
        refine Calls.mono (eqed_any _ _ es w2 HL4.out HL3.out) ?_
        rintro e w4 ⟨rfl, m, rfl⟩
        go_wp2_with fail
        go_ret
        exact ⟨rfl, HB2.out.trans (below_drewN (Below.refl _ _) m)⟩
      · go_wp2_with fail
        refine Calls.mono hend ?_
        rintro e w2 ⟨v2, rfl, hl2, hb2⟩
        have HL3 : Hid (ListAt w2 Ed.cells 3 (.slice aL j cL) es) := ListAt.stays HL2.out (Nat.le_refl _) hb2
        have HL4 : Hid _ := hl2
        have HB2 : Hid (Below w.heap.size w w2) := hb.out.trans (hb2.mono hz)
        clear hl2 hb2
        go_wp2_with fail
        refine Calls.mono (eqed_any _ _ es w2 HL4.out HL3.out) ?_
        rintro e w4 ⟨rfl, m, rfl⟩
        go_wp2_with fail
        go_ret
        exact ⟨rfl, HB2.out.trans (below_drewN (Below.refl _ _) m)⟩
end Go.Proofs.YtjcackcimofcmaaDoor
