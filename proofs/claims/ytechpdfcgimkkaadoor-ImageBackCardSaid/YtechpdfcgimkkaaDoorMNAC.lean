/-
  image.copyOf at its four types, and image.Copy: the same image, in memory of its own.
-/
import Derived.Test.YtechpdfcgimkkaaDoorMCC
import Derived.Deep.RegionHeld3
import Derived.Test.YtechpdfcgimkkaaDoorMVC
namespace Go.Proofs.YtechpdfcgimkkaaDoor
open Go.RowKit Go.Joins
set_option maxRecDepth 100000
theorem copyByte_any (v : Value) (xs : List Int) (w : World) (h : ListAt w ucell 1 v xs) (hb : 1 * xs.length ≤ 281474976710656) :
    Calls Tryd.prog 52 #[v] w fun e w' => e = .returned (.slice (some ⟨w.heap.size, 0, none⟩) xs.length xs.length) ∧ w' = w.alloc (.cells (flat ucell xs).toArray 5) := by
  obtain ⟨W, h1, h2⟩ := copied w ucell 1 1 v _ xs 23 5 3 h (by decide) ucell_len ucell_one Tryd.underlying23 inByte hb
  obtain ⟨a, cap, rfl, hm⟩ := h.form
  have H1 : Hid _ := h1
  have H2 : Hid _ := h2
  unfold maxLen at hm
  clear h1 h2 h
  go_enter Tryd.func52, Tryd.ntmps52
  go_wp2_with (first
    | (at_make; refine wpList_make_run _ rfl (.tmp 5) (.tmp 5) 23 rfl _ _ rfl rfl H1.out ?_)
    | (refine wpList_copy_run _ rfl (.tmp 7) (.tmp 8) 23 23 rfl _ _ rfl rfl H2.out ?_))
  go_ret
  exact ⟨rfl, rfl⟩
theorem copyInt_any (v : Value) (xs : List Int) (w : World) (h : ListAt w icell 1 v xs) (hb : 8 * xs.length ≤ 281474976710656) :
    Calls Tryd.prog 51 #[v] w fun e w' => e = .returned (.slice (some ⟨w.heap.size, 0, none⟩) xs.length xs.length) ∧ w' = w.alloc (.cells (flat icell xs).toArray 3) := by
  obtain ⟨W, h1, h2⟩ := copied w icell 1 8 v _ xs 26 3 3 h (by decide) icell_len icell_one Tryd.underlying26 inInt hb
  obtain ⟨a, cap, rfl, hm⟩ := h.form
  have H1 : Hid _ := h1
  have H2 : Hid _ := h2
  unfold maxLen at hm
  clear h1 h2 h
  go_enter Tryd.func51, Tryd.ntmps51
  go_wp2_with (first
    | (at_make; refine wpList_make_run _ rfl (.tmp 5) (.tmp 5) 26 rfl _ _ rfl rfl H1.out ?_)
    | (refine wpList_copy_run _ rfl (.tmp 7) (.tmp 8) 26 26 rfl _ _ rfl rfl H2.out ?_))
  go_ret
  exact ⟨rfl, rfl⟩
theorem copyFn_any (v : Value) (xs : List Fn) (w : World) (h : ListAt w Fn.cells 3 v xs) (hb : 32 * xs.length ≤ 281474976710656) :
    Calls Tryd.prog 53 #[v] w fun e w' => e = .returned (.slice (some ⟨w.heap.size, 0, none⟩) xs.length xs.length) ∧ w' = w.alloc (.cells (flat Fn.cells xs).toArray 47) := by
  obtain ⟨W, h1, h2⟩ := copied w Fn.cells 3 32 v _ xs 24 47 3 h (by decide) fcell_len fcell_one Tryd.underlying24 inFn hb
  obtain ⟨a, cap, rfl, hm⟩ := h.form
  have H1 : Hid _ := h1
  have H2 : Hid _ := h2
  unfold maxLen at hm
  clear h1 h2 h
  go_enter Tryd.func53, Tryd.ntmps53
  go_wp2_with (first
    | (at_make; refine wpList_make_run _ rfl (.tmp 5) (.tmp 5) 24 rfl _ _ rfl rfl H1.out ?_)
    | (refine wpList_copy_run _ rfl (.tmp 7) (.tmp 8) 24 24 rfl _ _ rfl rfl H2.out ?_))
  go_ret
  exact ⟨rfl, rfl⟩
theorem copyLn_any (v : Value) (xs : List Ln) (w : World) (h : ListAt w Ln.cells 2 v xs) (hb : 16 * xs.length ≤ 281474976710656) :
    Calls Tryd.prog 54 #[v] w fun e w' => e = .returned (.slice (some ⟨w.heap.size, 0, none⟩) xs.length xs.length) ∧ w' = w.alloc (.cells (flat Ln.cells xs).toArray 43) := by
  obtain ⟨W, h1, h2⟩ := copied w Ln.cells 2 16 v _ xs 27 43 3 h (by decide) lcell_len lcell_one Tryd.underlying27 inLn hb
  obtain ⟨a, cap, rfl, hm⟩ := h.form
  have H1 : Hid _ := h1
  have H2 : Hid _ := h2
  unfold maxLen at hm
  clear h1 h2 h
  go_enter Tryd.func54, Tryd.ntmps54
  go_wp2_with (first
    | (at_make; refine wpList_make_run _ rfl (.tmp 5) (.tmp 5) 27 rfl _ _ rfl rfl H1.out ?_)
    | (refine wpList_copy_run _ rfl (.tmp 7) (.tmp 8) 27 27 rfl _ _ rfl rfl H2.out ?_))
  go_ret
  exact ⟨rfl, rfl⟩
/-- A table that the copy has made. -/
def Made (w : World) (B : Nat) (u : Value) (t : List Int) : Prop := ∃ bb, u = .slice (some ⟨bb, 0, none⟩) t.length t.length ∧ B ≤ bb ∧ w.heap[bb]? = some (.cells (flat icell t).toArray 3)
theorem Made.kept {w w' : World} {B : Nat} {u : Value} {t : List Int} (h : Made w B u t) (hk : ∀ k, B ≤ k → k < w.heap.size → w'.heap[k]? = w.heap[k]?) : Made w' B u t := by
  obtain ⟨bb, hu, hB, hc⟩ := h
  exact ⟨bb, hu, hB, (hk bb hB (Array.getElem?_eq_some_iff.1 hc).1).trans hc⟩
theorem Made.list {w : World} {B : Nat} {u : Value} {t : List Int} (h : Made w B u t) (hm : t.length ≤ maxLen) : ListAt w icell 1 u t := by
  obtain ⟨bb, rfl, _, hc⟩ := h
  refine Or.inr ⟨bb, 0, t.length, rfl, Nat.le_refl _, hm, (Array.getElem?_eq_some_iff.1 hc).1, fun j x hj o v hv => ?_⟩
  have ho : o = 0 := by
    rcases Nat.lt_or_ge o 1 with q | q
    · omega
    · rw [List.getElem?_eq_none (by rw [icell_len]; exact q)] at hv; cases hv
  subst ho
  simp only [World.cell?, hc, List.getElem?_toArray]
  rw [Nat.zero_add, flat_at icell_len t j x hj 0 (by decide)]
  exact hv
end Go.Proofs.YtechpdfcgimkkaaDoor
/-
  What the form's bound on data says of an image's parts.
-/
namespace Go.Proofs.YtechpdfcgimkkaaDoor
structure Img.small (m : Img) : Prop where
  text : m.text.length ≤ 140737488351232
  funcs : 32 * m.funcs.length ≤ 140737488351232
  tables : 24 * m.tables.length ≤ 140737488351232
  table : ∀ t ∈ m.tables, 8 * t.length ≤ 140737488351232
  data : 8 * m.data.length ≤ 140737488351232
  lines : 16 * m.lines.length ≤ 140737488351232
end Go.Proofs.YtechpdfcgimkkaaDoor
/-
  image.Copy: the same image, in memory of its own.
-/
namespace Go.Proofs.YtechpdfcgimkkaaDoor
open Go.RowKit Go.Joins
set_option maxRecDepth 100000
theorem belc2 {B : Nat} {W w1 : World} (hb : Below B W w1) : ∀ b o, b < B → w1.cell? ⟨b, o, none⟩ = W.cell? ⟨b, o, none⟩ := fun b o h => hb.cell (p := ⟨b, o, none⟩) h
def nilV : Value := .slice none 0 0
theorem rep_set (us : List Value) (k n : Nat) (u : Value) (hk : us.length = k) (hn : k < n) : (us ++ List.replicate (n - k) nilV).toArray.setIfInBounds k u = (us ++ [u] ++ List.replicate (n - (k + 1)) nilV).toArray := by
  subst hk
  apply Array.toList_inj.1
  rw [Array.toList_setIfInBounds]
  show (us ++ List.replicate (n - us.length) nilV).set us.length u = _
  rw [List.set_append_right _ _ (Nat.le_refl _), Nat.sub_self, show n - us.length = (n - (us.length + 1)) + 1 by omega, List.replicate_succ]
  simp
theorem made_nil (n : Nat) : madeCells nilV.cells n = (List.replicate n nilV).toArray := by
  apply Array.ext
  · simp [madeCells]
  · intro i h1 h2
    simp [madeCells, nilV, Value.cells, Nat.mod_one]
/-- An image in rows of the call's own. -/
structure RowsAt (W : World) (B : Nat) (vT vF vB vD vL : Value) (m : Img) : Prop where
  text : W.ownsRow B 5 1 vT m.text.length (flat ucell m.text)
  funcs : W.ownsRow B 47 3 vF m.funcs.length (flat Fn.cells m.funcs)
  tables : ∃ us : List Value, W.ownsRow B 26 1 vB us.length (flat vcell us) ∧ us.length = m.tables.length ∧ ∀ (j : Nat) (u : Value) (t : List Int), us[j]? = some u → m.tables[j]? = some t → W.ownsRow B 3 1 u t.length (flat icell t)
  data : W.ownsRow B 3 1 vD m.data.length (flat icell m.data)
  lines : W.ownsRow B 43 2 vL m.lines.length (flat Ln.cells m.lines)
theorem RowsAt.at {W : World} {B : Nat} {vT vF vB vD vL : Value} {m : Img} (h : RowsAt W B vT vF vB vD vL m) : ImgAt W vT vF vB vD vL m := by
  obtain ⟨us, h1, h2, h3⟩ := h.tables
  exact ⟨row_list ucell_len h.text, row_list fcell_len h.funcs, ⟨us, row_list vcell_len h1, h2, fun j u t a b => row_list icell_len (h3 j u t a b)⟩, row_list icell_len h.data, row_list lcell_len h.lines⟩
theorem flat_v (us : List Value) : flat vcell us = us := by
  induction us with
  | nil => rfl
  | cons u r ih => show vcell u ++ flat vcell r = _; rw [ih]; rfl
theorem Made.row {w : World} {B : Nat} {u : Value} {t : List Int} (h : Made w B u t) (hm : t.length ≤ maxLen) : w.ownsRow B 3 1 u t.length (flat icell t) := by
  obtain ⟨bb, rfl, hB, hc⟩ := h
  have hl := flat_len icell_len t
  exact ⟨hl, Or.inr ⟨bb, t.length, _, rfl, hB, hc, Nat.le_refl _, hm, by simp [hl], by simp [← hl]⟩⟩
theorem copy_end (m : Img) (W : World) (g B : Nat) (us : List Value) (hBg : B ≤ g) (h1 : us.length = m.tables.length) (h2 : W.heap[g]? = some (.cells us.toArray 26)) (h3 : ∀ (j : Nat) (u : Value) (t : List Int), us[j]? = some u → m.tables[j]? = some t → Made W (g + 1) u t) (hs : m.small) :
    RowsAt (((((W.alloc (.cells (flat ucell m.text).toArray 5)).alloc (.cells (flat Fn.cells m.funcs).toArray 47)).alloc (.cells (flat icell m.data).toArray 3)).alloc (.cells (flat Ln.cells m.lines).toArray 43)).drew) B
      (.slice (some ⟨W.heap.size, 0, none⟩) m.text.length m.text.length) (.slice (some ⟨W.heap.size + 1, 0, none⟩) m.funcs.length m.funcs.length) (.slice (some ⟨g, 0, none⟩) m.tables.length m.tables.length)
      (.slice (some ⟨W.heap.size + 1 + 1, 0, none⟩) m.data.length m.data.length) (.slice (some ⟨W.heap.size + 1 + 1 + 1, 0, none⟩) m.lines.length m.lines.length) m := by
  obtain ⟨k0, k1, k2, k3, k4, k5⟩ := hs
  obtain ⟨WT, hT⟩ : ∃ x, W.alloc (.cells (flat ucell m.text).toArray 5) = x := ⟨_, rfl⟩
  obtain ⟨WF, hF⟩ : ∃ x, WT.alloc (.cells (flat Fn.cells m.funcs).toArray 47) = x := ⟨_, rfl⟩
  obtain ⟨WD, hD⟩ : ∃ x, WF.alloc (.cells (flat icell m.data).toArray 3) = x := ⟨_, rfl⟩
  obtain ⟨WL, hL⟩ : ∃ x, WD.alloc (.cells (flat Ln.cells m.lines).toArray 43) = x := ⟨_, rfl⟩
  have zT : WT.heap.size = W.heap.size + 1 := by rw [← hT]; simp
  have zF : WF.heap.size = WT.heap.size + 1 := by rw [← hF]; simp
  have zD : WD.heap.size = WF.heap.size + 1 := by rw [← hD]; simp
  have bT : Below W.heap.size W WT := by rw [← hT]; exact (Below.refl _ _).alloc (Nat.le_refl _) _
  have bF : Below WT.heap.size WT WF := by rw [← hF]; exact (Below.refl _ _).alloc (Nat.le_refl _) _
  have bD : Below WF.heap.size WF WD := by rw [← hD]; exact (Below.refl _ _).alloc (Nat.le_refl _) _
  have bL : Below WD.heap.size WD WL.drew := by rw [← hL]; exact ((Below.refl _ _).alloc (Nat.le_refl _) _).drew
  have bF2 : Below WF.heap.size WF WL.drew := bD.trans (bL.mono (by omega))
  have bT2 : Below WT.heap.size WT WL.drew := bF.trans (bF2.mono (by omega))
  have bW2 : Below W.heap.size W WL.drew := bT.trans (bT2.mono (by omega))
  rw [hT, hF, hD, hL]
  have hg : g < W.heap.size := (Array.getElem?_eq_some_iff.1 h2).1
  have lT : WT.ownsRow B 5 1 (.slice (some ⟨W.heap.size, 0, none⟩) m.text.length m.text.length) m.text.length (flat ucell m.text) := by
    rw [← hT]; exact row_lit W B 1 _ _ _ _ _ rfl (by omega) rfl (flat_len ucell_len _) (by unfold maxLen; omega)
  have lF : WF.ownsRow B 47 3 (.slice (some ⟨WT.heap.size, 0, none⟩) m.funcs.length m.funcs.length) m.funcs.length (flat Fn.cells m.funcs) := by
    rw [← hF]; exact row_lit WT B 3 _ _ _ _ _ rfl (by omega) rfl (flat_len fcell_len _) (by unfold maxLen; omega)
  have lD : WD.ownsRow B 3 1 (.slice (some ⟨WF.heap.size, 0, none⟩) m.data.length m.data.length) m.data.length (flat icell m.data) := by
    rw [← hD]; exact row_lit WF B 1 _ _ _ _ _ rfl (by omega) rfl (flat_len icell_len _) (by unfold maxLen; omega)
  have lL : WL.ownsRow B 43 2 (.slice (some ⟨WD.heap.size, 0, none⟩) m.lines.length m.lines.length) m.lines.length (flat Ln.cells m.lines) := by
    rw [← hL]; exact row_lit WD B 2 _ _ _ _ _ rfl (by omega) rfl (flat_len lcell_len _) (by unfold maxLen; omega)
  have lL2 := row_up lL ((Below.refl _ _).drew)
  rw [zT] at lF
  rw [zF, zT] at lD
  rw [zD, zF, zT] at lL2
  refine ⟨row_up lT bT2, row_up lF bF2, ⟨us, ?_, h1, fun j u t hu ht => ?_⟩, row_up lD bL, lL2⟩
  · refine row_up ?_ bW2
    rw [← h1]
    refine ⟨by rw [flat_v, Nat.mul_one], Or.inr ⟨g, us.length, _, rfl, hBg, h2, Nat.le_refl _, by rw [h1]; unfold maxLen; omega, by simp, by rw [flat_v]; simp⟩⟩
  · have h8 := k3 t (List.mem_of_getElem? ht)
    obtain ⟨bb, rfl, hbb, hc⟩ := h3 j u t hu ht
    exact row_up (Made.row ⟨bb, rfl, by omega, hc⟩ (by unfold maxLen; omega)) bW2
set_option maxHeartbeats 4000000 in
theorem copy_rows (vT vF vB vD vL : Value) (m : Img) (w : World) (hI : ImgAt w vT vF vB vD vL m) (hs : m.small) :
    Calls Tryd.prog 23 #[.agg #[vT, vF, vB, vD, vL, .int .i64 m.entry]] w fun e w' => ∃ aT aF aB aD aL, e = .returned (.agg #[aT, aF, aB, aD, aL, .int .i64 m.entry]) ∧ RowsAt w' w.heap.size aT aF aB aD aL m ∧ Below w.heap.size w w' := by
  obtain ⟨vs, hB, hBl, hBe⟩ := hI.tables
  obtain ⟨tB, cB, rfl, lB⟩ := hB.form
  rw [hBl] at lB
  obtain ⟨i, hi, hz, hsz, hbs⟩ := info_of inInts
  have hmk := fun w => make_wide (P := Tryd.prog) 25 26 i _ Tryd.underlying25 hi hz m.tables.length (by rw [hbs]; have := hs.tables; omega) (by unfold maxLen at lB; omega) w
  rw [hsz, Nat.mul_one, show (Value.slice none 0 0) = nilV from rfl, made_nil] at hmk
  have HM : Hid _ := hmk
  have HI : Hid _ := hI
  have HS : Hid m.small := hs
  have HBa : Hid (ListAt w vcell 1 (.slice tB vs.length cB) vs) := hB
  have HBe : Hid _ := hBe
  have HBl : Hid (vs.length = m.tables.length) := hBl
  unfold maxLen at lB
  rw [hBl]
  clear hmk hI hs hB hBe hBl
  go_enter Tryd.func23, Tryd.ntmps23
  go_wp2_with (first | (at_make; refine wpList_make_run _ rfl (.tmp 8) (.tmp 8) 25 rfl _ _ rfl rfl (HM.out _) ?_))
  obtain ⟨W0, hW0⟩ : ∃ W0, (w.alloc (.cells #[vT, vF, .slice tB m.tables.length cB, vD, vL, .int .i64 m.entry] 29)).alloc (.cells #[.slice none 0 0, .slice none 0 0, .slice none 0 0, .slice none 0 0, .slice none 0 0, .int .i64 0] 29) = W0 := ⟨_, rfl⟩
  have hz0 : W0.heap.size = w.heap.size + 2 := by rw [← hW0]; simp
  have B0 : Below w.heap.size w W0 := by rw [← hW0]; exact ((Below.refl _ _).alloc (Nat.le_refl _) _).alloc (by simp) _
  have XA : ∀ o, o < 6 → W0.cell? ⟨w.heap.size, o, none⟩ = #[vT, vF, .slice tB m.tables.length cB, vD, vL, .int .i64 m.entry][o]? := fun o ho => by
    rw [← hW0]; refine (World.cell?_alloc_past _ _ _ (by simp)).trans (World.cell?_alloc_new _ _ _ _)
  have HX : Hid _ := XA
  have HB0 : Hid (Below w.heap.size w W0) := B0
  have HR0 : Hid (W0.heap[w.heap.size + 1]? = some (.cells #[.slice none 0 0, .slice none 0 0, .slice none 0 0, .slice none 0 0, .slice none 0 0, .int .i64 0] 29)) := by
    show _ = _; rw [← hW0]; show ((w.heap.push _).push _)[w.heap.size + 1]? = _; rw [show w.heap.size + 1 = (w.heap.push (.cells #[vT, vF, .slice tB m.tables.length cB, vD, vL, .int .i64 m.entry] 29)).size from (Array.size_push ..).symm]; exact Array.getElem?_push_size
  have HW0 : Hid _ := hW0
  clear XA B0 hW0
  go_loopw [13] (fun u wr => ∃ (k : Nat) (us : List Value), k ≤ m.tables.length ∧ u = .int .i64 (k : Int) ∧ Hid (us.length = k) ∧ Hid (wr.heap[w.heap.size + 2]? = some (.cells (us ++ List.replicate (m.tables.length - k) nilV).toArray 26)) ∧
    Hid (∀ (j : Nat) (u : Value) (t : List Int), us[j]? = some u → m.tables[j]? = some t → Made wr (w.heap.size + 3) u t) ∧ Hid (Below (w.heap.size + 2) W0 wr)) (fun u _ => (m.tables.length - intOf u).toNat)
  case atStart =>
    refine ⟨0, [], by omega, rfl, rfl, ?_, fun j u t h => by simp at h, ?_⟩
    · show _ = _; rw [HW0.out]; show (W0.heap.push _)[w.heap.size + 2]? = _; rw [← hz0]; simp
    · show Below _ _ _; rw [HW0.out]; exact (Below.refl _ _).alloc (by omega) _
  case round =>
    obtain ⟨k, us, k1, rfl, us1, us2, us3, bel⟩ := hrel
    have hlt : w.heap.size + 2 < wr.heap.size := (Array.getElem?_eq_some_iff.1 us2.out).1
    have Bw : Hid (Below w.heap.size w wr) := HB0.out.trans (bel.out.mono (by omega))
    by_cases hk : k < m.tables.length
    · obtain ⟨y, hy⟩ : ∃ y, vs[k]? = some y := ⟨_, List.getElem?_eq_getElem (by have := HBl.out; omega)⟩
      obtain ⟨t, ht⟩ : ∃ t, m.tables[k]? = some t := ⟨_, List.getElem?_eq_getElem (by omega)⟩
      obtain ⟨bb, oo, cap, hv, c1, c2, c3, c4⟩ := HBa.out.resolve_left (by rintro ⟨_, _, _, h⟩; have := HBl.out; rw [h] at this; simp at this; omega)
      rw [HBl.out] at hv
      cases hv
      have d0 := c4 k y hy 0 y rfl
      rw [Nat.mul_one, Nat.add_zero] at d0
      have d1 := (Bw.out.cell (p := ⟨bb, _, none⟩) c3).trans d0
      have HT : Hid (ListAt wr icell 1 y t) := (HBe.out k y t hy ht).stays (Nat.le_refl _) Bw.out
      have h8 : 8 * t.length ≤ 281474976710656 := by have := HS.out.table t (List.mem_of_getElem? ht); omega
      have hcell : wr.cell? ⟨w.heap.size + 2, k, none⟩ = some nilV := by
        have h0 : k - us.length = 0 := by rw [us1.out, Nat.sub_self]
        have h1 : 0 < m.tables.length - k := by omega
        simp only [World.cell?, us2.out, List.getElem?_toArray]
        rw [List.getElem?_append_right (Nat.le_of_eq us1.out), h0, List.getElem?_replicate, if_pos h1]
        rfl
      have hfr : wr.frozen? ⟨w.heap.size + 2, k, none⟩ = false := by simp [World.frozen?, us2.out]
      have hkk : (k : Int) < (m.tables.length : Int) := by omega
      have HTt : Hid _ := ht
      clear c4 d0 hy ht
      go_wp2_with (go_at_call 51; refine (copyInt_any y t wr HT.out h8).mono ?_; rintro e w1 ⟨rfl, hw1⟩; obtain rfl := hw1.symm)
      have hset := setCell_eq_setRow wr (w.heap.size + 1 + 1) k _ _ _ (.slice (some ⟨wr.heap.size, 0, none⟩) t.length t.length) us2.out
      rw [rep_set us k m.tables.length _ us1.out hk] at hset
      obtain ⟨W', hW'⟩ : ∃ W', wr.setRow (w.heap.size + 1 + 1) (us ++ [Value.slice (some ⟨wr.heap.size, 0, none⟩) t.length t.length] ++ List.replicate (m.tables.length - (k + 1)) nilV).toArray = W' := ⟨_, rfl⟩
      rw [hW'] at hset
      have g1 : Hid (W'.heap[w.heap.size + 2]? = some (.cells (us ++ [Value.slice (some ⟨wr.heap.size, 0, none⟩) t.length t.length] ++ List.replicate (m.tables.length - (k + 1)) nilV).toArray 26)) := by
        show _ = _; rw [← hW']; exact setRow_heap _ _ _ _ _ _ us2.out
      have g2 : Hid (∀ b, b ≠ w.heap.size + 2 → W'.heap[b]? = wr.heap[b]?) := fun b hb => by rw [← hW']; exact setRow_other _ _ _ _ hb
      have g3 : Hid (W'.heap.size = wr.heap.size) := by show _ = _; rw [← hW']; simp [World.setRow]
      have g4 : Hid (Below (w.heap.size + 2) W0 W') := by
        show Below _ _ _; rw [← hW']; exact bel.out.trans ⟨rfl, rfl, rfl, by simp [World.setRow], fun b hb => setRow_other _ _ _ _ (by omega)⟩
      rw [hset]
      clear hset hW' hcell hfr
      go_roundw
      case rel =>
        refine ⟨k + 1, us ++ [.slice (some ⟨wr.heap.size, 0, none⟩) t.length t.length], by omega, by go_num, by show _ = _; simp [us1.out], ?_, ?_, ?_⟩
        · show (W'.heap.push _)[w.heap.size + 2]? = _
          have hl2 : w.heap.size + 2 < W'.heap.size := by have := g3.out; omega
          rw [Array.getElem?_push_lt hl2, ← g1.out, Array.getElem?_eq_getElem hl2]
        · intro j u t' hu ht'
          rcases Nat.lt_or_ge j us.length with q | q
          · rw [List.getElem?_append_left q] at hu
            refine (us3.out j u t' hu ht').kept fun b h1 h2 => ?_
            show (W'.heap.push _)[b]? = _
            have h3 : b < W'.heap.size := by have := g3.out; omega
            rw [Array.getElem?_push_lt h3, ← Array.getElem?_eq_getElem h3]
            exact g2.out b (by omega)
          · have hj : j = k := by
              have := (List.getElem?_eq_some_iff.1 hu).1
              have h9 := us1.out
              simp at this; omega
            subst hj
            rw [List.getElem?_append_right q, us1.out, Nat.sub_self] at hu
            simp at hu
            subst hu
            obtain rfl := Option.some.inj (HTt.out.symm.trans ht')
            refine ⟨wr.heap.size, rfl, by omega, ?_⟩
            show (W'.heap.push _)[wr.heap.size]? = _
            rw [← g3.out]
            simp
        · exact g4.out.alloc (by have := g3.out; omega) _
      case measure => simp [intOf]; omega
    · have hkl : k = m.tables.length := by omega
      have hb := fun o ho => (belc2 bel.out w.heap.size o (by omega)).trans (HX.out o ho)
      have y0 := hb 0 (by omega); have y1 := hb 1 (by omega); have y3 := hb 3 (by omega); have y4 := hb 4 (by omega); have y5 := hb 5 (by omega)
      simp at y0 y1 y3 y4 y5
      have hr1 : wr.heap[w.heap.size + 1]? = some (.cells #[.slice none 0 0, .slice none 0 0, .slice none 0 0, .slice none 0 0, .slice none 0 0, .int .i64 0] 29) := (bel.out.block _ (by omega)).trans HR0.out
      have J0 : Hid (∀ w', Below wr.heap.size wr w' → ListAt w' ucell 1 vT m.text) := fun w' h => (HI.out.text.stays (Nat.le_refl _) Bw.out).stays (Nat.le_refl _) h
      have J1 : Hid (∀ w', Below wr.heap.size wr w' → ListAt w' Fn.cells 3 vF m.funcs) := fun w' h => (HI.out.funcs.stays (Nat.le_refl _) Bw.out).stays (Nat.le_refl _) h
      have J3 : Hid (∀ w', Below wr.heap.size wr w' → ListAt w' icell 1 vD m.data) := fun w' h => (HI.out.data.stays (Nat.le_refl _) Bw.out).stays (Nat.le_refl _) h
      have J4 : Hid (∀ w', Below wr.heap.size wr w' → ListAt w' Ln.cells 2 vL m.lines) := fun w' h => (HI.out.lines.stays (Nat.le_refl _) Bw.out).stays (Nat.le_refl _) h
      have hc1 : ∀ o, o < 6 → wr.cell? ⟨w.heap.size + 1, o, none⟩ = #[.slice none 0 0, .slice none 0 0, .slice none 0 0, .slice none 0 0, .slice none 0 0, .int .i64 0][o]? := fun o ho => by simp only [World.cell?, hr1]; rfl
      have r0 := hc1 0 (by omega); have r1 := hc1 1 (by omega); have r2 := hc1 2 (by omega); have r3 := hc1 3 (by omega); have r4 := hc1 4 (by omega); have r5 := hc1 5 (by omega)
      simp at r0 r1 r2 r3 r4 r5
      have hf1 : ∀ o, wr.frozen? ⟨w.heap.size + 1, o, none⟩ = false := fun o => by simp [World.frozen?, hr1]
      have s0 := hf1 0; have s1 := hf1 1; have s2 := hf1 2; have s3 := hf1 3; have s4 := hf1 4; have s5 := hf1 5
      have z1 : w.heap.size < wr.heap.size := by omega
      have z2 : w.heap.size + 1 < wr.heap.size := by omega
      have n0 : 1 * m.text.length ≤ 281474976710656 := by have := HS.out.text; omega
      have n1 : 32 * m.funcs.length ≤ 281474976710656 := by have := HS.out.funcs; omega
      have n3 : 8 * m.data.length ≤ 281474976710656 := by have := HS.out.data; omega
      have n4 : 16 * m.lines.length ≤ 281474976710656 := by have := HS.out.lines; omega
      have HBel : Hid _ := bel
      have KS : Hid (∀ w', Below wr.heap.size wr w' → w'.cell? ⟨w.heap.size, 0, none⟩ = some vT ∧ w'.cell? ⟨w.heap.size, 1, none⟩ = some vF ∧ w'.cell? ⟨w.heap.size, 3, none⟩ = some vD ∧ w'.cell? ⟨w.heap.size, 4, none⟩ = some vL ∧ w'.cell? ⟨w.heap.size, 5, none⟩ = some (.int .i64 m.entry)) :=
        fun w' h => ⟨(belc2 h _ _ z1).trans y0, (belc2 h _ _ z1).trans y1, (belc2 h _ _ z1).trans y3, (belc2 h _ _ z1).trans y4, (belc2 h _ _ z1).trans y5⟩
      have z3 : w.heap.size < wr.heap.size + 1 := by omega
      have z4 : w.heap.size < wr.heap.size + 1 + 1 := by omega
      have z5 : w.heap.size < wr.heap.size + 1 + 1 + 1 := by omega
      have z6 : w.heap.size + 1 < wr.heap.size + 1 := by omega
      have z7 : w.heap.size + 1 < wr.heap.size + 1 + 1 := by omega
      have z8 : w.heap.size + 1 < wr.heap.size + 1 + 1 + 1 := by omega
      have z9 : w.heap.size + 1 < wr.heap.size + 1 + 1 + 1 + 1 := by omega
      clear hb hc1 hf1 hr1 bel
      go_wp2_with fail
      go_region_held3 (fun w' => w'.cell? ⟨w.heap.size, 0, none⟩ = some vT ∧ w'.cell? ⟨w.heap.size, 1, none⟩ = some vF ∧ w'.cell? ⟨w.heap.size, 3, none⟩ = some vD ∧ w'.cell? ⟨w.heap.size, 4, none⟩ = some vL ∧ w'.cell? ⟨w.heap.size, 5, none⟩ = some (.int .i64 m.entry)) (first | (simp [go_sem, *]; done) | (exact KS.out _ (by go_grown)))
        (first
          | (go_at_call 52; refine (copyByte_any _ m.text _ (J0.out _ (by go_grown)) n0).mono ?_; rintro e w1 ⟨rfl, hw1⟩; obtain rfl := hw1.symm)
          | (go_at_call 53; refine (copyFn_any _ m.funcs _ (J1.out _ (by go_grown)) n1).mono ?_; rintro e w1 ⟨rfl, hw1⟩; obtain rfl := hw1.symm)
          | (go_at_call 51; refine (copyInt_any _ m.data _ (J3.out _ (by go_grown)) n3).mono ?_; rintro e w1 ⟨rfl, hw1⟩; obtain rfl := hw1.symm)
          | (go_at_call 54; refine (copyLn_any _ m.lines _ (J4.out _ (by go_grown)) n4).mono ?_; rintro e w1 ⟨rfl, hw1⟩; obtain rfl := hw1.symm))
      subst hkl
      obtain ⟨W6, hW6⟩ : ∃ W6, (((((wr.setCell ⟨w.heap.size + 1, 0, none⟩ (.slice (some ⟨wr.heap.size, 0, none⟩) m.text.length m.text.length)).setCell ⟨w.heap.size + 1, 1, none⟩ (.slice (some ⟨wr.heap.size + 1, 0, none⟩) m.funcs.length m.funcs.length)).setCell ⟨w.heap.size + 1, 2, none⟩ (.slice (some ⟨w.heap.size + 1 + 1, 0, none⟩) m.tables.length m.tables.length)).setCell ⟨w.heap.size + 1, 3, none⟩ (.slice (some ⟨wr.heap.size + 1 + 1, 0, none⟩) m.data.length m.data.length)).setCell ⟨w.heap.size + 1, 4, none⟩ (.slice (some ⟨wr.heap.size + 1 + 1 + 1, 0, none⟩) m.lines.length m.lines.length)).setCell ⟨w.heap.size + 1, 5, none⟩ (.int .i64 m.entry) = W6 := ⟨_, rfl⟩
      have zz : W6.heap.size = wr.heap.size := by rw [← hW6]; simp
      have oth : ∀ b, b ≠ w.heap.size + 1 → W6.heap[b]? = wr.heap[b]? := fun b hb => by
        rw [← hW6]
        iterate 6 rw [heap_setCell_other _ _ _ _ hb]
      have e0 : W6.cell? ⟨w.heap.size + 1, 0, none⟩ = some (.slice (some ⟨wr.heap.size, 0, none⟩) m.text.length m.text.length) := by rw [← hW6]; simp [go_sem, r0]
      have e1 : W6.cell? ⟨w.heap.size + 1, 1, none⟩ = some (.slice (some ⟨wr.heap.size + 1, 0, none⟩) m.funcs.length m.funcs.length) := by rw [← hW6]; simp [go_sem, r1]
      have e2 : W6.cell? ⟨w.heap.size + 1, 2, none⟩ = some (.slice (some ⟨w.heap.size + 1 + 1, 0, none⟩) m.tables.length m.tables.length) := by rw [← hW6]; simp [go_sem, r2]
      have e3 : W6.cell? ⟨w.heap.size + 1, 3, none⟩ = some (.slice (some ⟨wr.heap.size + 1 + 1, 0, none⟩) m.data.length m.data.length) := by rw [← hW6]; simp [go_sem, r3]
      have e4 : W6.cell? ⟨w.heap.size + 1, 4, none⟩ = some (.slice (some ⟨wr.heap.size + 1 + 1 + 1, 0, none⟩) m.lines.length m.lines.length) := by rw [← hW6]; simp [go_sem, r4]
      have e5 : W6.cell? ⟨w.heap.size + 1, 5, none⟩ = some (.int .i64 m.entry) := by rw [← hW6]; simp [go_sem, r5]
      have bW : Below w.heap.size w W6 := by
        refine Bw.out.trans ⟨?_, ?_, ?_, by omega, fun b hb => oth b (by omega)⟩ <;> (rw [← hW6]; rfl)
      have hend := copy_end m W6 (w.heap.size + 2) w.heap.size us (by omega) us1.out (by rw [oth _ (by omega), us2.out, Nat.sub_self, List.replicate_zero, List.append_nil]) (fun j u t hu ht => (us3.out j u t hu ht).kept fun b h1 h2 => oth b (by omega)) HS.out
      rw [zz] at hend
      have HE : Hid _ := hend
      have HBW : Hid _ := bW
      rw [hW6]
      have y1 : w.heap.size + 1 < W6.heap.size := by omega
      have y2 : w.heap.size + 1 < W6.heap.size + 1 := by omega
      have y3 : w.heap.size + 1 < W6.heap.size + 1 + 1 := by omega
      have y4 : w.heap.size + 1 < W6.heap.size + 1 + 1 + 1 := by omega
      clear hend bW oth hW6
      go_wp2
      exact bodyPost_ret (v := .agg #[.slice (some ⟨wr.heap.size, 0, none⟩) m.text.length m.text.length, .slice (some ⟨wr.heap.size + 1, 0, none⟩) m.funcs.length m.funcs.length, .slice (some ⟨w.heap.size + 1 + 1, 0, none⟩) m.tables.length m.tables.length, .slice (some ⟨wr.heap.size + 1 + 1, 0, none⟩) m.data.length m.data.length, .slice (some ⟨wr.heap.size + 1 + 1 + 1, 0, none⟩) m.lines.length m.lines.length, .int .i64 m.entry])
        (by simp [results, Tryd.results23, go_sem, e0, e1, e2, e3, e4, e5, y1, y2, y3, y4]) rfl
        ⟨_, _, _, _, _, rfl, HE.out, ((((HBW.out.alloc (by omega) _).alloc (by simp; omega) _).alloc (by simp; omega) _).alloc (by simp; omega) _).drew⟩
theorem copy_any (vT vF vB vD vL : Value) (m : Img) (w : World) (hI : ImgAt w vT vF vB vD vL m) (hs : m.small) :
    Calls Tryd.prog 23 #[.agg #[vT, vF, vB, vD, vL, .int .i64 m.entry]] w fun e w' => ∃ aT aF aB aD aL, e = .returned (.agg #[aT, aF, aB, aD, aL, .int .i64 m.entry]) ∧ ImgAt w' aT aF aB aD aL m ∧ Below w.heap.size w w' := by
  refine (copy_rows vT vF vB vD vL m w hI hs).mono ?_
  rintro e w' ⟨aT, aF, aB, aD, aL, h1, h2, h3⟩
  exact ⟨aT, aF, aB, aD, aL, h1, h2.at, h3⟩
end Go.Proofs.YtechpdfcgimkkaaDoor
