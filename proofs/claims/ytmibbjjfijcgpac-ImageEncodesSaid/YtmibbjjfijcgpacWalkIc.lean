/-
  boltholeref.ImageCopy: the same image, in memory of its own.
-/
import Derived.Test.YtmibbjjfijcgpacRowKit2
import Derived.Test.YtmibbjjfijcgpacSmall
import Derived.Deep.DeepCutAuto
import Derived.Deep.RegionWith
namespace Go.Proofs.Ytmibbjjfijcgpac
open Go.RowKit Go.Joins
structure Cp (W0 : World) (B gb : Nat) (en : Int) (w : World) (vT vF vB vD vL : Value) (xT : List Int) (xF : List Fn) (us : List Value) (xB : List (List Int)) (xD : List Int) (xL : List Ln) : Prop where
  bel : Below B W0 w
  ge : B ≤ gb
  box : w.heap[gb]? = some (.cells #[vT, vF, vB, vD, vL, .int .i64 en] 28)
  oT : w.ownsRow B 5 1 vT xT.length (flat ucell xT)
  oF : w.ownsRow B 46 3 vF xF.length (flat Fn.cells xF)
  oB : w.ownsRow B 25 1 vB us.length (flat vcell us)
  oD : w.ownsRow B 3 1 vD xD.length (flat icell xD)
  oL : w.ownsRow B 42 2 vL xL.length (flat Ln.cells xL)
  ul : us.length = xB.length
  oI : ∀ (j : Nat) (u : Value) (t : List Int), us[j]? = some u → xB[j]? = some t → w.ownsRow B 3 1 u t.length (flat icell t)
theorem Cp.lt {W0 : World} {B gb : Nat} {en : Int} {w : World} {vT vF vB vD vL : Value} {xT : List Int} {xF : List Fn} {us : List Value} {xB : List (List Int)} {xD : List Int} {xL : List Ln} (h : Cp W0 B gb en w vT vF vB vD vL xT xF us xB xD xL) : gb < w.heap.size := (Array.getElem?_eq_some_iff.1 h.box).1
theorem Cp.up {W0 : World} {B gb : Nat} {en : Int} {w w' : World} {vT vF vB vD vL : Value} {xT : List Int} {xF : List Fn} {us : List Value} {xB : List (List Int)} {xD : List Int} {xL : List Ln} (h : Cp W0 B gb en w vT vF vB vD vL xT xF us xB xD xL) (hb : Below w.heap.size w w') : Cp W0 B gb en w' vT vF vB vD vL xT xF us xB xD xL :=
  ⟨h.bel.trans (hb.mono (by have := h.ge; have := h.lt; omega)), h.ge, (hb.block gb h.lt).trans h.box, row_up h.oT hb, row_up h.oF hb, row_up h.oB hb, row_up h.oD hb, row_up h.oL hb, h.ul, fun j u t hu ht => row_up (h.oI j u t hu ht) hb⟩
theorem take_snoc' {α : Type} {xs : List α} {j : Nat} {y : α} (h : xs[j]? = some y) : xs.take (j + 1) = xs.take j ++ [y] := by rw [List.take_add_one, h]; rfl
theorem flat_snoc {α : Type} (cells : α → List Value) (xs : List α) (x : α) : flat cells (xs ++ [x]) = flat cells xs ++ cells x := by unfold flat; rw [List.flatMap_append]; simp
theorem Cp.cells {W0 : World} {B gb : Nat} {en : Int} {w : World} {vT vF vB vD vL : Value} {xT : List Int} {xF : List Fn} {us : List Value} {xB : List (List Int)} {xD : List Int} {xL : List Ln} (h : Cp W0 B gb en w vT vF vB vD vL xT xF us xB xD xL) :
    w.cell? ⟨gb, 0, none⟩ = some vT ∧ w.cell? ⟨gb, 1, none⟩ = some vF ∧ w.cell? ⟨gb, 2, none⟩ = some vB ∧ w.cell? ⟨gb, 3, none⟩ = some vD ∧ w.cell? ⟨gb, 4, none⟩ = some vL ∧ w.cell? ⟨gb, 5, none⟩ = some (.int .i64 en) := by
  refine ⟨?_, ?_, ?_, ?_, ?_, ?_⟩ <;> simp [World.cell?, h.box]
theorem Cp.addT {W0 : World} {B gb : Nat} {en : Int} {w wx W : World} {vT vF vB vD vL v' : Value} {xT : List Int} {xF : List Fn} {us : List Value} {xB : List (List Int)} {xD : List Int} {xL : List Ln} (h : Cp W0 B gb en w vT vF vB vD vL xT xF us xB xD xL) (hb : Below w.heap.size w wx) (x : Int) (ho : W.ownsRow B 5 1 v' (xT.length + 1) (flat ucell xT ++ ucell x)) (gr : wx.grownBy W vT.ownBlock) :
    W.heap[gb]? = some (.cells #[vT, vF, vB, vD, vL, .int .i64 en] 28) ∧ Cp W0 B gb en (W.setCell ⟨gb, 0, none⟩ v') v' vF vB vD vL (xT ++ [x]) xF us xB xD xL := by
  have u := h.up hb
  have hbox : W.heap[gb]? = some (.cells #[vT, vF, vB, vD, vL, .int .i64 en] 28) := (gr.block gb u.lt (row_ne u.oT u.box (by decide))).trans u.box
  have hset := setCell_eq_setRow W gb 0 _ _ _ v' hbox
  have bW : Below B wx W := ⟨gr.os, gr.tape, gr.output, gr.size, fun k hk => gr.block k (by have := u.ge; have := u.lt; omega) (by intro he; have := (row_block u.oT he.symm).1; omega)⟩
  have nw := row_set (o := 0) (u := v') ho hbox (by decide)
  rw [← flat_snoc] at nw
  have kF := row_set (o := 0) (u := v') (row_by u.oF u.oT gr (by decide)) hbox (by decide)
  have kB := row_set (o := 0) (u := v') (row_by u.oB u.oT gr (by decide)) hbox (by decide)
  have kD := row_set (o := 0) (u := v') (row_by u.oD u.oT gr (by decide)) hbox (by decide)
  have kL := row_set (o := 0) (u := v') (row_by u.oL u.oT gr (by decide)) hbox (by decide)
  refine ⟨hbox, (u.bel.trans bW).setCell (p := ⟨gb, 0, none⟩) h.ge v', h.ge, ?_, by simpa using nw, kF, kB, kD, kL, h.ul, ?_⟩
  · rw [hset]; exact setRow_heap W gb _ _ _ _ hbox
  · intro j u' t hu ht
    exact row_set (row_by (u.oI j u' t hu ht) u.oT gr (by decide)) hbox (by decide)
theorem Cp.addF {W0 : World} {B gb : Nat} {en : Int} {w wx W : World} {vT vF vB vD vL v' : Value} {xT : List Int} {xF : List Fn} {us : List Value} {xB : List (List Int)} {xD : List Int} {xL : List Ln} (h : Cp W0 B gb en w vT vF vB vD vL xT xF us xB xD xL) (hb : Below w.heap.size w wx) (x : Fn) (ho : W.ownsRow B 46 3 v' (xF.length + 1) (flat Fn.cells xF ++ Fn.cells x)) (gr : wx.grownBy W vF.ownBlock) :
    W.heap[gb]? = some (.cells #[vT, vF, vB, vD, vL, .int .i64 en] 28) ∧ Cp W0 B gb en (W.setCell ⟨gb, 1, none⟩ v') vT v' vB vD vL xT (xF ++ [x]) us xB xD xL := by
  have u := h.up hb
  have hbox : W.heap[gb]? = some (.cells #[vT, vF, vB, vD, vL, .int .i64 en] 28) := (gr.block gb u.lt (row_ne u.oF u.box (by decide))).trans u.box
  have hset := setCell_eq_setRow W gb 1 _ _ _ v' hbox
  have bW : Below B wx W := ⟨gr.os, gr.tape, gr.output, gr.size, fun k hk => gr.block k (by have := u.ge; have := u.lt; omega) (by intro he; have := (row_block u.oF he.symm).1; omega)⟩
  have nw := row_set (o := 1) (u := v') ho hbox (by decide)
  rw [← flat_snoc] at nw
  have kT := row_set (o := 1) (u := v') (row_by u.oT u.oF gr (by decide)) hbox (by decide)
  have kB := row_set (o := 1) (u := v') (row_by u.oB u.oF gr (by decide)) hbox (by decide)
  have kD := row_set (o := 1) (u := v') (row_by u.oD u.oF gr (by decide)) hbox (by decide)
  have kL := row_set (o := 1) (u := v') (row_by u.oL u.oF gr (by decide)) hbox (by decide)
  refine ⟨hbox, (u.bel.trans bW).setCell (p := ⟨gb, 1, none⟩) h.ge v', h.ge, ?_, kT, by simpa using nw, kB, kD, kL, h.ul, ?_⟩
  · rw [hset]; exact setRow_heap W gb _ _ _ _ hbox
  · intro j u' t hu ht
    exact row_set (row_by (u.oI j u' t hu ht) u.oF gr (by decide)) hbox (by decide)
theorem Cp.addL {W0 : World} {B gb : Nat} {en : Int} {w wx W : World} {vT vF vB vD vL v' : Value} {xT : List Int} {xF : List Fn} {us : List Value} {xB : List (List Int)} {xD : List Int} {xL : List Ln} (h : Cp W0 B gb en w vT vF vB vD vL xT xF us xB xD xL) (hb : Below w.heap.size w wx) (x : Ln) (ho : W.ownsRow B 42 2 v' (xL.length + 1) (flat Ln.cells xL ++ Ln.cells x)) (gr : wx.grownBy W vL.ownBlock) :
    W.heap[gb]? = some (.cells #[vT, vF, vB, vD, vL, .int .i64 en] 28) ∧ Cp W0 B gb en (W.setCell ⟨gb, 4, none⟩ v') vT vF vB vD v' xT xF us xB xD (xL ++ [x]) := by
  have u := h.up hb
  have hbox : W.heap[gb]? = some (.cells #[vT, vF, vB, vD, vL, .int .i64 en] 28) := (gr.block gb u.lt (row_ne u.oL u.box (by decide))).trans u.box
  have hset := setCell_eq_setRow W gb 4 _ _ _ v' hbox
  have bW : Below B wx W := ⟨gr.os, gr.tape, gr.output, gr.size, fun k hk => gr.block k (by have := u.ge; have := u.lt; omega) (by intro he; have := (row_block u.oL he.symm).1; omega)⟩
  have nw := row_set (o := 4) (u := v') ho hbox (by decide)
  rw [← flat_snoc] at nw
  have kT := row_set (o := 4) (u := v') (row_by u.oT u.oL gr (by decide)) hbox (by decide)
  have kF := row_set (o := 4) (u := v') (row_by u.oF u.oL gr (by decide)) hbox (by decide)
  have kB := row_set (o := 4) (u := v') (row_by u.oB u.oL gr (by decide)) hbox (by decide)
  have kD := row_set (o := 4) (u := v') (row_by u.oD u.oL gr (by decide)) hbox (by decide)
  refine ⟨hbox, (u.bel.trans bW).setCell (p := ⟨gb, 4, none⟩) h.ge v', h.ge, ?_, kT, kF, kB, kD, by simpa using nw, h.ul, ?_⟩
  · rw [hset]; exact setRow_heap W gb _ _ _ _ hbox
  · intro j u' t hu ht
    exact row_set (row_by (u.oI j u' t hu ht) u.oL gr (by decide)) hbox (by decide)
theorem Cp.addB {W0 : World} {B gb : Nat} {en : Int} {w wx W : World} {vT vF vB vD vL v' : Value} {xT : List Int} {xF : List Fn} {us : List Value} {xB : List (List Int)} {xD : List Int} {xL : List Ln} (h : Cp W0 B gb en w vT vF vB vD vL xT xF us xB xD xL) (hb : Below w.heap.size w wx) (x : Value) (t : List Int) (ho : W.ownsRow B 25 1 v' (us.length + 1) (flat vcell us ++ vcell x)) (gr : wx.grownBy W vB.ownBlock) (hin : w.ownsRow B 3 1 x t.length (flat icell t)) :
    W.heap[gb]? = some (.cells #[vT, vF, vB, vD, vL, .int .i64 en] 28) ∧ Cp W0 B gb en (W.setCell ⟨gb, 2, none⟩ v') vT vF v' vD vL xT xF (us ++ [x]) (xB ++ [t]) xD xL := by
  have u := h.up hb
  have hbox : W.heap[gb]? = some (.cells #[vT, vF, vB, vD, vL, .int .i64 en] 28) := (gr.block gb u.lt (row_ne u.oB u.box (by decide))).trans u.box
  have hset := setCell_eq_setRow W gb 2 _ _ _ v' hbox
  have bW : Below B wx W := ⟨gr.os, gr.tape, gr.output, gr.size, fun k hk => gr.block k (by have := u.ge; have := u.lt; omega) (by intro he; have := (row_block u.oB he.symm).1; omega)⟩
  have nw := row_set (o := 2) (u := v') ho hbox (by decide)
  rw [← flat_snoc] at nw
  have kT := row_set (o := 2) (u := v') (row_by u.oT u.oB gr (by decide)) hbox (by decide)
  have kF := row_set (o := 2) (u := v') (row_by u.oF u.oB gr (by decide)) hbox (by decide)
  have kD := row_set (o := 2) (u := v') (row_by u.oD u.oB gr (by decide)) hbox (by decide)
  have kL := row_set (o := 2) (u := v') (row_by u.oL u.oB gr (by decide)) hbox (by decide)
  refine ⟨hbox, (u.bel.trans bW).setCell (p := ⟨gb, 2, none⟩) h.ge v', h.ge, ?_, kT, kF, by simpa using nw, kD, kL, by simp [h.ul], ?_⟩
  · rw [hset]; exact setRow_heap W gb _ _ _ _ hbox
  · intro j u' t' hu ht
    rcases Nat.lt_or_ge j us.length with q | q
    · rw [List.getElem?_append_left q] at hu
      rw [List.getElem?_append_left (by have := h.ul; omega)] at ht
      exact row_set (row_by (u.oI j u' t' hu ht) u.oB gr (by decide)) hbox (by decide)
    · have hj : j = us.length := by
        have := (List.getElem?_eq_some_iff.1 hu).1
        simp at this; omega
      subst hj
      rw [List.getElem?_append_right (Nat.le_refl _), Nat.sub_self] at hu
      rw [h.ul, List.getElem?_append_right (Nat.le_refl _), Nat.sub_self] at ht
      simp at hu ht
      subst hu ht
      exact row_set (row_by (row_up hin hb) u.oB gr (by decide)) hbox (by decide)
theorem chain6 {wn : World} {g : Nat} {T : TypeId} {a0 a1 a2 a3 a4 a5 : Value} (zb : wn.heap[g]? = some (.cells #[a0, a1, a2, a3, a4, a5] T)) (b0 b1 b2 b3 b4 b5 : Value) :
    ((((((wn.setCell ⟨g, 0, none⟩ b0).setCell ⟨g, 1, none⟩ b1).setCell ⟨g, 2, none⟩ b2).setCell ⟨g, 3, none⟩ b3).setCell ⟨g, 4, none⟩ b4).setCell ⟨g, 5, none⟩ b5).heap[g]? = some (.cells #[b0, b1, b2, b3, b4, b5] T) :=
  heap_setCell_same _ g 5 _ T b5 (heap_setCell_same _ g 4 _ T b4 (heap_setCell_same _ g 3 _ T b3 (heap_setCell_same _ g 2 _ T b2 (heap_setCell_same _ g 1 _ T b1 (heap_setCell_same wn g 0 _ T b0 zb)))))
theorem chain6_other (wn : World) (g k : Nat) (hk : k ≠ g) (b0 b1 b2 b3 b4 b5 : Value) :
    ((((((wn.setCell ⟨g, 0, none⟩ b0).setCell ⟨g, 1, none⟩ b1).setCell ⟨g, 2, none⟩ b2).setCell ⟨g, 3, none⟩ b3).setCell ⟨g, 4, none⟩ b4).setCell ⟨g, 5, none⟩ b5).heap[k]? = wn.heap[k]? := by
  iterate 6 rw [heap_setCell_other _ _ _ _ (by simpa using hk)]
theorem chain6_below {B : Nat} {W wn : World} {g : Nat} (h : Below B W wn) (hg : B ≤ g) (b0 b1 b2 b3 b4 b5 : Value) :
    Below B W ((((((wn.setCell ⟨g, 0, none⟩ b0).setCell ⟨g, 1, none⟩ b1).setCell ⟨g, 2, none⟩ b2).setCell ⟨g, 3, none⟩ b3).setCell ⟨g, 4, none⟩ b4).setCell ⟨g, 5, none⟩ b5) :=
  (((((h.setCell (p := ⟨g, 0, none⟩) hg b0).setCell (p := ⟨g, 1, none⟩) hg b1).setCell (p := ⟨g, 2, none⟩) hg b2).setCell (p := ⟨g, 3, none⟩) hg b3).setCell (p := ⟨g, 4, none⟩) hg b4).setCell (p := ⟨g, 5, none⟩) hg b5
theorem row_low {w : World} {B B2 sz n : Nat} {E : TypeId} {v : Value} {xs : List Value} (h : w.ownsRow B E sz v n xs) (hB : B2 ≤ B) : w.ownsRow B2 E sz v n xs := ⟨h.1, by
  rcases h.2 with q | ⟨g, cap, cur, hv, q1, q2, q3⟩
  · exact Or.inl q
  · exact Or.inr ⟨g, cap, cur, hv, by omega, q2, q3⟩⟩
theorem vcell_one {x : Value} (hx : x.oneCell' = true) : ∀ u ∈ vcell x, u.oneCell' = true := by intro u hu; simp [vcell] at hu; subst hu; exact hx
set_option maxRecDepth 100000 in
set_option maxHeartbeats 16000000 in
theorem icopy_any (vT vF vB vD vL : Value) (m : Img) (w : World) (hI : ImgAt w vT vF vB vD vL m) (hs : m.small) :
    Calls Try.prog 12 #[.agg #[vT, vF, vB, vD, vL, .int .i64 m.entry]] w fun e w' => ∃ aT aF aB aD aL, e = .returned (.agg #[aT, aF, aB, aD, aL, .int .i64 m.entry]) ∧ ImgAt w' aT aF aB aD aL m ∧ Below w.heap.size w w' := by
  obtain ⟨aT, cT, rfl, lT⟩ := hI.text.form
  obtain ⟨aF, cF, rfl, lF⟩ := hI.funcs.form
  obtain ⟨aD, cD, rfl, lD⟩ := hI.data.form
  obtain ⟨aL, cL, rfl, lL⟩ := hI.lines.form
  obtain ⟨vs, hB, hBl, hBe⟩ := hI.tables
  obtain ⟨aB, cB, rfl, lB⟩ := hB.form
  obtain ⟨s0, s1, s2, s3, s4, s5⟩ := hs
  unfold maxLen at lT lF lB lD lL
  have HT : Hid (ListAt w ucell 1 (.slice aT m.text.length cT) m.text) := hI.text
  have HF : Hid (ListAt w Fn.cells 3 (.slice aF m.funcs.length cF) m.funcs) := hI.funcs
  have HBa : Hid (ListAt w vcell 1 (.slice aB vs.length cB) vs) := hB
  have HBe : Hid (∀ (j : Nat) (u : Value) (t : List Int), vs[j]? = some u → m.tables[j]? = some t → ListAt w icell 1 u t) := hBe
  have HBl : Hid (vs.length = m.tables.length) := hBl
  have HS3 : Hid _ := s3
  have HD : Hid (ListAt w icell 1 (.slice aD m.data.length cD) m.data) := hI.data
  have HL : Hid (ListAt w Ln.cells 2 (.slice aL m.lines.length cL) m.lines) := hI.lines
  clear hI hB hBl hBe s3
  obtain ⟨W0, hW0⟩ : ∃ W0, (w.alloc (.cells #[.slice aT m.text.length cT, .slice aF m.funcs.length cF, .slice aB vs.length cB, .slice aD m.data.length cD, .slice aL m.lines.length cL, .int .i64 m.entry] 28)).alloc (.cells #[.slice none 0 0, .slice none 0 0, .slice none 0 0, .slice none 0 0, .slice none 0 0, .int .i64 0] 28) = W0 := ⟨_, rfl⟩
  have hz0 : W0.heap.size = w.heap.size + 2 := by rw [← hW0]; simp
  have hb0 : Below w.heap.size w W0 := by rw [← hW0]; exact ((Below.refl _ _).alloc (Nat.le_refl _) _).alloc (by simp) _
  have XA : ∀ o, o < 6 → W0.cell? ⟨w.heap.size, o, none⟩ = #[Value.slice aT m.text.length cT, .slice aF m.funcs.length cF, .slice aB vs.length cB, .slice aD m.data.length cD, .slice aL m.lines.length cL, .int .i64 m.entry][o]? := fun o ho => by
    rw [← hW0]; refine (World.cell?_alloc_past _ _ _ (by simp)).trans (World.cell?_alloc_new _ _ _ _)
  have hx0 := XA 0 (by omega); have hx1 := XA 1 (by omega); have hx2 := XA 2 (by omega); have hx3 := XA 3 (by omega); have hx4 := XA 4 (by omega); have hx5 := XA 5 (by omega)
  simp at hx0 hx1 hx2 hx3 hx4 hx5
  have HX : Hid (∀ wz, Below W0.heap.size W0 wz → wz.cell? ⟨w.heap.size, 0, none⟩ = some (.slice aT m.text.length cT) ∧ wz.cell? ⟨w.heap.size, 1, none⟩ = some (.slice aF m.funcs.length cF) ∧ wz.cell? ⟨w.heap.size, 2, none⟩ = some (.slice aB vs.length cB) ∧ wz.cell? ⟨w.heap.size, 3, none⟩ = some (.slice aD m.data.length cD) ∧ wz.cell? ⟨w.heap.size, 4, none⟩ = some (.slice aL m.lines.length cL) ∧ wz.cell? ⟨w.heap.size, 5, none⟩ = some (.int .i64 m.entry)) := fun wz hz =>
    have q := fun o => hz.cell (p := ⟨w.heap.size, o, none⟩) (by simp; omega)
    ⟨(q 0).trans hx0, (q 1).trans hx1, (q 2).trans hx2, (q 3).trans hx3, (q 4).trans hx4, (q 5).trans hx5⟩
  have HR0 : Hid (W0.heap[w.heap.size + 1]? = some (.cells #[.slice none 0 0, .slice none 0 0, .slice none 0 0, .slice none 0 0, .slice none 0 0, .int .i64 0] 28)) := by
    show _ = _; rw [← hW0]; show ((w.heap.push _).push _)[w.heap.size + 1]? = _; rw [show w.heap.size + 1 = (w.heap.push (.cells #[.slice aT m.text.length cT, .slice aF m.funcs.length cF, .slice aB vs.length cB, .slice aD m.data.length cD, .slice aL m.lines.length cL, .int .i64 m.entry] 28)).size from (Array.size_push ..).symm]; exact Array.getElem?_push_size
  have HB0 : Hid (Below w.heap.size w W0) := hb0
  have HW0 : Hid _ := hW0
  have FIN : Hid (∀ wz, Below W0.heap.size W0 wz → Below w.heap.size w wz) := fun wz hz => HB0.out.trans (hz.mono (by omega))
  have HN : Hid _ := fun wz hz => nums_any (.slice aD m.data.length cD) m.data wz (HD.out.stays (Nat.le_refl _) (FIN.out wz hz)) s4
  have HZ0 : Hid (W0.heap.size = w.heap.size + 2) := hz0
  have hz1 : w.heap.size < W0.heap.size := by omega
  have hz2 : w.heap.size + 1 < W0.heap.size := by omega
  clear XA hx0 hx1 hx2 hx3 hx4 hx5 hb0 hz0
  go_enter Try.func12, Try.ntmps12
  go_upto_region 1 with fail
  try rw [HW0.out]
  clear hW0
  obtain ⟨x0, x1, x2, x3, x4, x5⟩ := HX.out W0 (Below.refl _ _)
  have SS : Hid (∀ wz, Below W0.heap.size W0 wz → wz.cell? ⟨w.heap.size, 3, none⟩ = some (.slice aD m.data.length cD) ∧ wz.cell? ⟨w.heap.size, 5, none⟩ = some (.int .i64 m.entry)) := fun wz hz => ⟨(HX.out wz hz).2.2.2.1, (HX.out wz hz).2.2.2.2.2⟩
  have ZB : Hid (∀ wn, Below (W0.heap.size + 1) (W0.alloc (.cells #[.slice none 0 0, .slice none 0 0, .slice none 0 0, .slice none 0 0, .slice none 0 0, .int .i64 0] 28)) wn → wn.heap[W0.heap.size]? = some (.cells #[.slice none 0 0, .slice none 0 0, .slice none 0 0, .slice none 0 0, .slice none 0 0, .int .i64 0] 28)) := fun wn hb => (hb.block _ (by omega)).trans (by show (W0.heap.push _)[W0.heap.size]? = _; simp)
  have HN2 : Hid (Calls Try.prog 24 #[.slice aD m.data.length cD] (W0.alloc (.cells #[.slice none 0 0, .slice none 0 0, .slice none 0 0, .slice none 0 0, .slice none 0 0, .int .i64 0] 28)).drew fun e w' => ∃ v', e = .returned v' ∧ w'.ownsRow (W0.heap.size + 1) 3 1 v' m.data.length (flat icell m.data) ∧ Below (W0.heap.size + 1) (W0.alloc (.cells #[.slice none 0 0, .slice none 0 0, .slice none 0 0, .slice none 0 0, .slice none 0 0, .int .i64 0] 28)) w') := by
    have := HN.out (W0.alloc (.cells #[.slice none 0 0, .slice none 0 0, .slice none 0 0, .slice none 0 0, .slice none 0 0, .int .i64 0] 28)).drew (((Below.refl _ _).alloc (Nat.le_refl _) _).drew)
    refine this.mono fun e w' hh => ?_
    obtain ⟨v', h1, h2, h3⟩ := hh
    have hsz : (W0.alloc (.cells #[.slice none 0 0, .slice none 0 0, .slice none 0 0, .slice none 0 0, .slice none 0 0, .int .i64 0] 28)).drew.heap.size = W0.heap.size + 1 := by simp
    rw [hsz] at h2 h3
    exact ⟨v', h1, h2, ⟨h3.os, h3.tape, h3.output, h3.size, h3.block⟩⟩
  have NL : Hid (∀ wc gb an ln cn, W0.heap.size ≤ gb → Below W0.heap.size W0 wc → wc.heap[gb]? = some (.cells #[.slice none 0 0, .slice none 0 0, .slice none 0 0, .slice an ln cn, .slice none 0 0, .int .i64 m.entry] 28) → wc.ownsRow W0.heap.size 3 1 (.slice an ln cn) m.data.length (flat icell m.data) → Cp W0 W0.heap.size gb m.entry wc (.slice none 0 0) (.slice none 0 0) (.slice none 0 0) (.slice an ln cn) (.slice none 0 0) [] [] [] [] m.data []) := fun wc gb an ln cn h1 h2 h3 h4 =>
    ⟨h2, h1, h3, World.ownsRow_nil _ _ _ _, World.ownsRow_nil _ _ _ _, World.ownsRow_nil _ _ _ _, h4, World.ownsRow_nil _ _ _ _, rfl, fun j u t hu => by simp at hu⟩
  go_cut [3] (fun v wc => ∃ gb an ln cn, v = .pointer (some ⟨gb, 0, none⟩) ∧ Hid (Cp W0 W0.heap.size gb m.entry wc (.slice none 0 0) (.slice none 0 0) (.slice none 0 0) (.slice an ln cn) (.slice none 0 0) [] [] [] [] m.data []))
  case first =>
    go_region_with (first
      | (go_at_call 24; refine HN2.out.mono ?_; rintro e wn ⟨vn, rfl, hon, hbn⟩; obtain ⟨an, ln, cn, rfl⟩ := row_form hon; have zn : W0.heap.size < wn.heap.size := (by have := hbn.size; simp at this; omega); have zb := ZB.out wn hbn; have zc : ∀ o, wn.cell? ⟨W0.heap.size, o, none⟩ = (#[.slice none 0 0, .slice none 0 0, .slice none 0 0, .slice none 0 0, .slice none 0 0, .int .i64 0] : Array Value)[o]? := (fun o => by simp only [World.cell?, zb]; rfl); have zf : ∀ o, wn.frozen? ⟨W0.heap.size, o, none⟩ = false := (fun o => by simp [World.frozen?, zb]); have r0 := zc 0; have r1 := zc 1; have r2 := zc 2; have r3 := zc 3; have r4 := zc 4; have r5 := zc 5; simp at r0 r1 r2 r3 r4 r5; have f0 := zf 0; have f1 := zf 1; have f2 := zf 2; have f3 := zf 3; have f4 := zf 4; have f5 := zf 5; have hx5 := (SS.out wn (((Below.refl W0.heap.size W0).alloc (Nat.le_refl _) _).trans (hbn.mono (by omega)))).2; clear zc zf)
      | (go_at_call 24; refine (HN.out W0.drew ((Below.refl _ _).drew)).mono ?_; rintro e wn ⟨vn, rfl, hon, hbn⟩; obtain ⟨an, ln, cn, rfl⟩ := row_form hon; have hx5 := (SS.out wn ((Below.refl W0.heap.size W0).drew.trans (hbn.mono (by simp)))).2; have zw : w.heap.size < wn.heap.size := (by have := hbn.size; simp at this; omega)))
    all_goals (try go_wp2)
    all_goals go_meet
    all_goals first
      | (have ZA : W0.heap.size ≤ wn.heap.size := (by have := hbn.size; simpa using this)
         exact ⟨wn.heap.size, an, ln, cn, rfl, NL.out _ _ _ _ _ ZA (((Below.refl W0.heap.size W0).drew.trans (hbn.mono (by simp))).alloc ZA _) (by show (wn.heap.push _)[wn.heap.size]? = _; simp) (row_up (row_low hon (Nat.le_refl _)) ((Below.refl _ _).alloc (Nat.le_refl _) _))⟩)
      | exact ⟨W0.heap.size, an, ln, cn, rfl, NL.out _ _ _ _ _ (Nat.le_refl _) (chain6_below (((Below.refl W0.heap.size W0).alloc (Nat.le_refl _) _).trans (hbn.mono (by omega))) (Nat.le_refl _) _ _ _ _ _ _) (chain6 zb _ _ _ _ _ _) (row_same (row_low hon (by omega)) fun k hk => chain6_other wn _ k (by rintro rfl; exact row_ne hon zb (by decide) hk.symm) _ _ _ _ _ _)⟩
  case rest =>
    obtain ⟨gb, an, ln, cn, rfl, cp⟩ := hcut
    clear x0 x1 x2 x3 x4 x5 NL ZB HN HN2 SS
    obtain ⟨x0, x1, x2, x3, x4, x5⟩ := HX.out _ cp.out.bel
    go_wp2_with fail
    clear x0 x1 x2 x3 x4 x5
    go_loopw [4] (fun u wr => ∃ (j : Nat) (v : Value), j ≤ m.text.length ∧ u = .int .i64 (j : Int) ∧ Hid (Cp W0 W0.heap.size gb m.entry wr v (.slice none 0 0) (.slice none 0 0) (.slice an ln cn) (.slice none 0 0) (m.text.take j) [] [] [] m.data [])) (fun u _ => (m.text.length - intOf u).toNat)
    case atStart => exact ⟨0, _, by omega, rfl, by simpa using cp⟩
    case round =>
      clear cp
      obtain ⟨j, v, j1, rfl, cp⟩ := hrel
      obtain ⟨x0, x1, x2, x3, x4, x5⟩ := HX.out _ cp.out.bel
      by_cases hj : j < m.text.length
      · obtain ⟨y, hy⟩ : ∃ y, m.text[j]? = some y := ⟨_, List.getElem?_eq_getElem (by omega)⟩
        obtain ⟨bb, oo, cap, hv, c1, c2, c3, c4⟩ := HT.out.resolve_left (by rintro ⟨_, _, _, h⟩; rw [h] at hj; simp at hj)
        cases hv
        have bw := FIN.out _ cp.out.bel
        have d0 : wr.cell? ⟨bb, oo + j, none⟩ = some (.int .u8 y) := by have := (bw.cell (p := ⟨bb, oo + j * 1 + 0, none⟩) c3).trans (c4 j y hy 0 _ rfl); rwa [Nat.mul_one, Nat.add_zero] at this
        clear c4
        have hjl : (m.text.take j).length = j := by rw [List.length_take]; omega
        have htk := take_snoc' hy
        have hge : W0.heap.size ≤ wr.heap.size := by have := cp.out.ge; have := cp.out.lt; omega
        obtain ⟨v', W, hr, ho, gr, hbx⟩ := row_app 5 22 1 1 _ Try.underlying22 inByte rfl (by decide) cp.out.oT hge [.int .u8 y] rfl (by intro u hu; simp at hu; (first | (subst hu; rfl) | (rcases hu with rfl | rfl | rfl <;> rfl) | (rcases hu with rfl | rfl <;> rfl))) (by rw [hjl]; omega) (by unfold maxLen; omega) (Or.inr rfl)
        obtain ⟨hbox, cp2⟩ := cp.out.addT hbx y ho gr
        rw [← htk] at cp2
        obtain ⟨a2, l2, k2, rfl⟩ := row_form ho
        have HR : Hid _ := hr
        have t0 : W.cell? ⟨gb, 0, none⟩ = some v := by simp [World.cell?, hbox]
        have t1 : W.frozen? ⟨gb, 0, none⟩ = false := by simp [World.frozen?, hbox]
        obtain ⟨y0, y1, y2, y3, y4, y5⟩ := cp.out.cells
        have CP2 : Hid _ := cp2
        have hjj : (j : Int) < (m.text.length : Int) := by omega
        have hlt := cp.out.lt
        clear hr ho gr hbx hbox cp2 htk hjl bw cp hy
        go_wp2_with fail
        go_region_law (refine step_append_two rfl (.tmp 23) (.tmp 29) 22 22 rfl _ _ rfl rfl HR.out ?_)
        all_goals
          go_wp2
          go_roundw
          case rel => exact ⟨j + 1, _, by omega, by go_num, CP2.out⟩
          case measure => simp [intOf]; omega
      · have hjl : j = m.text.length := by omega
        replace cp := (show Hid (Cp W0 W0.heap.size gb m.entry wr v (.slice none 0 0) (.slice none 0 0) (.slice an ln cn) (.slice none 0 0) m.text [] [] [] m.data []) from by have := cp.out; rw [hjl, List.take_length] at this; exact this)
        subst hjl
        generalize wr = wz at *
        obtain ⟨vT, rfl⟩ : ∃ x, x = v := ⟨_, rfl⟩
        obtain ⟨x0, x1, x2, x3, x4, x5⟩ := HX.out _ cp.out.bel
        go_wp2_with fail
        clear x0 x1 x2 x3 x4 x5
        go_loopw [5] (fun u wr => ∃ (j : Nat) (v : Value), j ≤ m.funcs.length ∧ u = .int .i64 (j : Int) ∧ Hid (Cp W0 W0.heap.size gb m.entry wr vT v (.slice none 0 0) (.slice an ln cn) (.slice none 0 0) m.text (m.funcs.take j) [] [] m.data [])) (fun u _ => (m.funcs.length - intOf u).toNat)
        case atStart => exact ⟨0, _, by omega, rfl, by simpa using cp⟩
        case round =>
          clear cp
          obtain ⟨j, v, j1, rfl, cp⟩ := hrel
          obtain ⟨x0, x1, x2, x3, x4, x5⟩ := HX.out _ cp.out.bel
          by_cases hj : j < m.funcs.length
          · obtain ⟨y, hy⟩ : ∃ y, m.funcs[j]? = some y := ⟨_, List.getElem?_eq_getElem (by omega)⟩
            obtain ⟨bb, oo, cap, hv, c1, c2, c3, c4⟩ := HF.out.resolve_left (by rintro ⟨_, _, _, h⟩; rw [h] at hj; simp at hj)
            cases hv
            have bw := FIN.out _ cp.out.bel
            have d0 : wr.cell? ⟨bb, oo + j * 3, none⟩ = some (.string y.name) := (bw.cell (p := ⟨bb, _, none⟩) c3).trans (c4 j y hy 0 _ rfl)
            have d1 : wr.cell? ⟨bb, oo + j * 3 + 1, none⟩ = some (.int .i64 y.start) := (bw.cell (p := ⟨bb, _, none⟩) c3).trans (c4 j y hy 1 _ rfl)
            have d2 : wr.cell? ⟨bb, oo + j * 3 + 2, none⟩ = some (.int .i64 y.size) := (bw.cell (p := ⟨bb, _, none⟩) c3).trans (c4 j y hy 2 _ rfl)
            clear c4
            have hjl : (m.funcs.take j).length = j := by rw [List.length_take]; omega
            have htk := take_snoc' hy
            have hge : W0.heap.size ≤ wr.heap.size := by have := cp.out.ge; have := cp.out.lt; omega
            obtain ⟨v', W, hr, ho, gr, hbx⟩ := row_app 46 23 3 32 _ Try.underlying23 inFn rfl (by decide) cp.out.oF hge [.string y.name, .int .i64 y.start, .int .i64 y.size] rfl (by intro u hu; simp at hu; (first | (subst hu; rfl) | (rcases hu with rfl | rfl | rfl <;> rfl) | (rcases hu with rfl | rfl <;> rfl))) (by rw [hjl]; omega) (by unfold maxLen; omega) (Or.inr rfl)
            obtain ⟨hbox, cp2⟩ := cp.out.addF hbx y ho gr
            rw [← htk] at cp2
            obtain ⟨a2, l2, k2, rfl⟩ := row_form ho
            have HR : Hid _ := hr
            have t0 : W.cell? ⟨gb, 1, none⟩ = some v := by simp [World.cell?, hbox]
            have t1 : W.frozen? ⟨gb, 1, none⟩ = false := by simp [World.frozen?, hbox]
            obtain ⟨y0, y1, y2, y3, y4, y5⟩ := cp.out.cells
            have CP2 : Hid _ := cp2
            have hjj : (j : Int) < (m.funcs.length : Int) := by omega
            have hlt := cp.out.lt
            clear hr ho gr hbx hbox cp2 htk hjl bw cp hy
            go_wp2_with fail
            go_region_law (refine step_append_two rfl (.tmp 40) (.tmp 46) 23 23 rfl _ _ rfl rfl HR.out ?_)
            all_goals
              go_wp2
              go_roundw
              case rel => exact ⟨j + 1, _, by omega, by go_num, CP2.out⟩
              case measure => simp [intOf]; omega
          · have hjl : j = m.funcs.length := by omega
            replace cp := (show Hid (Cp W0 W0.heap.size gb m.entry wr vT v (.slice none 0 0) (.slice an ln cn) (.slice none 0 0) m.text m.funcs [] [] m.data []) from by have := cp.out; rw [hjl, List.take_length] at this; exact this)
            subst hjl
            generalize wr = wz at *
            obtain ⟨vF, rfl⟩ : ∃ x, x = v := ⟨_, rfl⟩
            obtain ⟨x0, x1, x2, x3, x4, x5⟩ := HX.out _ cp.out.bel
            go_wp2_with fail
            clear x0 x1 x2 x3 x4 x5
            go_loopw [6] (fun u wr => ∃ (j : Nat) (v : Value) (us : List Value), j ≤ vs.length ∧ u = .int .i64 (j : Int) ∧ Hid (Cp W0 W0.heap.size gb m.entry wr vT vF v (.slice an ln cn) (.slice none 0 0) m.text m.funcs us (m.tables.take j) m.data [])) (fun u _ => (vs.length - intOf u).toNat)
            case atStart => exact ⟨0, _, [], by omega, rfl, by simpa using cp⟩
            case round =>
              clear cp
              obtain ⟨j, v, us, j1, rfl, cp⟩ := hrel
              obtain ⟨x0, x1, x2, x3, x4, x5⟩ := HX.out _ cp.out.bel
              by_cases hj : j < vs.length
              · obtain ⟨y, hy⟩ : ∃ y, vs[j]? = some y := ⟨_, List.getElem?_eq_getElem (by omega)⟩
                obtain ⟨t, ht⟩ : ∃ t, m.tables[j]? = some t := ⟨_, List.getElem?_eq_getElem (by have := HBl.out; omega)⟩
                obtain ⟨bb, oo, cap, hv, c1, c2, c3, c4⟩ := HBa.out.resolve_left (by rintro ⟨_, _, _, h⟩; rw [h] at hj; simp at hj)
                cases hv
                have bw := FIN.out _ cp.out.bel
                have d0 : wr.cell? ⟨bb, oo + j, none⟩ = some y := by have := (bw.cell (p := ⟨bb, oo + j * 1 + 0, none⟩) c3).trans (c4 j y hy 0 _ rfl); rwa [Nat.mul_one, Nat.add_zero] at this
                have hT := (HBe.out j y t hy ht).stays (Nat.le_refl _) bw
                have h8 := HS3.out t (List.mem_of_getElem? ht)
                have HTt : Hid _ := hT
                have hul : us.length = j := by rw [cp.out.ul, List.length_take]; have := HBl.out; omega
                have htk := take_snoc' ht
                have hjj : (j : Int) < (vs.length : Int) := by omega
                clear c4 hy ht bw hT
                go_wp2_with fail
                refine (nums_any y t wr HTt.out h8).mono ?_
                rintro e wn ⟨vn, rfl, hon, hbn⟩
                have cpn := cp.out.up hbn
                have hge : W0.heap.size ≤ wr.heap.size := by have := cp.out.ge; have := cp.out.lt; omega
                have hgn : W0.heap.size ≤ wn.heap.size := by have := hbn.size; omega
                obtain ⟨an2, ln2, cn2, rfl⟩ := row_form hon
                have hin := row_low hon hge
                obtain ⟨v', W, hr, ho, gr, hbx⟩ := row_app 25 24 1 24 _ Try.underlying24 inInts rfl (by decide) cpn.oB hgn [.slice an2 ln2 cn2] rfl (by intro u hu; simp at hu; subst hu; rfl) (by have := HBl.out; omega) (by unfold maxLen; omega) (Or.inl rfl)
                obtain ⟨hbox, cp2⟩ := cpn.addB hbx (.slice an2 ln2 cn2) t ho gr hin
                rw [← htk] at cp2
                obtain ⟨a2, l2, k2, rfl⟩ := row_form ho
                have HR : Hid _ := hr
                have t0 : W.cell? ⟨gb, 2, none⟩ = some v := by simp [World.cell?, hbox]
                have t1 : W.frozen? ⟨gb, 2, none⟩ = false := by simp [World.frozen?, hbox]
                obtain ⟨y0, y1, y2, y3, y4, y5⟩ := cpn.cells
                have CP2 : Hid _ := cp2
                have hlt := cpn.lt
                clear hr ho gr hbx hbox cp2 htk hul cpn hin cp hon hbn
                go_wp2_with (first | (at_builtin; refine wpList_append_two _ rfl (.tmp 63) (.tmp 65) 24 24 rfl _ _ rfl rfl HR.out ?_))
                go_roundw
                case rel => exact ⟨j + 1, _, _, by omega, by go_num, CP2.out⟩
                case measure => simp [intOf]; omega
              · have hjl : j = vs.length := by omega
                replace cp := (show Hid (Cp W0 W0.heap.size gb m.entry wr vT vF v (.slice an ln cn) (.slice none 0 0) m.text m.funcs us m.tables m.data []) from by have := cp.out; rw [hjl, HBl.out, List.take_length] at this; exact this)
                subst hjl
                generalize wr = wz at *
                obtain ⟨us, rfl⟩ : ∃ x, x = us := ⟨_, rfl⟩
                obtain ⟨vB, rfl⟩ : ∃ x, x = v := ⟨_, rfl⟩
                obtain ⟨x0, x1, x2, x3, x4, x5⟩ := HX.out _ cp.out.bel
                go_wp2_with fail
                clear x0 x1 x2 x3 x4 x5
                go_loopw [8] (fun u wr => ∃ (j : Nat) (v : Value), j ≤ m.lines.length ∧ u = .int .i64 (j : Int) ∧ Hid (Cp W0 W0.heap.size gb m.entry wr vT vF vB (.slice an ln cn) v m.text m.funcs us m.tables m.data (m.lines.take j))) (fun u _ => (m.lines.length - intOf u).toNat)
                case atStart => exact ⟨0, _, by omega, rfl, by simpa using cp⟩
                case round =>
                  clear cp
                  obtain ⟨j, v, j1, rfl, cp⟩ := hrel
                  obtain ⟨x0, x1, x2, x3, x4, x5⟩ := HX.out _ cp.out.bel
                  by_cases hj : j < m.lines.length
                  · obtain ⟨y, hy⟩ : ∃ y, m.lines[j]? = some y := ⟨_, List.getElem?_eq_getElem (by omega)⟩
                    obtain ⟨bb, oo, cap, hv, c1, c2, c3, c4⟩ := HL.out.resolve_left (by rintro ⟨_, _, _, h⟩; rw [h] at hj; simp at hj)
                    cases hv
                    have bw := FIN.out _ cp.out.bel
                    have d0 : wr.cell? ⟨bb, oo + j * 2, none⟩ = some (.int .i64 y.a) := (bw.cell (p := ⟨bb, _, none⟩) c3).trans (c4 j y hy 0 _ rfl)
                    have d1 : wr.cell? ⟨bb, oo + j * 2 + 1, none⟩ = some (.int .i64 y.n) := (bw.cell (p := ⟨bb, _, none⟩) c3).trans (c4 j y hy 1 _ rfl)
                    clear c4
                    have hjl : (m.lines.take j).length = j := by rw [List.length_take]; omega
                    have htk := take_snoc' hy
                    have hge : W0.heap.size ≤ wr.heap.size := by have := cp.out.ge; have := cp.out.lt; omega
                    obtain ⟨v', W, hr, ho, gr, hbx⟩ := row_app 42 26 2 16 _ Try.underlying26 inLn rfl (by decide) cp.out.oL hge [.int .i64 y.a, .int .i64 y.n] rfl (by intro u hu; simp at hu; (first | (subst hu; rfl) | (rcases hu with rfl | rfl | rfl <;> rfl) | (rcases hu with rfl | rfl <;> rfl))) (by rw [hjl]; omega) (by unfold maxLen; omega) (Or.inr rfl)
                    obtain ⟨hbox, cp2⟩ := cp.out.addL hbx y ho gr
                    rw [← htk] at cp2
                    obtain ⟨a2, l2, k2, rfl⟩ := row_form ho
                    have HR : Hid _ := hr
                    have t0 : W.cell? ⟨gb, 4, none⟩ = some v := by simp [World.cell?, hbox]
                    have t1 : W.frozen? ⟨gb, 4, none⟩ = false := by simp [World.frozen?, hbox]
                    obtain ⟨y0, y1, y2, y3, y4, y5⟩ := cp.out.cells
                    have CP2 : Hid _ := cp2
                    have hjj : (j : Int) < (m.lines.length : Int) := by omega
                    have hlt := cp.out.lt
                    clear hr ho gr hbx hbox cp2 htk hjl bw cp hy
                    go_wp2_with fail
                    go_region_law (refine step_append_two rfl (.tmp 76) (.tmp 82) 26 26 rfl _ _ rfl rfl HR.out ?_)
                    all_goals
                      go_wp2
                      go_roundw
                      case rel => exact ⟨j + 1, _, by omega, by go_num, CP2.out⟩
                      case measure => simp [intOf]; omega
                  · have hjl : j = m.lines.length := by omega
                    replace cp := (show Hid (Cp W0 W0.heap.size gb m.entry wr vT vF vB (.slice an ln cn) v m.text m.funcs us m.tables m.data m.lines) from by have := cp.out; rw [hjl, List.take_length] at this; exact this)
                    subst hjl
                    generalize wr = wz at *
                    obtain ⟨x0, x1, x2, x3, x4, x5⟩ := HX.out _ cp.out.bel
                    obtain ⟨y0, y1, y2, y3, y4, y5⟩ := cp.out.cells
                    obtain ⟨aT', lT', kT', rfl⟩ := row_form cp.out.oT
                    obtain ⟨aF', lF', kF', rfl⟩ := row_form cp.out.oF
                    obtain ⟨aB', lB', kB', rfl⟩ := row_form cp.out.oB
                    obtain ⟨aL', lL', kL', rfl⟩ := row_form cp.out.oL
                    have rb : wz.heap[w.heap.size + 1]? = some (.cells #[.slice none 0 0, .slice none 0 0, .slice none 0 0, .slice none 0 0, .slice none 0 0, .int .i64 0] 28) := (cp.out.bel.block _ (by omega)).trans HR0.out
                    have rc : ∀ o, wz.cell? ⟨w.heap.size + 1, o, none⟩ = (#[.slice none 0 0, .slice none 0 0, .slice none 0 0, .slice none 0 0, .slice none 0 0, .int .i64 0] : Array Value)[o]? := fun o => by simp only [World.cell?, rb]; rfl
                    have rf : ∀ o, wz.frozen? ⟨w.heap.size + 1, o, none⟩ = false := fun o => by simp [World.frozen?, rb]
                    have r0 := rc 0; have r1 := rc 1; have r2 := rc 2; have r3 := rc 3; have r4 := rc 4; have r5 := rc 5
                    simp at r0 r1 r2 r3 r4 r5
                    have f0 := rf 0; have f1 := rf 1; have f2 := rf 2; have f3 := rf 3; have f4 := rf 4; have f5 := rf 5
                    have RB : Hid _ := rb
                    clear rc rf rb
                    go_wp2_with fail
                    obtain ⟨WZ, hWZ⟩ : ∃ WZ, ((((((wz.setCell ⟨w.heap.size + 1, 0, none⟩ (.slice aT' lT' kT')).setCell ⟨w.heap.size + 1, 1, none⟩ (.slice aF' lF' kF')).setCell ⟨w.heap.size + 1, 2, none⟩ (.slice aB' lB' kB')).setCell ⟨w.heap.size + 1, 3, none⟩ (.slice an ln cn)).setCell ⟨w.heap.size + 1, 4, none⟩ (.slice aL' lL' kL')).setCell ⟨w.heap.size + 1, 5, none⟩ (.int .i64 m.entry)) = WZ := ⟨_, rfl⟩
                    have bz := chain6 RB.out (.slice aT' lT' kT') (.slice aF' lF' kF') (.slice aB' lB' kB') (.slice an ln cn) (.slice aL' lL' kL') (.int .i64 m.entry)
                    have oth : ∀ k, k ≠ w.heap.size + 1 → WZ.heap[k]? = wz.heap[k]? := fun k hk => by rw [← hWZ]; exact chain6_other _ _ _ hk _ _ _ _ _ _
                    have bb2 : Below w.heap.size w WZ := by rw [← hWZ]; exact chain6_below (FIN.out _ cp.out.bel) (by omega) _ _ _ _ _ _
                    rw [hWZ] at bz ⊢
                    have e0 : WZ.cell? ⟨w.heap.size + 1, 0, none⟩ = some (.slice aT' lT' kT') := by simp [World.cell?, bz]
                    have e1 : WZ.cell? ⟨w.heap.size + 1, 1, none⟩ = some (.slice aF' lF' kF') := by simp [World.cell?, bz]
                    have e2 : WZ.cell? ⟨w.heap.size + 1, 2, none⟩ = some (.slice aB' lB' kB') := by simp [World.cell?, bz]
                    have e3 : WZ.cell? ⟨w.heap.size + 1, 3, none⟩ = some (.slice an ln cn) := by simp [World.cell?, bz]
                    have e4 : WZ.cell? ⟨w.heap.size + 1, 4, none⟩ = some (.slice aL' lL' kL') := by simp [World.cell?, bz]
                    have e5 : WZ.cell? ⟨w.heap.size + 1, 5, none⟩ = some (.int .i64 m.entry) := by simp [World.cell?, bz]
                    have up : ∀ {E : TypeId} {sz n : Nat} {v : Value} {xs : List Value}, wz.ownsRow W0.heap.size E sz v n xs → WZ.ownsRow W0.heap.size E sz v n xs := fun h => row_same h fun k hk => oth k (by have := (row_block h hk).1; omega)
                    have hImg : ImgAt WZ (.slice aT' lT' kT') (.slice aF' lF' kF') (.slice aB' lB' kB') (.slice an ln cn) (.slice aL' lL' kL') m :=
                      ⟨row_list ucell_len (up cp.out.oT), row_list fcell_len (up cp.out.oF), ⟨_, row_list vcell_len (up cp.out.oB), cp.out.ul, fun j u t hu ht => row_list icell_len (up (cp.out.oI j u t hu ht))⟩, row_list icell_len (up cp.out.oD), row_list lcell_len (up cp.out.oL)⟩
                    exact bodyPost_ret (v := .agg #[.slice aT' lT' kT', .slice aF' lF' kF', .slice aB' lB' kB', .slice an ln cn, .slice aL' lL' kL', .int .i64 m.entry]) (by simp [results, Try.results12, go_sem, e0, e1, e2, e3, e4, e5]) rfl ⟨_, _, _, _, _, rfl, hImg, bb2⟩
end Go.Proofs.Ytmibbjjfijcgpac
