/-
  An image that is being put together, in a box of the call's own.
-/
import Derived.Test.YtechpdfcgimkkaaDoorRowKit
namespace Go.Proofs.YtechpdfcgimkkaaDoor
open Go.RowKit Go.Joins
structure Cp (W0 : World) (B gb : Nat) (en : Int) (w : World) (vT vF vB vD vL : Value) (xT : List Int) (xF : List Fn) (us : List Value) (xB : List (List Int)) (xD : List Int) (xL : List Ln) : Prop where
  bel : Below B W0 w
  ge : B ≤ gb
  box : w.heap[gb]? = some (.cells #[vT, vF, vB, vD, vL, .int .i64 en] 29)
  oT : w.ownsRow B 5 1 vT xT.length (flat ucell xT)
  oF : w.ownsRow B 47 3 vF xF.length (flat Fn.cells xF)
  oB : w.ownsRow B 26 1 vB us.length (flat vcell us)
  oD : w.ownsRow B 3 1 vD xD.length (flat icell xD)
  oL : w.ownsRow B 43 2 vL xL.length (flat Ln.cells xL)
  ul : us.length = xB.length
  oI : ∀ (j : Nat) (u : Value) (t : List Int), us[j]? = some u → xB[j]? = some t → w.ownsRow B 3 1 u t.length (flat icell t)
theorem Cp.lt {W0 : World} {B gb : Nat} {en : Int} {w : World} {vT vF vB vD vL : Value} {xT : List Int} {xF : List Fn} {us : List Value} {xB : List (List Int)} {xD : List Int} {xL : List Ln} (h : Cp W0 B gb en w vT vF vB vD vL xT xF us xB xD xL) : gb < w.heap.size := (Array.getElem?_eq_some_iff.1 h.box).1
theorem Cp.up {W0 : World} {B gb : Nat} {en : Int} {w w' : World} {vT vF vB vD vL : Value} {xT : List Int} {xF : List Fn} {us : List Value} {xB : List (List Int)} {xD : List Int} {xL : List Ln} (h : Cp W0 B gb en w vT vF vB vD vL xT xF us xB xD xL) (hb : Below w.heap.size w w') : Cp W0 B gb en w' vT vF vB vD vL xT xF us xB xD xL :=
  ⟨h.bel.trans (hb.mono (by have := h.ge; have := h.lt; omega)), h.ge, (hb.block gb h.lt).trans h.box, row_up h.oT hb, row_up h.oF hb, row_up h.oB hb, row_up h.oD hb, row_up h.oL hb, h.ul, fun j u t hu ht => row_up (h.oI j u t hu ht) hb⟩
theorem take_snoc' {α : Type} {xs : List α} {j : Nat} {y : α} (h : xs[j]? = some y) : xs.take (j + 1) = xs.take j ++ [y] := by rw [List.take_add_one, h]; rfl
theorem flat_snoc {α : Type} (cells : α → List Value) (xs : List α) (x : α) : flat cells (xs ++ [x]) = flat cells xs ++ cells x := by unfold flat; rw [List.flatMap_append]; simp
theorem Cp.cells {W0 : World} {B gb : Nat} {en : Int} {w : World} {vT vF vB vD vL : Value} {xT : List Int} {xF : List Fn} {us : List Value} {xB : List (List Int)} {xD : List Int} {xL : List Ln} (h : Cp W0 B gb en w vT vF vB vD vL xT xF us xB xD xL) :
    w.cell? ⟨gb, 0, none⟩ = some vT ∧ w.cell? ⟨gb, 1, none⟩ = some vF ∧ w.cell? ⟨gb, 2, none⟩ = some vB ∧ w.cell? ⟨gb, 3, none⟩ = some vD ∧ w.cell? ⟨gb, 4, none⟩ = some vL ∧ w.cell? ⟨gb, 5, none⟩ = some (.int .i64 en) := by
  refine ⟨?_, ?_, ?_, ?_, ?_, ?_⟩ <;> simp [World.cell?, h.box]
theorem Cp.addT {W0 : World} {B gb : Nat} {en : Int} {w wx W : World} {vT vF vB vD vL v' : Value} {xT : List Int} {xF : List Fn} {us : List Value} {xB : List (List Int)} {xD : List Int} {xL : List Ln} (h : Cp W0 B gb en w vT vF vB vD vL xT xF us xB xD xL) (hb : Below w.heap.size w wx) (x : Int) (ho : W.ownsRow B 5 1 v' (xT.length + 1) (flat ucell xT ++ ucell x)) (gr : wx.grownBy W vT.ownBlock) :
    W.heap[gb]? = some (.cells #[vT, vF, vB, vD, vL, .int .i64 en] 29) ∧ Cp W0 B gb en (W.setCell ⟨gb, 0, none⟩ v') v' vF vB vD vL (xT ++ [x]) xF us xB xD xL := by
  have u := h.up hb
  have hbox : W.heap[gb]? = some (.cells #[vT, vF, vB, vD, vL, .int .i64 en] 29) := (gr.block gb u.lt (row_ne u.oT u.box (by decide))).trans u.box
  have hset := setCell_eq_setRow W gb 0 _ _ _ v' hbox
  have bW : Below B wx W := ⟨gr.os, gr.tape, gr.output, gr.size, fun k hk => gr.block k (by have := u.ge; have := u.lt; omega) (by intro he; have := (row_block u.oT he.symm).1; omega)⟩
  have nw := row_set (o := 0) (u := v') ho hbox (by decide)
  rw [← flat_snoc] at nw
  have kF := row_set (o := 0) (u := v') (row_by u.oF u.oT gr (by decide)) hbox (by decide)
  have kB := row_set (o := 0) (u := v') (row_by u.oB u.oT gr (by decide)) hbox (by decide)
  have kD := row_set (o := 0) (u := v') (row_by u.oD u.oT gr (by decide)) hbox (by decide)
  have kL := row_set (o := 0) (u := v') (row_by u.oL u.oT gr (by decide)) hbox (by decide)
  refine ⟨hbox, (u.bel.trans bW).setCell (p := ⟨gb, 0, none⟩) h.ge v', h.ge, ?_, by simpa using nw, kF, kB, kD, kL, h.ul, ?_⟩
  · rw [hset]; exact setRow_heap W gb _ _ _ _ hbox
  · intro j u' t hu ht
    exact row_set (row_by (u.oI j u' t hu ht) u.oT gr (by decide)) hbox (by decide)
theorem Cp.addF {W0 : World} {B gb : Nat} {en : Int} {w wx W : World} {vT vF vB vD vL v' : Value} {xT : List Int} {xF : List Fn} {us : List Value} {xB : List (List Int)} {xD : List Int} {xL : List Ln} (h : Cp W0 B gb en w vT vF vB vD vL xT xF us xB xD xL) (hb : Below w.heap.size w wx) (x : Fn) (ho : W.ownsRow B 47 3 v' (xF.length + 1) (flat Fn.cells xF ++ Fn.cells x)) (gr : wx.grownBy W vF.ownBlock) :
    W.heap[gb]? = some (.cells #[vT, vF, vB, vD, vL, .int .i64 en] 29) ∧ Cp W0 B gb en (W.setCell ⟨gb, 1, none⟩ v') vT v' vB vD vL xT (xF ++ [x]) us xB xD xL := by
  have u := h.up hb
  have hbox : W.heap[gb]? = some (.cells #[vT, vF, vB, vD, vL, .int .i64 en] 29) := (gr.block gb u.lt (row_ne u.oF u.box (by decide))).trans u.box
  have hset := setCell_eq_setRow W gb 1 _ _ _ v' hbox
  have bW : Below B wx W := ⟨gr.os, gr.tape, gr.output, gr.size, fun k hk => gr.block k (by have := u.ge; have := u.lt; omega) (by intro he; have := (row_block u.oF he.symm).1; omega)⟩
  have nw := row_set (o := 1) (u := v') ho hbox (by decide)
  rw [← flat_snoc] at nw
  have kT := row_set (o := 1) (u := v') (row_by u.oT u.oF gr (by decide)) hbox (by decide)
  have kB := row_set (o := 1) (u := v') (row_by u.oB u.oF gr (by decide)) hbox (by decide)
  have kD := row_set (o := 1) (u := v') (row_by u.oD u.oF gr (by decide)) hbox (by decide)
  have kL := row_set (o := 1) (u := v') (row_by u.oL u.oF gr (by decide)) hbox (by decide)
  refine ⟨hbox, (u.bel.trans bW).setCell (p := ⟨gb, 1, none⟩) h.ge v', h.ge, ?_, kT, by simpa using nw, kB, kD, kL, h.ul, ?_⟩
  · rw [hset]; exact setRow_heap W gb _ _ _ _ hbox
  · intro j u' t hu ht
    exact row_set (row_by (u.oI j u' t hu ht) u.oF gr (by decide)) hbox (by decide)
theorem Cp.addL {W0 : World} {B gb : Nat} {en : Int} {w wx W : World} {vT vF vB vD vL v' : Value} {xT : List Int} {xF : List Fn} {us : List Value} {xB : List (List Int)} {xD : List Int} {xL : List Ln} (h : Cp W0 B gb en w vT vF vB vD vL xT xF us xB xD xL) (hb : Below w.heap.size w wx) (x : Ln) (ho : W.ownsRow B 43 2 v' (xL.length + 1) (flat Ln.cells xL ++ Ln.cells x)) (gr : wx.grownBy W vL.ownBlock) :
    W.heap[gb]? = some (.cells #[vT, vF, vB, vD, vL, .int .i64 en] 29) ∧ Cp W0 B gb en (W.setCell ⟨gb, 4, none⟩ v') vT vF vB vD v' xT xF us xB xD (xL ++ [x]) := by
  have u := h.up hb
  have hbox : W.heap[gb]? = some (.cells #[vT, vF, vB, vD, vL, .int .i64 en] 29) := (gr.block gb u.lt (row_ne u.oL u.box (by decide))).trans u.box
  have hset := setCell_eq_setRow W gb 4 _ _ _ v' hbox
  have bW : Below B wx W := ⟨gr.os, gr.tape, gr.output, gr.size, fun k hk => gr.block k (by have := u.ge; have := u.lt; omega) (by intro he; have := (row_block u.oL he.symm).1; omega)⟩
  have nw := row_set (o := 4) (u := v') ho hbox (by decide)
  rw [← flat_snoc] at nw
  have kT := row_set (o := 4) (u := v') (row_by u.oT u.oL gr (by decide)) hbox (by decide)
  have kF := row_set (o := 4) (u := v') (row_by u.oF u.oL gr (by decide)) hbox (by decide)
  have kB := row_set (o := 4) (u := v') (row_by u.oB u.oL gr (by decide)) hbox (by decide)
  have kD := row_set (o := 4) (u := v') (row_by u.oD u.oL gr (by decide)) hbox (by decide)
  refine ⟨hbox, (u.bel.trans bW).setCell (p := ⟨gb, 4, none⟩) h.ge v', h.ge, ?_, kT, kF, kB, kD, by simpa using nw, h.ul, ?_⟩
  · rw [hset]; exact setRow_heap W gb _ _ _ _ hbox
  · intro j u' t hu ht
    exact row_set (row_by (u.oI j u' t hu ht) u.oL gr (by decide)) hbox (by decide)
theorem Cp.addB {W0 : World} {B gb : Nat} {en : Int} {w wx W : World} {vT vF vB vD vL v' : Value} {xT : List Int} {xF : List Fn} {us : List Value} {xB : List (List Int)} {xD : List Int} {xL : List Ln} (h : Cp W0 B gb en w vT vF vB vD vL xT xF us xB xD xL) (hb : Below w.heap.size w wx) (x : Value) (t : List Int) (ho : W.ownsRow B 26 1 v' (us.length + 1) (flat vcell us ++ vcell x)) (gr : wx.grownBy W vB.ownBlock) (hin : w.ownsRow B 3 1 x t.length (flat icell t)) :
    W.heap[gb]? = some (.cells #[vT, vF, vB, vD, vL, .int .i64 en] 29) ∧ Cp W0 B gb en (W.setCell ⟨gb, 2, none⟩ v') vT vF v' vD vL xT xF (us ++ [x]) (xB ++ [t]) xD xL := by
  have u := h.up hb
  have hbox : W.heap[gb]? = some (.cells #[vT, vF, vB, vD, vL, .int .i64 en] 29) := (gr.block gb u.lt (row_ne u.oB u.box (by decide))).trans u.box
  have hset := setCell_eq_setRow W gb 2 _ _ _ v' hbox
  have bW : Below B wx W := ⟨gr.os, gr.tape, gr.output, gr.size, fun k hk => gr.block k (by have := u.ge; have := u.lt; omega) (by intro he; have := (row_block u.oB he.symm).1; omega)⟩
  have nw := row_set (o := 2) (u := v') ho hbox (by decide)
  rw [← flat_snoc] at nw
  have kT := row_set (o := 2) (u := v') (row_by u.oT u.oB gr (by decide)) hbox (by decide)
  have kF := row_set (o := 2) (u := v') (row_by u.oF u.oB gr (by decide)) hbox (by decide)
  have kD := row_set (o := 2) (u := v') (row_by u.oD u.oB gr (by decide)) hbox (by decide)
  have kL := row_set (o := 2) (u := v') (row_by u.oL u.oB gr (by decide)) hbox (by decide)
  refine ⟨hbox, (u.bel.trans bW).setCell (p := ⟨gb, 2, none⟩) h.ge v', h.ge, ?_, kT, kF, by simpa using nw, kD, kL, by simp [h.ul], ?_⟩
  · rw [hset]; exact setRow_heap W gb _ _ _ _ hbox
  · intro j u' t' hu ht
    rcases Nat.lt_or_ge j us.length with q | q
    · rw [List.getElem?_append_left q] at hu
      rw [List.getElem?_append_left (by have := h.ul; omega)] at ht
      exact row_set (row_by (u.oI j u' t' hu ht) u.oB gr (by decide)) hbox (by decide)
    · have hj : j = us.length := by
        have := (List.getElem?_eq_some_iff.1 hu).1
        simp at this; omega
      subst hj
      rw [List.getElem?_append_right (Nat.le_refl _), Nat.sub_self] at hu
      rw [h.ul, List.getElem?_append_right (Nat.le_refl _), Nat.sub_self] at ht
      simp at hu ht
      subst hu ht
      exact row_set (row_by (row_up hin hb) u.oB gr (by decide)) hbox (by decide)
theorem chain6 {wn : World} {g : Nat} {T : TypeId} {a0 a1 a2 a3 a4 a5 : Value} (zb : wn.heap[g]? = some (.cells #[a0, a1, a2, a3, a4, a5] T)) (b0 b1 b2 b3 b4 b5 : Value) :
    ((((((wn.setCell ⟨g, 0, none⟩ b0).setCell ⟨g, 1, none⟩ b1).setCell ⟨g, 2, none⟩ b2).setCell ⟨g, 3, none⟩ b3).setCell ⟨g, 4, none⟩ b4).setCell ⟨g, 5, none⟩ b5).heap[g]? = some (.cells #[b0, b1, b2, b3, b4, b5] T) :=
  heap_setCell_same _ g 5 _ T b5 (heap_setCell_same _ g 4 _ T b4 (heap_setCell_same _ g 3 _ T b3 (heap_setCell_same _ g 2 _ T b2 (heap_setCell_same _ g 1 _ T b1 (heap_setCell_same wn g 0 _ T b0 zb)))))
theorem chain6_other (wn : World) (g k : Nat) (hk : k ≠ g) (b0 b1 b2 b3 b4 b5 : Value) :
    ((((((wn.setCell ⟨g, 0, none⟩ b0).setCell ⟨g, 1, none⟩ b1).setCell ⟨g, 2, none⟩ b2).setCell ⟨g, 3, none⟩ b3).setCell ⟨g, 4, none⟩ b4).setCell ⟨g, 5, none⟩ b5).heap[k]? = wn.heap[k]? := by
  iterate 6 rw [heap_setCell_other _ _ _ _ (by simpa using hk)]
theorem chain6_below {B : Nat} {W wn : World} {g : Nat} (h : Below B W wn) (hg : B ≤ g) (b0 b1 b2 b3 b4 b5 : Value) :
    Below B W ((((((wn.setCell ⟨g, 0, none⟩ b0).setCell ⟨g, 1, none⟩ b1).setCell ⟨g, 2, none⟩ b2).setCell ⟨g, 3, none⟩ b3).setCell ⟨g, 4, none⟩ b4).setCell ⟨g, 5, none⟩ b5) :=
  (((((h.setCell (p := ⟨g, 0, none⟩) hg b0).setCell (p := ⟨g, 1, none⟩) hg b1).setCell (p := ⟨g, 2, none⟩) hg b2).setCell (p := ⟨g, 3, none⟩) hg b3).setCell (p := ⟨g, 4, none⟩) hg b4).setCell (p := ⟨g, 5, none⟩) hg b5
theorem row_low {w : World} {B B2 sz n : Nat} {E : TypeId} {v : Value} {xs : List Value} (h : w.ownsRow B E sz v n xs) (hB : B2 ≤ B) : w.ownsRow B2 E sz v n xs := ⟨h.1, by
  rcases h.2 with q | ⟨g, cap, cur, hv, q1, q2, q3⟩
  · exact Or.inl q
  · exact Or.inr ⟨g, cap, cur, hv, by omega, q2, q3⟩⟩
theorem vcell_one {x : Value} (hx : x.oneCell' = true) : ∀ u ∈ vcell x, u.oneCell' = true := by intro u hu; simp [vcell] at hu; subst hu; exact hx
end Go.Proofs.YtechpdfcgimkkaaDoor
