/-
  package step: one number more is told.
-/
import Derived.Test.YtechpdfcgimkkaaDoorMcSt
namespace Go.Proofs.YtechpdfcgimkkaaDoor
open Go.RowKit Go.Joins Isa
theorem flat_snocI (xs : List Int) (x : Int) : flat icell (xs ++ [x]) = flat icell xs ++ icell x := by unfold flat; rw [List.flatMap_append]; simp
theorem MSt.tell {w0 w wx W : World} {B gm gd : Nat} {vT vI vO vO' : Value} {s : Mc} {x pc' : Int} (h : MSt w0 w B gm gd vT vI vO s) (hb : Below w.heap.size w wx) (ho : W.ownsRow B 3 1 vO' (s.told.length + 1) (flat icell s.told ++ icell x)) (gr : wx.grownBy W vO.ownBlock) :
    W.heap[gm]? = some (.cells (Mc.cells s.rs (.slice (some ⟨gd, 0, none⟩) s.mem.length s.mem.length) vT vI vO s.pc) 105) ∧
    MSt w0 ((W.setCell ⟨gm, 19, none⟩ vO').setCell ⟨gm, 20, none⟩ (.int .i64 pc')) B gm gd vT vI vO' ⟨s.rs, s.mem, s.ins, s.told ++ [x], pc'⟩ := by
  have u := h.up hb
  have hBw : B ≤ wx.heap.size := by have := u.mach.lt; have := u.ge; omega
  have oth : ∀ (k : Nat) (cs : Array Value) (T : TypeId), wx.heap[k]? = some (.cells cs T) → T ≠ 3 → W.heap[k]? = some (.cells cs T) := fun k cs T hk hT => (gr.block k (Array.getElem?_eq_some_iff.1 hk).1 (row_ne u.told hk hT)).trans hk
  have hbox := oth gm _ _ u.box (by decide)
  have hmem := oth gd _ _ u.mem (by decide)
  have C := ((Chg.refl hbox).set 19 vO').set 20 (.int .i64 pc')
  rw [cells_told _ _ _ _ _ _ _ h.mach.len, cells_pc _ _ _ _ _ _ _ h.mach.len] at C
  have bW : Below B wx W := ⟨gr.os, gr.tape, gr.output, gr.size, fun k hk => gr.block k (by omega) (by intro he; have := (row_block u.told he.symm).1; omega)⟩
  refine ⟨hbox, ⟨h.mach.len, C.new⟩, (C.rest gd (Array.getElem?_eq_some_iff.1 hmem).1 h.apart).trans hmem, ?_, h.ins, h.ge, h.geD, h.hB, (u.base.trans bW).trans (C.below h.ge)⟩
  show World.ownsRow _ B _ 1 vO' (s.told ++ [x]).length (flat icell (s.told ++ [x]))
  rw [flat_snocI, List.length_append]
  refine row_same ho fun k hk => ?_
  obtain ⟨_, cur, hg⟩ := row_block ho hk
  exact C.rest k (Array.getElem?_eq_some_iff.1 hg).1 (by rintro rfl; rw [hbox] at hg; simp at hg)
/-- A register, by the next input. -/
theorem MSt.regIn {w0 w w' : World} {B gm gd : Nat} {vT vI vO vI' : Value} {s : Mc} {ins' : List Int} (h : MSt w0 w B gm gd vT vI vO s) (D : Nat) (hD : D < 8) (v : Vl) (pc' : Int) (hI : ListAt w0 icell 1 vI' ins')
    (C : Chg w w' gm (((((Mc.cells s.rs (.slice (some ⟨gd, 0, none⟩) s.mem.length s.mem.length) vT vI vO s.pc).setIfInBounds 18 vI').setIfInBounds (D * 2) (.int .i64 v.n)).setIfInBounds (D * 2 + 1) (.bool v.c)).setIfInBounds 20 (.int .i64 pc')) 105) :
    MSt w0 w' B gm gd vT vI' vO ⟨s.rs.set D v, s.mem, ins', s.told, pc'⟩ :=
  h.turn C (by rw [cells_ins _ _ _ _ _ _ _ h.mach.len, cells_reg _ _ _ _ _ _ h.mach.len D hD, cells_pc _ _ _ _ _ _ _ (by rw [List.length_set]; exact h.mach.len)]) (by rw [List.length_set]; exact h.mach.len) hI
end Go.Proofs.YtechpdfcgimkkaaDoor
