/-
  A struct of six cells stored whole.
-/
import Derived.Test.YtechpdfcgimkkaaDoorCopyKit
import Derived.Deep.MidRow
namespace Go.Proofs.YtechpdfcgimkkaaDoor
open Go.RowKit Go.Joins
theorem inImg6 : (Tryd.prog.info? 29).map (·.size) = some 6 := by kernel_rfl
theorem wpList_store6 {w Z : World} {ops : Array Oper} {rest : List Oper} {o : Oper} {a : Act} {Q : Exit → Act → World → Prop} (hgd : o.guard = none) (x y : Operand) (ho : o.op = .store 29 x y) (k : Nat) {a0 a1 a2 a3 a4 a5 b0 b1 b2 b3 b4 b5 : Value} {T : TypeId} (hx : a.eval x = .pointer (some ⟨k, 0, none⟩)) (hy : a.eval y = .agg #[b0, b1, b2, b3, b4, b5])
    (hb : w.heap[k]? = some (.cells #[a0, a1, a2, a3, a4, a5] T)) (c0 : b0.oneCell' = true) (c1 : b1.oneCell' = true) (c2 : b2.oneCell' = true) (c3 : b3.oneCell' = true) (c4 : b4.oneCell' = true) (c5 : b5.oneCell' = true) (hZ : ((((((w.setCell ⟨k, 0, none⟩ b0).setCell ⟨k, 1, none⟩ b1).setCell ⟨k, 2, none⟩ b2).setCell ⟨k, 3, none⟩ b3).setCell ⟨k, 4, none⟩ b4).setCell ⟨k, 5, none⟩ b5) = Z)
    (h : wpList Tryd.prog ops Q rest (a.put o.dst undef) Z) : wpList Tryd.prog ops Q (o :: rest) a w := by
  subst hZ
  have h1 : (#[b0, b1, b2, b3, b4, b5] : Array Value).all (·.oneCell') = true := all_oneCell_toArray (cs := [b0, b1, b2, b3, b4, b5]) (by
    intro v hv
    simp at hv
    rcases hv with rfl | rfl | rfl | rfl | rfl | rfl <;> assumption)
  refine wpList_store_mid hgd 29 x y ho k 0 _ hx hy (fun j hj => ?_) inImg6 h1 h
  have hj6 : j < 6 := hj
  rw [Nat.zero_add]
  have : j = 0 ∨ j = 1 ∨ j = 2 ∨ j = 3 ∨ j = 4 ∨ j = 5 := by omega
  rcases this with rfl | rfl | rfl | rfl | rfl | rfl <;> simp [World.cell?, World.frozen?, hb]
end Go.Proofs.YtechpdfcgimkkaaDoor
