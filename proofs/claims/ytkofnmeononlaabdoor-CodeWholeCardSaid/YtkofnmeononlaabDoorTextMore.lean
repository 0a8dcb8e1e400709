/-
  A slice that is a text stays one where nothing below its world changes; a slice made of bytes is a text.
-/
import Derived.Test.YtkofnmeononlaabDoorPureEnc
namespace Go.Proofs.YtkofnmeononlaabDoor
open Go.RowKit Go.Joins Isa
theorem text_stays {w w' : World} {v : Value} {ns : List Int} {B : Nat} (h : TextAt w v ns) (hB : w.heap.size ≤ B) (hb : Below B w w') : TextAt w' v ns := by
  refine ⟨h.1, ?_⟩
  rcases h.2 with q | ⟨bb, oo, cap, e, h1, h2, h3, h4⟩
  · exact Or.inl q
  · refine Or.inr ⟨bb, oo, cap, e, h1, h2, Nat.lt_of_lt_of_le h3 hb.size, fun j x hj => ?_⟩
    rw [hb.cell (p := ⟨bb, _, none⟩) (by show bb < B; omega)]
    exact h4 j x hj
theorem text_made (w : World) (ns : List Int) (hx : ∀ x ∈ ns, 0 ≤ x ∧ x ≤ 255) (hl : ns.length ≤ maxLen) (B : Nat) (hB : B = w.heap.size) (n : Nat) (hn : n = ns.length) (C : Array Value) (hC : C = (ns.map (Value.int .u8)).toArray) :
    TextAt (w.alloc (.cells C 5)) (.slice (some ⟨B, 0, none⟩) n n) ns := by
  subst hB hn hC
  refine ⟨hx, Or.inr ⟨_, 0, _, rfl, Nat.le_refl _, hl, by simp, fun j x hj => ?_⟩⟩
  rw [Nat.zero_add, World.cell?_alloc_new]
  simp [hj]
end Go.Proofs.YtkofnmeononlaabDoor
