/-
  A slice of bytes that comes in is not longer than the form lets data be.
-/
import Derived.Test.YtkofnmeononlaaaDoorLaidMore
import Derived.SizedLaws
namespace Go.Proofs.YtkofnmeononlaaaDoor
open Go.ChangeShapes Go.WideShapes Go.ChangeAt Go.WideMaps Go.WideElems Go.RowKit Go.Joins Go.Deep Isa
theorem byte_one : Program.bytesOf Tryd.prog 5 = 1 := by kernel_rfl
section
variable {H : Type} {enc : TypeId × Value → H} {w : World} {base : Nat} {spare : Nat → Bool} {held : Bool}
theorem text_small {v : Value} {x : DataW H} {p : List MemPlace} {ns : List Int} {ts : List TypeId} {ds : List (DataW H)} {j : Nat} (hsz : (DataW.weightsEach Tryd.prog ts ds).all (· ≤ reachBytes) = true) (ht : ts[j]? = some 29) (hd : ds[j]? = some x)
    (h : DataW.Trod enc Tryd.prog w base spare held 29 v x p) (hT : TextAt w v ns) : ns.length ≤ 140737488351232 := by
  have hlen : ∃ a cap, v = .slice a ns.length cap := by
    rcases hT.2 with ⟨a, cap, rfl, rfl⟩ | ⟨bb, oo, cap, rfl, _⟩
    · exact ⟨a, cap, rfl⟩
    · exact ⟨_, cap, rfl⟩
  obtain ⟨a, cap, rfl⟩ := hlen
  obtain ⟨fuel, hf⟩ := h
  rcases open_ints Tryd.underlying29 Tryd.underlying5 cByte hf with ⟨hcs, _⟩ | ⟨y, l, c, zs, hcs, _, hl, hm, hz, hx, hcell, hwz⟩
  · simp [Value.cells] at hcs
    simp [hcs]
  · simp [Value.cells] at hcs
    obtain ⟨rfl, hl', rfl⟩ := hcs
    subst hl'
    have hzl : ns.length ≤ zs.length := by rw [hz]; split <;> omega
    obtain ⟨rfl, _⟩ := Prod.mk.inj hx
    have := sized_slice hsz ht hd Tryd.underlying29
    rw [byte_one] at this
    simp [lits, reachBytes] at this
    omega
end
end Go.Proofs.YtkofnmeononlaaaDoor
