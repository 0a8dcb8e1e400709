/-
  Edges that came in, opened.
-/
import Derived.Test.YtifenanbcopodaaLaidList
import Derived.Test.YtifenanbcopodaaPureEd
namespace Go.Proofs.Ytifenanbcopodaa
open Go.ChangeShapes Go.WideShapes Go.ChangeAt Go.WideMaps Go.WideElems Go.RowKit Go.Joins Go.Deep
theorem jEd : Try.prog.cellsOf 28 = 3 := by kernel_rfl
theorem wEd : Program.bytesOf Try.prog 28 = 24 := by kernel_rfl
section
variable {H : Type} {enc : TypeId × Value → H} {w : World} {base : Nat} {spare : Nat → Bool} {held : Bool}
theorem open_elist {fuel : Nat} {v : Value} {x : DataW H × List MemPlace} (h : DataW.trod enc Try.prog w base spare held fuel 22 [v] = some x) : ∃ xs : List Ed, (∀ x ∈ xs, x.ok) ∧ ListAt w Ed.cells 3 v xs :=
  open_list Ed.cells Ed.ok Try.underlying22 jEd (by decide) (fun _ => rfl) (fun n cs x hl ht => by
    obtain ⟨y0, y1, y2, n', _, _, t0, t1, t2⟩ := trod_struct3 Try.underlying28 ht
    match cs, hl with
    | [c0, c1, c2], _ =>
      simp only [jInt] at t0 t1 t2
      obtain ⟨a, e0, _, w0⟩ := DataW.trod_int Try.underlying3 t0
      obtain ⟨b, e1, _, w1⟩ := DataW.trod_int Try.underlying3 t1
      obtain ⟨c, e2, _, w2⟩ := DataW.trod_int Try.underlying3 t2
      simp at e0 e1 e2
      subst e0 e1 e2
      exact ⟨⟨a, b, c⟩, ⟨wf64 w0, wf64 w1, wf64 w2⟩, rfl⟩) h
theorem open_edges {r : Reach} {b0 : Nat} {v : Value} {x : DataW H} {p : List MemPlace} {ts : List TypeId} {ds : List (DataW H)} {j : Nat} (hsz : (DataW.weightsEach Try.prog ts ds).all (· ≤ reachBytes) = true) (ht : ts[j]? = some 22) (hd : ds[j]? = some x)
    (hv : Value.okWide Try.prog w r b0 22 v) (h : DataW.Trod enc Try.prog w base spare held 22 v x p) : ∃ xs : List Ed, ListAt w Ed.cells 3 v xs ∧ (∀ x ∈ xs, x.ok) ∧ xs.length * 24 ≤ 140737488351232 := by
  obtain ⟨a, len, cap, rfl⟩ := okWide_slice Try.underlying22 hv
  obtain ⟨fuel, hf⟩ := h
  simp only [Value.cells] at hf
  obtain ⟨xs, h1, h2⟩ := open_elist hf
  refine ⟨xs, h2, h1, ?_⟩
  obtain ⟨a', cap', hv', _⟩ := h2.form
  cases hv'
  have := slice_fits Try.underlying22 hf (R := 140737488351232) (fun n hn => by
    have := List.all_eq_true.1 hsz n (DataW.weights_mem_each ht hd n hn)
    exact Nat.le_trans (of_decide_eq_true this) (by decide))
  rw [wEd] at this
  exact this
end
end Go.Proofs.Ytifenanbcopodaa
