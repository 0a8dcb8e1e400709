/-
  A slice of Raws that came in, opened.
-/
import Derived.Test.YtkofnmeononlaabDoorLaidMore
import Derived.Test.YtkofnmeononlaabDoorPureWhole
namespace Go.Proofs.YtkofnmeononlaabDoor
open Go.ChangeShapes Go.WideShapes Go.ChangeAt Go.WideMaps Go.WideElems Go.RowKit Go.Joins Go.Deep Isa
theorem rwOk {k a b c : Int} (w0 : (Lit.int .i64 k).wf = true) (w1 : (Lit.int .i64 a).wf = true) (w2 : (Lit.int .i64 b).wf = true) (w3 : (Lit.int .i64 c).wf = true) : Rw.ok ⟨k, a, b, c⟩ :=
  ⟨(bd64 w0).1, (bd64 w0).2, (bd64 w1).1, (bd64 w1).2, (bd64 w2).1, (bd64 w2).2, (bd64 w3).1, (bd64 w3).2⟩
section
variable {H : Type} {enc : TypeId × Value → H} {w : World} {base : Nat} {spare : Nat → Bool} {held : Bool}
theorem open_raws {r : Reach} {b0 : Nat} {v : Value} {x : DataW H} {p : List MemPlace} (hv : Value.okWide Tryd.prog w r b0 43 v) (h : DataW.Trod enc Tryd.prog w base spare held 43 v x p) :
    ∃ rs, RawsAt w v rs := by
  obtain ⟨a, len, cap, rfl⟩ := okWide_slice Tryd.underlying43 hv
  obtain ⟨fuel, hf⟩ := h
  rcases DataW.trod_slice Tryd.underlying43 hf with ⟨hcs, _⟩ | ⟨y, l, c, elems, rest, n, _, hcs, _, hb, hl, hm, hlen, hel, _, _⟩
  · simp [Value.cells] at hcs
    obtain ⟨rfl, rfl, rfl⟩ := hcs
    exact ⟨[], ⟨fun _ h => (by cases h), Or.inl ⟨_, _, rfl, rfl⟩⟩⟩
  · simp [Value.cells] at hcs
    obtain ⟨rfl, rfl, rfl⟩ := hcs
    rw [cRaw] at hel
    have each : ∀ i, i < len → ∃ r : Rw, r.ok ∧ w.cell? ((y.add (i * 4)).add 0) = some (.int .i64 r.K) ∧ w.cell? ((y.add (i * 4)).add 1) = some (.int .i64 r.A) ∧ w.cell? ((y.add (i * 4)).add 2) = some (.int .i64 r.B) ∧ w.cell? ((y.add (i * 4)).add 3) = some (.int .i64 r.C) := by
      intro i hi
      have he := hel i hi
      rw [List.getElem?_eq_getElem (by omega), Option.bind_eq_some_iff] at he
      obtain ⟨cs, hcs, ht⟩ := he
      obtain ⟨_, hl4, hc⟩ := World.cells?_some hcs
      obtain ⟨y0, y1, y2, y3, n', _, _, t0, t1, t2, t3⟩ := trod_struct4 Tryd.underlying23 ht
      match cs, hl4 with
      | [c0, c1, c2, c3], _ =>
        simp only [cInt] at t0 t1 t2 t3
        obtain ⟨k, e0, _, w0⟩ := DataW.trod_int Tryd.underlying3 t0
        obtain ⟨a, e1, _, w1⟩ := DataW.trod_int Tryd.underlying3 t1
        obtain ⟨b, e2, _, w2⟩ := DataW.trod_int Tryd.underlying3 t2
        obtain ⟨c, e3, _, w3⟩ := DataW.trod_int Tryd.underlying3 t3
        simp at e0 e1 e2 e3
        subst e0 e1 e2 e3
        exact ⟨⟨k, a, b, c⟩, rwOk w0 w1 w2 w3, hc 0 (by decide), hc 1 (by decide), hc 2 (by decide), hc 3 (by decide)⟩
    obtain ⟨f, hf'⟩ : ∃ f : Nat → Rw, ∀ i, i < len → (f i).ok ∧ w.cell? ((y.add (i * 4)).add 0) = some (.int .i64 (f i).K) ∧ w.cell? ((y.add (i * 4)).add 1) = some (.int .i64 (f i).A) ∧ w.cell? ((y.add (i * 4)).add 2) = some (.int .i64 (f i).B) ∧ w.cell? ((y.add (i * 4)).add 3) = some (.int .i64 (f i).C) := by
      refine ⟨fun i => if h : i < len then Classical.choose (each i h) else ⟨0, 0, 0, 0⟩, fun i h => ?_⟩
      simp only [dif_pos h]
      exact Classical.choose_spec (each i h)
    have hlen2 : ((List.range len).map f).length = len := by simp
    refine ⟨(List.range len).map f, fun r hr => ?_, ?_⟩
    · obtain ⟨i, hi, rfl⟩ := List.mem_map.1 hr
      exact (hf' i (List.mem_range.1 hi)).1
    by_cases h0 : len = 0
    · subst h0; exact Or.inl ⟨_, _, rfl, by simp⟩
    obtain ⟨b, off, spot⟩ := y
    have hc := (hf' 0 (by omega)).2.1
    have hspot : spot = none := by simpa [Addr.add] using World.cell?_spot hc
    subst hspot
    refine Or.inr ⟨b, off, cap, by rw [hlen2], by omega, hm, ?_, fun j r hj => ?_⟩
    · rcases Nat.lt_or_ge b w.heap.size with q | q
      · exact q
      · rw [Addr.add_lit, Addr.add_lit] at hc
        simp [World.cell?, Array.getElem?_eq_none q] at hc
    · have hj' : j < len := by
        rcases Nat.lt_or_ge j len with q | q
        · exact q
        · rw [List.getElem?_eq_none (by omega)] at hj; cases hj
      obtain ⟨_, q0, q1, q2, q3⟩ := hf' j hj'
      rw [Addr.add_lit, Addr.add_lit] at q0 q1 q2 q3
      simp [hj'] at hj
      subst hj
      exact ⟨q0, q1, q2, q3⟩
end
end Go.Proofs.YtkofnmeononlaabDoor
