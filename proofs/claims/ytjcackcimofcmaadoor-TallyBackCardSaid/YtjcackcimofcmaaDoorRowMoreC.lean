/-
  Rows of the call's own: what they are made of, a whole slice more, a literal.
-/
import Derived.Test.YtjcackcimofcmaaDoorMCC
namespace Go.Proofs.YtjcackcimofcmaaDoor
open Go.RowKit Go.Joins
theorem orow_some {w : World} {B sz n : Nat} {E : TypeId} {v : Value} {xs : List Value} (h : w.ownsRow B E sz v n xs) (hn : n ≠ 0) : ∃ g cap, v = .slice (some ⟨g, 0, none⟩) n cap := by
  obtain ⟨g, cap, cur, hv, _⟩ := h.2.resolve_left (fun q => hn q.2)
  exact ⟨g, cap, hv⟩
theorem orow_form' {w : World} {B sz n : Nat} {E : TypeId} {v : Value} {xs : List Value} (h : w.ownsRow B E sz v n xs) : ∃ a cap, v = .slice a n cap := by
  rcases h.2 with ⟨hv, hn⟩ | ⟨g, cap, cur, hv, _⟩
  · exact ⟨none, 0, by rw [hv, hn]⟩
  · exact ⟨_, cap, hv⟩
theorem orow_cells {w : World} {B sz n g cap : Nat} {E : TypeId} {xs : List Value} (h : w.ownsRow B E sz (.slice (some ⟨g, 0, none⟩) n cap) n xs) (j : Nat) (u : Value) (hj : xs[j]? = some u) : w.cell? ⟨g, j, none⟩ = some u := by
  rcases h.2 with ⟨hv, _⟩ | ⟨g', cap', cur, hv, _, hg, _, _, _, ht⟩
  · cases hv
  · cases hv
    simp only [World.cell?, hg]
    rw [← ht] at hj
    have hlt : j < (cur.toList.take (n * sz)).length := (List.getElem?_eq_some_iff.1 hj).1
    rw [List.getElem?_take_of_lt (by simp at hlt; omega)] at hj
    simpa using hj
/-- A whole slice more. -/
theorem orow_apps (E S : TypeId) (sz bytes : Nat) (z : Value) (hU : Tryd.prog.underlying S = some (.slice E)) (hi : (Tryd.prog.info? E).map (fun i => (i.zero, i.size, i.bytes)) = some (some z, sz, bytes)) (hzs : z.cells.size = sz) (hsz : 0 < sz)
    {w : World} {B n : Nat} {v : Value} {xs : List Value} (h : w.ownsRow B E sz v n xs) (hB : B ≤ w.heap.size) (g off m cap : Nat) (news : List Value) (hl : news.length = m * sz) (hc : ∀ j u, news[j]? = some u → w.cell? ⟨g, off + j, none⟩ = some u) (h1 : ∀ u ∈ news, u.oneCell' = true) (hb : (n + m) * bytes ≤ 140737488355328) (h63 : n + m ≤ maxLen) :
    ∃ v' W, (Builtin.append_ #[S, S] S #[v, .slice (some ⟨g, off, none⟩) m cap]).run Tryd.prog w = .ok v' W ∧ W.ownsRow B E sz v' (n + m) (xs ++ news) ∧ w.grownBy W v.ownBlock := by
  obtain ⟨i, hi, hz0, hz1, hz2⟩ := info_of hi
  obtain ⟨v', W, hr, ho, gr, _, _⟩ := run_append_own_at (P := Tryd.prog) w B S S E i z sz bytes hU hi hz0 hz1 hz2 hzs hsz v n xs h ⟨g, off, none⟩ m cap news hl (fun j u hj => by rw [Addr.add_lit]; exact hc j u hj) h1 h63 hb hB
  exact ⟨v', W, hr, ho, gr⟩
theorem obelow_grown {w W : World} {B C sz n : Nat} {E : TypeId} {v : Value} {xs : List Value} (h : w.ownsRow B E sz v n xs) (gr : w.grownBy W v.ownBlock) (hC : C ≤ B) (hw : C ≤ w.heap.size) : Below C w W :=
  ⟨gr.os, gr.tape, gr.output, gr.size, fun k hk => gr.block k (by omega) (by intro he; have := (row_block h he.symm).1; omega)⟩
/-- A literal slice. -/
theorem row_lit (w : World) (B sz n g : Nat) (E : TypeId) (xs : List Value) (cs : Array Value) (hg : g = w.heap.size) (hB : B ≤ w.heap.size) (hc : cs = xs.toArray) (hx : xs.length = n * sz) (hm : n ≤ maxLen) : (w.alloc (.cells cs E)).ownsRow B E sz (.slice (some ⟨g, 0, none⟩) n n) n xs := by
  subst hc hg
  refine ⟨hx, Or.inr ⟨w.heap.size, n, xs.toArray, rfl, hB, ?_, Nat.le_refl _, hm, by simp [hx], by simp [← hx]⟩⟩
  show (w.heap.push _)[w.heap.size]? = _
  simp
end Go.Proofs.YtjcackcimofcmaaDoor
