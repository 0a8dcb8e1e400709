/-
  Rows of the call's own, by their elements' types.
-/
import Derived.Test.YtechpdfcgimkkaaDoorCopyKit
import Derived.Deep.AppendLies
import Derived.Maps.AppendAt
namespace Go.Proofs.YtechpdfcgimkkaaDoor
open Go.RowKit Go.Joins
theorem row_block {w : World} {B sz n : Nat} {E : TypeId} {v : Value} {xs : List Value} (h : w.ownsRow B E sz v n xs) {k : Nat} (hk : v.ownBlock = some k) : B ≤ k ∧ ∃ cur, w.heap[k]? = some (.cells cur E) := by
  rcases h.2 with ⟨rfl, _⟩ | ⟨g, cap, cur, rfl, hB, hg, _⟩
  · cases hk
  · have : g = k := by simpa [Value.ownBlock] using hk
    subst this
    exact ⟨hB, _, hg⟩
theorem row_same {w w' : World} {B sz n : Nat} {E : TypeId} {v : Value} {xs : List Value} (h : w.ownsRow B E sz v n xs) (hk : ∀ k, v.ownBlock = some k → w'.heap[k]? = w.heap[k]?) : w'.ownsRow B E sz v n xs := by
  refine ⟨h.1, ?_⟩
  rcases h.2 with q | ⟨g, cap, cur, rfl, q1, q2, q3⟩
  · exact Or.inl q
  · exact Or.inr ⟨g, cap, cur, rfl, q1, (hk g rfl).trans q2, q3⟩
theorem row_ne {w : World} {B sz n : Nat} {E : TypeId} {v : Value} {xs : List Value} (h : w.ownsRow B E sz v n xs) {k : Nat} {cs : Array Value} {T : TypeId} {fr : Nat × Nat} (hk : w.heap[k]? = some (.cells cs T fr)) (hT : T ≠ E) : some k ≠ v.ownBlock := by
  intro he
  obtain ⟨_, cur, hg⟩ := row_block h he.symm
  rw [hk] at hg
  simp at hg
  exact hT hg.2.1
/-- A row stays where another one, of another type, grows. -/
theorem row_by {w W : World} {B sz n B2 sz2 n2 : Nat} {E E2 : TypeId} {v v2 : Value} {xs xs2 : List Value} (h : w.ownsRow B E sz v n xs) (h2 : w.ownsRow B2 E2 sz2 v2 n2 xs2) (gr : w.grownBy W v2.ownBlock) (hE : E ≠ E2) : W.ownsRow B E sz v n xs :=
  row_same h fun k hk => by
    obtain ⟨_, cur, hg⟩ := row_block h hk
    exact gr.block k (Array.getElem?_eq_some_iff.1 hg).1 (row_ne h2 hg hE)
theorem row_set {w : World} {B sz n gb o : Nat} {E T : TypeId} {v u : Value} {xs : List Value} {cs : Array Value} (h : w.ownsRow B E sz v n xs) (hg : w.heap[gb]? = some (.cells cs T)) (hT : T ≠ E) : (w.setCell ⟨gb, o, none⟩ u).ownsRow B E sz v n xs :=
  row_same h fun k hk => heap_setCell_other _ _ _ _ (by rintro rfl; exact row_ne h hg hT hk.symm)
theorem row_up {w w' : World} {B sz n : Nat} {E : TypeId} {v : Value} {xs : List Value} (h : w.ownsRow B E sz v n xs) (hb : Below w.heap.size w w') : w'.ownsRow B E sz v n xs :=
  row_same h fun k hk => hb.block k (by obtain ⟨_, _, hg⟩ := row_block h hk; exact (Array.getElem?_eq_some_iff.1 hg).1)
theorem row_list {α : Type} {w : World} {B sz : Nat} {E : TypeId} {v : Value} {cells : α → List Value} {xs : List α} (hl : ∀ a, (cells a).length = sz) (h : w.ownsRow B E sz v xs.length (flat cells xs)) : ListAt w cells sz v xs := by
  rcases h.2 with ⟨rfl, h0⟩ | ⟨g, cap, cur, hv, q1, q2, q3, q4, q5, q6⟩
  · exact Or.inl ⟨_, _, rfl, List.length_eq_zero_iff.1 h0⟩
  · refine Or.inr ⟨g, 0, cap, hv, q3, q4, (Array.getElem?_eq_some_iff.1 q2).1, fun j x hx o u hu => ?_⟩
    have ho : o < sz := by
      rcases Nat.lt_or_ge o sz with q | q
      · exact q
      · rw [List.getElem?_eq_none (by rw [hl]; exact q)] at hu; cases hu
    have := h.cells (g := g) (by rw [hv]; rfl) (j * sz + o) u (by rw [flat_at hl xs j x hx o ho]; exact hu)
    rwa [Addr.add_lit, ← Nat.add_assoc] at this
theorem row_form {w : World} {B sz n : Nat} {E : TypeId} {v : Value} {xs : List Value} (h : w.ownsRow B E sz v n xs) : ∃ a l c, v = .slice a l c := by
  rcases h.2 with ⟨rfl, _⟩ | ⟨_, _, _, rfl, _⟩ <;> exact ⟨_, _, _, rfl⟩
/-- append(v, x): x's cells in a row that the statement makes. -/
theorem row_app (E S : TypeId) (sz bytes : Nat) (z : Value) (hU : Tryd.prog.underlying S = some (.slice E)) (hi : (Tryd.prog.info? E).map (fun i => (i.zero, i.size, i.bytes)) = some (some z, sz, bytes)) (hzs : z.cells.size = sz) (hsz : 0 < sz)
    {w wx : World} {B n : Nat} {v : Value} {xs : List Value} (h : w.ownsRow B E sz v n xs) (hB : B ≤ w.heap.size) (c : List Value) (hc : c.length = sz) (h1 : ∀ u ∈ c, u.oneCell' = true) (hb : (n + 1) * bytes ≤ 140737488355328) (h63 : n + 1 ≤ maxLen) (hx : wx = w.alloc (.cells c.toArray E) ∨ wx = (w.alloc (.cells c.toArray E)).drew) :
    ∃ v' W, (Builtin.append_ #[S, S] S #[v, .slice (some ⟨w.heap.size, 0, none⟩) 1 1]).run Tryd.prog wx = .ok v' W ∧ W.ownsRow B E sz v' (n + 1) (xs ++ c) ∧ wx.grownBy W v.ownBlock ∧ Below w.heap.size w wx := by
  obtain ⟨i, hi, hz0, hz1, hz2⟩ := info_of hi
  have hbel : Below w.heap.size w wx := by
    rcases hx with rfl | rfl
    · exact (Below.refl _ _).alloc (Nat.le_refl _) _
    · exact ((Below.refl _ _).alloc (Nat.le_refl _) _).drew
  have hcell : ∀ j, wx.cell? ⟨w.heap.size, j, none⟩ = c[j]? := fun j => by
    have : (w.alloc (.cells c.toArray E)).cell? ⟨w.heap.size, j, none⟩ = c[j]? := by rw [World.cell?_alloc_new]; simp
    rcases hx with rfl | rfl
    · exact this
    · exact this
  obtain ⟨v', W, hr, ho, gr, _, _⟩ := run_append_own_at (P := Tryd.prog) wx B S S E i z sz bytes hU hi hz0 hz1 hz2 hzs hsz v n xs (row_up h hbel) ⟨w.heap.size, 0, none⟩ 1 1 c (by rw [hc, Nat.one_mul]) (fun j u hj => by rw [Addr.add_lit, Nat.zero_add, hcell, hj]) h1 h63 hb (by have := hbel.size; omega)
  exact ⟨v', W, hr, ho, gr, hbel⟩
end Go.Proofs.YtechpdfcgimkkaaDoor
