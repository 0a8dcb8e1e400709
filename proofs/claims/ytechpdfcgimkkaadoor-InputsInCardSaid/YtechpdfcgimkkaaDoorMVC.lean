/-
  'append([]T(nil), l...)': what comes of it is a list of its own with the same elements.
-/
import Derived.Test.YtechpdfcgimkkaaDoorMCC
import Derived.Deep.AppendSrc
import Derived.Deep.Upon
import Derived.Laws.Append
namespace Go.Proofs.YtechpdfcgimkkaaDoor
open Go.RowKit Go.Joins
theorem wpList_append_pair {P : Program} (w : World) {ops : Array Oper} {rest : List Oper} {o : Oper} {a : Act} {Q : Exit → Act → World → Prop} (hgd : o.guard = none) (s x : Operand) (t tn : TypeId)
    (ho : o.op = .call { callee := .builtin .append, args := #[s, x], argTypes := #[t, tn] }) (vs vx : Value) (hs : a.eval s = vs) (hx : a.eval x = vx)
    {v' : Value} {W : World} (hr : (Builtin.append_ #[t, tn] o.type #[vs, vx]).run P w = .ok v' W) (h : wpList P ops Q rest (a.put o.dst v') W) : wpList P ops Q (o :: rest) a w := by
  refine wpList_plain hgd fun K hK => ?_
  unfold Oper.wp
  simp [execOp, ho, resolve, invoke, builtin, hs, hx, hr, Result.andThen]
  exact hK _ _ h
theorem app_list {α : Type} (w : World) (cells : α → List Value) (sz bytes : Nat) (v z : Value) (xs : List α) (T E ty : TypeId) (h : ListAt w cells sz v xs) (hp : 0 < sz) (hl : ∀ a, (cells a).length = sz)
    (hu : Tryd.prog.underlying T = some (.slice E)) (hi : (Tryd.prog.info? E).map (fun i => (i.zero, i.size, i.bytes)) = some (some z, sz, bytes)) (hb : xs.length * bytes ≤ 281474976710656) :
    ∃ a cap W, (Builtin.append_ #[T, T] ty #[.slice none 0 0, v]).run Tryd.prog w = .ok (.slice a xs.length cap) W ∧ ListAt W cells sz (.slice a xs.length cap) xs ∧ Below w.heap.size w W := by
  obtain ⟨i, hi, hz, hs, hbs⟩ := info_of hi
  rcases h with ⟨a, cap, rfl, rfl⟩ | ⟨bb, oo, cap, rfl, h1, h2, h3, h4⟩
  · have hsrc : Src Tryd.prog i.size T (.slice a 0 cap) 0 [] w := by
      cases a with
      | none => exact Src.ofNil _ hu cap
      | some a => exact Src.ofSlice _ hu a 0 cap [] (by simp) (fun j u hj => by simp at hj) (fun u hu => by simp at hu)
    exact ⟨none, 0, w, run_append_nothing w T T ty E i hu hi none 0 0 (Nat.le_refl _) _ hsrc, Or.inl ⟨_, _, rfl, rfl⟩, Below.refl _ _⟩
  · by_cases h0 : xs.length = 0
    · obtain rfl := List.length_eq_zero_iff.1 h0
      have hsrc : Src Tryd.prog i.size T (.slice (some ⟨bb, oo, none⟩) 0 cap) 0 [] w := Src.ofSlice _ hu ⟨bb, oo, none⟩ 0 cap [] (by simp) (fun j u hj => by simp at hj) (fun u hu => by simp at hu)
      exact ⟨none, 0, w, run_append_nothing w T T ty E i hu hi none 0 0 (Nat.le_refl _) _ hsrc, Or.inl ⟨_, _, rfl, rfl⟩, Below.refl _ _⟩
    · have hn := run_append_nil (P := Tryd.prog) (w := w) T ty E i z hu hi hz ⟨bb, oo, none⟩ xs.length cap (flat cells xs) (by rw [flat_len hl, hs]) (list_src hp hl h4) (by omega) (by unfold maxLen at h2; omega) (by rw [hbs]; exact hb)
      refine ⟨_, _, _, hn, ?_, (Below.refl _ _).drew.alloc (Nat.le_refl _) _⟩
      have hg : grownCap w xs.length 0 E ≤ maxLen := grownCap_le_maxLen _ _ _ _ (by omega)
      have := list_made w.drew cells sz xs E hl (Builtin.zeroCells z.cells (grownCap w xs.length 0 E - xs.length)).toList (grownCap w xs.length 0 E) (grownCap_ge _ _ _ _) hg
      rw [show (flat cells xs ++ (Builtin.zeroCells z.cells (grownCap w xs.length 0 E - xs.length)).toList).toArray = (flat cells xs).toArray ++ Builtin.zeroCells z.cells (grownCap w xs.length 0 E - xs.length) by simp] at this
      exact this
end Go.Proofs.YtechpdfcgimkkaaDoor
/-
  Rows of the call's own: what they are made of, a whole slice more, a literal.
-/
namespace Go.Proofs.YtechpdfcgimkkaaDoor
open Go.RowKit Go.Joins
theorem orow_some {w : World} {B sz n : Nat} {E : TypeId} {v : Value} {xs : List Value} (h : w.ownsRow B E sz v n xs) (hn : n ≠ 0) : ∃ g cap, v = .slice (some ⟨g, 0, none⟩) n cap := by
  obtain ⟨g, cap, cur, hv, _⟩ := h.2.resolve_left (fun q => hn q.2)
  exact ⟨g, cap, hv⟩
theorem orow_form' {w : World} {B sz n : Nat} {E : TypeId} {v : Value} {xs : List Value} (h : w.ownsRow B E sz v n xs) : ∃ a cap, v = .slice a n cap := by
  rcases h.2 with ⟨hv, hn⟩ | ⟨g, cap, cur, hv, _⟩
  · exact ⟨none, 0, by rw [hv, hn]⟩
  · exact ⟨_, cap, hv⟩
theorem orow_cells {w : World} {B sz n g cap : Nat} {E : TypeId} {xs : List Value} (h : w.ownsRow B E sz (.slice (some ⟨g, 0, none⟩) n cap) n xs) (j : Nat) (u : Value) (hj : xs[j]? = some u) : w.cell? ⟨g, j, none⟩ = some u := by
  rcases h.2 with ⟨hv, _⟩ | ⟨g', cap', cur, hv, _, hg, _, _, _, ht⟩
  · cases hv
  · cases hv
    simp only [World.cell?, hg]
    rw [← ht] at hj
    have hlt : j < (cur.toList.take (n * sz)).length := (List.getElem?_eq_some_iff.1 hj).1
    rw [List.getElem?_take_of_lt (by simp at hlt; omega)] at hj
    simpa using hj
/-- A whole slice more. -/
theorem orow_apps (E S : TypeId) (sz bytes : Nat) (z : Value) (hU : Tryd.prog.underlying S = some (.slice E)) (hi : (Tryd.prog.info? E).map (fun i => (i.zero, i.size, i.bytes)) = some (some z, sz, bytes)) (hzs : z.cells.size = sz) (hsz : 0 < sz)
    {w : World} {B n : Nat} {v : Value} {xs : List Value} (h : w.ownsRow B E sz v n xs) (hB : B ≤ w.heap.size) (g off m cap : Nat) (news : List Value) (hl : news.length = m * sz) (hc : ∀ j u, news[j]? = some u → w.cell? ⟨g, off + j, none⟩ = some u) (h1 : ∀ u ∈ news, u.oneCell' = true) (hb : (n + m) * bytes ≤ 140737488355328) (h63 : n + m ≤ maxLen) :
    ∃ v' W, (Builtin.append_ #[S, S] S #[v, .slice (some ⟨g, off, none⟩) m cap]).run Tryd.prog w = .ok v' W ∧ W.ownsRow B E sz v' (n + m) (xs ++ news) ∧ w.grownBy W v.ownBlock := by
  obtain ⟨i, hi, hz0, hz1, hz2⟩ := info_of hi
  obtain ⟨v', W, hr, ho, gr, _, _⟩ := run_append_own_at (P := Tryd.prog) w B S S E i z sz bytes hU hi hz0 hz1 hz2 hzs hsz v n xs h ⟨g, off, none⟩ m cap news hl (fun j u hj => by rw [Addr.add_lit]; exact hc j u hj) h1 h63 hb hB
  exact ⟨v', W, hr, ho, gr⟩
theorem obelow_grown {w W : World} {B C sz n : Nat} {E : TypeId} {v : Value} {xs : List Value} (h : w.ownsRow B E sz v n xs) (gr : w.grownBy W v.ownBlock) (hC : C ≤ B) (hw : C ≤ w.heap.size) : Below C w W :=
  ⟨gr.os, gr.tape, gr.output, gr.size, fun k hk => gr.block k (by omega) (by intro he; have := (row_block h he.symm).1; omega)⟩
/-- A literal slice. -/
theorem row_lit (w : World) (B sz n g : Nat) (E : TypeId) (xs : List Value) (cs : Array Value) (hg : g = w.heap.size) (hB : B ≤ w.heap.size) (hc : cs = xs.toArray) (hx : xs.length = n * sz) (hm : n ≤ maxLen) : (w.alloc (.cells cs E)).ownsRow B E sz (.slice (some ⟨g, 0, none⟩) n n) n xs := by
  subst hc hg
  refine ⟨hx, Or.inr ⟨w.heap.size, n, xs.toArray, rfl, hB, ?_, Nat.le_refl _, hm, by simp [hx], by simp [← hx]⟩⟩
  show (w.heap.push _)[w.heap.size]? = _
  simp
end Go.Proofs.YtechpdfcgimkkaaDoor
