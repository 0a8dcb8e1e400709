/-
  'append([]T(nil), l...)': what comes of it is a list of its own with the same elements.
-/
import Derived.Test.YtjcackcimofcmaaDoorMCC
import Derived.Deep.AppendSrc
import Derived.Deep.Upon
import Derived.Laws.Append
namespace Go.Proofs.YtjcackcimofcmaaDoor
open Go.RowKit Go.Joins
theorem wpList_append_pair {P : Program} (w : World) {ops : Array Oper} {rest : List Oper} {o : Oper} {a : Act} {Q : Exit → Act → World → Prop} (hgd : o.guard = none) (s x : Operand) (t tn : TypeId)
    (ho : o.op = .call { callee := .builtin .append, args := #[s, x], argTypes := #[t, tn] }) (vs vx : Value) (hs : a.eval s = vs) (hx : a.eval x = vx)
    {v' : Value} {W : World} (hr : (Builtin.append_ #[t, tn] o.type #[vs, vx]).run P w = .ok v' W) (h : wpList P ops Q rest (a.put o.dst v') W) : wpList P ops Q (o :: rest) a w := by
  refine wpList_plain hgd fun K hK => ?_
  unfold Oper.wp
  simp [execOp, ho, resolve, invoke, builtin, hs, hx, hr, Result.andThen]
  exact hK _ _ h
theorem app_list {α : Type} (w : World) (cells : α → List Value) (sz bytes : Nat) (v z : Value) (xs : List α) (T E ty : TypeId) (h : ListAt w cells sz v xs) (hp : 0 < sz) (hl : ∀ a, (cells a).length = sz)
    (hu : Tryd.prog.underlying T = some (.slice E)) (hi : (Tryd.prog.info? E).map (fun i => (i.zero, i.size, i.bytes)) = some (some z, sz, bytes)) (hb : xs.length * bytes ≤ 281474976710656) :
    ∃ a cap W, (Builtin.append_ #[T, T] ty #[.slice none 0 0, v]).run Tryd.prog w = .ok (.slice a xs.length cap) W ∧ ListAt W cells sz (.slice a xs.length cap) xs ∧ Below w.heap.size w W := by
  obtain ⟨i, hi, hz, hs, hbs⟩ := info_of hi
  rcases h with ⟨a, cap, rfl, rfl⟩ | ⟨bb, oo, cap, rfl, h1, h2, h3, h4⟩
  · have hsrc : Src Tryd.prog i.size T (.slice a 0 cap) 0 [] w := by
      cases a with
      | none => exact Src.ofNil _ hu cap
      | some a => exact Src.ofSlice _ hu a 0 cap [] (by simp) (fun j u hj => by simp at hj) (fun u hu => by simp at hu)
    exact ⟨none, 0, w, run_append_nothing w T T ty E i hu hi none 0 0 (Nat.le_refl _) _ hsrc, Or.inl ⟨_, _, rfl, rfl⟩, Below.refl _ _⟩
  · by_cases h0 : xs.length = 0
    · obtain rfl := List.length_eq_zero_iff.1 h0
      have hsrc : Src Tryd.prog i.size T (.slice (some ⟨bb, oo, none⟩) 0 cap) 0 [] w := Src.ofSlice _ hu ⟨bb, oo, none⟩ 0 cap [] (by simp) (fun j u hj => by simp at hj) (fun u hu => by simp at hu)
      exact ⟨none, 0, w, run_append_nothing w T T ty E i hu hi none 0 0 (Nat.le_refl _) _ hsrc, Or.inl ⟨_, _, rfl, rfl⟩, Below.refl _ _⟩
    · have hn := run_append_nil (P := Tryd.prog) (w := w) T ty E i z hu hi hz ⟨bb, oo, none⟩ xs.length cap (flat cells xs) (by rw [flat_len hl, hs]) (list_src hp hl h4) (by omega) (by unfold maxLen at h2; omega) (by rw [hbs]; exact hb)
      refine ⟨_, _, _, hn, ?_, (Below.refl _ _).drew.alloc (Nat.le_refl _) _⟩
      have hg : grownCap w xs.length 0 E ≤ maxLen := grownCap_le_maxLen _ _ _ _ (by omega)
      have := list_made w.drew cells sz xs E hl (Builtin.zeroCells z.cells (grownCap w xs.length 0 E - xs.length)).toList (grownCap w xs.length 0 E) (grownCap_ge _ _ _ _) hg
      rw [show (flat cells xs ++ (Builtin.zeroCells z.cells (grownCap w xs.length 0 E - xs.length)).toList).toArray = (flat cells xs).toArray ++ Builtin.zeroCells z.cells (grownCap w xs.length 0 E - xs.length) by simp] at this
      exact this
end Go.Proofs.YtjcackcimofcmaaDoor
