/-
  Lists in memory, flat; make and copy.
-/
import Derived.Test.YtechpdfcgimkkaaDoorPureImg
import Derived.Laws.CopyRow
import Derived.Laws.IdiomCopy
import Derived.Laws.MakeOwn
import Derived.Deep.OwnRows
import Derived.Deep.WholeRow
import Derived.Outline
namespace Go.Proofs.YtechpdfcgimkkaaDoor
open Go.RowKit Go.Joins
section
variable {P : Program}
theorem copy_wide (w : World) (dT sT ty elem : TypeId) (i : TypeInfo) (g dLen dCap : Nat) (a : Option Addr) (sCap : Nat) (cur : Array Value) (t : TypeId) (cs : List Value)
    (hu : P.underlying dT = some (.slice elem)) (hi : P.info? elem = some i) (hg : w.heap[g]? = some (.cells cur t (0, 0))) (hn : cs.length = dLen * i.size)
    (hsrc : 0 < dLen → ∃ b, a = some b ∧ ∀ j v, cs[j]? = some v → w.cell? (b.add j) = some v) (hfit : cur.size = cs.length) (h1 : ∀ v ∈ cs, v.oneCell' = true) :
    (Builtin.copy_ #[dT, sT] ty #[.slice (some ⟨g, 0, none⟩) dLen dCap, .slice a dLen sCap]).run P w = .ok (goInt dLen) (w.setRow g cs.toArray) := by
  rcases Nat.eq_zero_or_pos dLen with h0 | h0
  · subst h0
    obtain rfl : cs = [] := List.length_eq_zero_iff.1 (by rw [hn]; simp)
    have hc : cur = #[] := Array.eq_empty_of_size_eq_zero (by simpa using hfit)
    subst hc
    have hl : ∀ (x : Addr), (loadCells x 0).run P w = .ok #[] w := fun x => by simpa using run_loadCells_list (P := P) w x [] (by simp)
    rw [setRow_self w g #[] t (0, 0) hg]
    cases a <;> simp [Builtin.copy_, run_underlying hu, Builtin.lenOf, Builtin.firstCells, sizeOf, typeInfo, hi, storeCells, hl]
  · obtain ⟨b, rfl, hs⟩ := hsrc h0
    have hl := run_loadCells_list (P := P) w b cs hs
    have hst := run_storeCells_at P g 0 t cs 0 cur w hg (by omega) h1
    have hd : cur.toList.drop (0 + 0 + cs.length) = [] := List.drop_of_length_le (by simp; omega)
    rw [hd] at hst
    simp only [Nat.add_zero, List.take_zero, List.nil_append, List.append_nil] at hst
    simp [Builtin.copy_, run_underlying hu, Builtin.lenOf, Builtin.firstCells, sizeOf, typeInfo, hi, ← hn, hl, hst]
theorem make_wide (t e : TypeId) (i : TypeInfo) (z : Value) (ht : P.underlying t = some (.slice e)) (hi : P.info? e = some i) (hz : i.zero = some z) (n : Nat) (hbytes : i.bytes * n ≤ 281474976710656) (h63 : n ≤ 9223372036854775807) (w : World) :
    (Instr.makeSlice t (.int .i64 (n : Int)) (.int .i64 (n : Int))).run P w = .ok (.slice (some ⟨w.heap.size, 0, none⟩) n n) (w.alloc (.cells (madeCells z.cells (n * i.size)) e)) := by
  have hb' : (i.bytes : Int) * (n : Int) ≤ 281474976710656 := by
    have h : ((i.bytes * n : Nat) : Int) ≤ 281474976710656 := by omega
    rwa [Int.natCast_mul] at h
  have hr := run_make (P := P) w t e i z ht hi hz .i64 .i64 n n (by omega) (Int.le_refl _) hb' (by omega)
  simpa only [Int.toNat_natCast] using hr
theorem wpList_make_run (w : World) {ops : Array Oper} {rest : List Oper} {o : Oper} {a : Act} {Q : Exit → Act → World → Prop} (hgd : o.guard = none) (l c : Operand) (t : TypeId) (ho : o.op = Op.makeSlice t l c) (vl vc : Value) (hl : a.eval l = vl) (hc : a.eval c = vc)
    {v : Value} {W : World} (hr : (Instr.makeSlice t vl vc).run P w = .ok v W) (h : wpList P ops Q rest (a.put o.dst v) W) : wpList P ops Q (o :: rest) a w := by
  refine wpList_plain hgd fun K hK => ?_
  unfold Oper.wp
  simp [execOp, ho, hl, hc, hr, Result.andThen]
  exact hK _ _ h
theorem wpList_copy_run (w : World) {ops : Array Oper} {rest : List Oper} {o : Oper} {a : Act} {Q : Exit → Act → World → Prop} (hgd : o.guard = none) (d s : Operand) (dT sT : TypeId) (ho : o.op = .call { callee := .builtin .copy, args := #[d, s], argTypes := #[dT, sT] })
    (vd vs : Value) (hd : a.eval d = vd) (hs : a.eval s = vs) {v : Value} {W : World} (hr : (Builtin.copy_ #[dT, sT] o.type #[vd, vs]).run P w = .ok v W) (h : wpList P ops Q rest (a.put o.dst v) W) : wpList P ops Q (o :: rest) a w := by
  refine wpList_plain hgd fun K hK => ?_
  unfold Oper.wp
  simp [execOp, ho, resolve, invoke, builtin, hd, hs, hr, Result.andThen]
  exact hK _ _ h
end
/-- The cells of a list's elements, one behind the other. -/
def flat {α : Type} (cells : α → List Value) (xs : List α) : List Value := xs.flatMap cells
theorem flat_len {α : Type} {cells : α → List Value} {sz : Nat} (hl : ∀ a, (cells a).length = sz) (xs : List α) : (flat cells xs).length = xs.length * sz := by
  induction xs with
  | nil => simp [flat]
  | cons x xs ih => rw [show flat cells (x :: xs) = cells x ++ flat cells xs from rfl, List.length_append, ih, hl, List.length_cons, Nat.succ_mul]; omega
theorem flat_at {α : Type} {cells : α → List Value} {sz : Nat} (hl : ∀ a, (cells a).length = sz) (xs : List α) (j : Nat) (x : α) (h : xs[j]? = some x) (o : Nat) (ho : o < sz) : (flat cells xs)[j * sz + o]? = (cells x)[o]? := by
  induction xs generalizing j with
  | nil => simp at h
  | cons y ys ih =>
    rw [show flat cells (y :: ys) = cells y ++ flat cells ys from rfl]
    cases j with
    | zero => simp at h; subst h; rw [Nat.zero_mul, Nat.zero_add, List.getElem?_append_left (by rw [hl]; exact ho)]
    | succ j =>
      rw [Nat.succ_mul, List.getElem?_append_right (by rw [hl]; omega), hl, show j * sz + sz + o - sz = j * sz + o by omega]
      exact ih j (by simpa using h)
theorem flat_split {α : Type} {cells : α → List Value} {sz : Nat} (hp : 0 < sz) (hl : ∀ a, (cells a).length = sz) (xs : List α) (k : Nat) (u : Value) (h : (flat cells xs)[k]? = some u) : ∃ (j o : Nat) (x : α), k = j * sz + o ∧ o < sz ∧ xs[j]? = some x ∧ (cells x)[o]? = some u := by
  have hk : k < xs.length * sz := by
    rcases Nat.lt_or_ge k (xs.length * sz) with q | q
    · exact q
    · rw [List.getElem?_eq_none (by rw [flat_len hl]; exact q)] at h; cases h
  have e : k = (k / sz) * sz + k % sz := by rw [Nat.mul_comm]; exact (Nat.div_add_mod k sz).symm
  have ho : k % sz < sz := Nat.mod_lt _ hp
  have hj : k / sz < xs.length := (Nat.div_lt_iff_lt_mul hp).2 hk
  refine ⟨k / sz, k % sz, xs[k / sz], e, ho, List.getElem?_eq_getElem hj, ?_⟩
  rw [← flat_at hl xs (k / sz) _ (List.getElem?_eq_getElem hj) _ ho, ← e]
  exact h
theorem list_src {α : Type} {w : World} {cells : α → List Value} {sz : Nat} {bb oo : Nat} {xs : List α} (hp : 0 < sz) (hl : ∀ a, (cells a).length = sz) (h : ∀ j x, xs[j]? = some x → ∀ o u, (cells x)[o]? = some u → w.cell? ⟨bb, oo + j * sz + o, none⟩ = some u) :
    ∀ j v, (flat cells xs)[j]? = some v → w.cell? ((⟨bb, oo, none⟩ : Addr).add j) = some v := by
  intro k u hk
  obtain ⟨j, o, x, rfl, _, hx, hu⟩ := flat_split hp hl xs k u hk
  rw [Addr.add_lit, ← Nat.add_assoc]
  exact h j x hx o u hu
theorem list_made {α : Type} (w : World) (cells : α → List Value) (sz : Nat) (xs : List α) (e : TypeId) (hl : ∀ a, (cells a).length = sz) (more : List Value) (cap : Nat) (hc : xs.length ≤ cap) (hcm : cap ≤ maxLen) :
    ListAt (w.alloc (.cells (flat cells xs ++ more).toArray e)) cells sz (.slice (some ⟨w.heap.size, 0, none⟩) xs.length cap) xs := by
  refine Or.inr ⟨w.heap.size, 0, cap, rfl, hc, hcm, by simp, fun j x hx o u hu => ?_⟩
  have ho : o < sz := by
    rcases Nat.lt_or_ge o sz with q | q
    · exact q
    · rw [List.getElem?_eq_none (by rw [hl]; exact q)] at hu; cases hu
  have hj : j < xs.length := (List.getElem?_eq_some_iff.1 hx).1
  rw [World.cell?_alloc_new]
  have hlt : j * sz + o < (flat cells xs).length := by
    rw [flat_len hl]
    have h1 : (j + 1) * sz ≤ xs.length * sz := Nat.mul_le_mul_right _ hj
    rw [Nat.succ_mul] at h1
    omega
  simp only [Nat.zero_add, List.getElem?_toArray]
  rw [List.getElem?_append_left hlt, flat_at hl xs j x hx o ho]
  exact hu
theorem flat_one {α : Type} {cells : α → List Value} (h : ∀ a, ∀ u ∈ cells a, u.oneCell' = true) (xs : List α) : ∀ u ∈ flat cells xs, u.oneCell' = true := by
  intro u hu
  obtain ⟨x, _, hx⟩ := List.mem_flatMap.1 hu
  exact h x u hx
theorem info_of {e : TypeId} {z : Value} {size bytes : Nat} (h : (Tryd.prog.info? e).map (fun i => (i.zero, i.size, i.bytes)) = some (some z, size, bytes)) : ∃ i, Tryd.prog.info? e = some i ∧ i.zero = some z ∧ i.size = size ∧ i.bytes = bytes := by
  obtain ⟨i, hi, hzz⟩ := Option.map_eq_some_iff.1 h
  simp only [Prod.mk.injEq] at hzz
  exact ⟨i, hi, hzz.1, hzz.2.1, hzz.2.2⟩
/-- make, then copy: the run's two equations. -/
theorem copied {α : Type} (w : World) (cells : α → List Value) (sz bytes : Nat) (v z : Value) (xs : List α) (T E ty : TypeId) (h : ListAt w cells sz v xs) (hp : 0 < sz) (hl : ∀ a, (cells a).length = sz) (h1 : ∀ a, ∀ u ∈ cells a, u.oneCell' = true)
    (hu : Tryd.prog.underlying T = some (.slice E)) (hi : (Tryd.prog.info? E).map (fun i => (i.zero, i.size, i.bytes)) = some (some z, sz, bytes)) (hb : bytes * xs.length ≤ 281474976710656) :
    ∃ W, (Instr.makeSlice T (.int .i64 (xs.length : Int)) (.int .i64 (xs.length : Int))).run Tryd.prog w = .ok (.slice (some ⟨w.heap.size, 0, none⟩) xs.length xs.length) W ∧
      (Builtin.copy_ #[T, T] ty #[.slice (some ⟨w.heap.size, 0, none⟩) xs.length xs.length, v]).run Tryd.prog W = .ok (goInt xs.length) (w.alloc (.cells (flat cells xs).toArray E)) := by
  obtain ⟨i, hi, hz, hs, hbs⟩ := info_of hi
  have hm : xs.length ≤ maxLen := by obtain ⟨_, _, _, hm⟩ := h.form; exact hm
  refine ⟨_, make_wide T E i z hu hi hz xs.length (by rw [hbs]; exact hb) (by unfold maxLen at hm; omega) w, ?_⟩
  obtain ⟨a, cap, rfl, _⟩ := h.form
  rw [copy_wide (w.alloc (.cells (madeCells z.cells (xs.length * i.size)) E)) T T ty E i w.heap.size xs.length xs.length a cap (madeCells z.cells (xs.length * i.size)) E (flat cells xs) hu hi (by show (w.heap.push _)[w.heap.size]? = _; simp) (by rw [flat_len hl, hs]) ?_ (by rw [size_madeCells, flat_len hl, hs]) (flat_one h1 xs)]
  · rw [World.setRow_alloc_new]
  · intro h0
    rcases h with ⟨_, _, _, rfl⟩ | ⟨bb, oo, c2, hv, q1, q2, q3, q4⟩
    · simp at h0
    · cases hv
      refine ⟨_, rfl, list_src hp hl fun j x hx o u hu => ?_⟩
      exact (((Below.refl w.heap.size w).alloc (Nat.le_refl _) _).cell (p := ⟨bb, _, none⟩) q3).trans (q4 j x hx o u hu)
end Go.Proofs.YtechpdfcgimkkaaDoor
