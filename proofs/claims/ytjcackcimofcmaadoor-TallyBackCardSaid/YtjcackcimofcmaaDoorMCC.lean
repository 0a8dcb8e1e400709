/-
  An image as plain lists, and what P2.1 says of it.
-/
import Derived.Test.YtjcackcimofcmaaDoorProg
import Derived.WalkKit
import Derived.Below
import Derived.WalkSpells
import Derived.WalkLawsBesides
import Derived.Handy
import Derived.Deep.Light
import Derived.Lib.SmallJoins
import Derived.Laws.CopyRow
import Derived.Laws.IdiomCopy
import Derived.Laws.MakeOwn
import Derived.Deep.OwnRows
import Derived.Deep.WholeRow
import Derived.Outline
import Derived.Deep.AppendLies
import Derived.Maps.AppendAt
namespace Go.Proofs.YtjcackcimofcmaaDoor
open Go.RowKit Go.Joins
structure Fn where
  name : ByteArray
  start : Int
  size : Int
structure Ln where
  a : Int
  n : Int
structure Img where
  text : List Int
  funcs : List Fn
  tables : List (List Int)
  data : List Int
  lines : List Ln
  entry : Int
def i64 (x : Int) : Prop := -9223372036854775808 ≤ x ∧ x ≤ 9223372036854775807
def Fn.ok (f : Fn) : Prop := f.name.size ≤ maxLen ∧ i64 f.start ∧ i64 f.size
def Ln.ok (l : Ln) : Prop := i64 l.a ∧ i64 l.n
def Fn.cells (f : Fn) : List Value := [.string f.name, .int .i64 f.start, .int .i64 f.size]
def Ln.cells (l : Ln) : List Value := [.int .i64 l.a, .int .i64 l.n]
def icell (n : Int) : List Value := [.int .i64 n]
def vcell (v : Value) : List Value := [v]
def ucell (n : Int) : List Value := [.int .u8 n]
/-- A slice value whose elements, in a world, are these. -/
def ListAt {α : Type} (w : World) (cells : α → List Value) (sz : Nat) (v : Value) (xs : List α) : Prop :=
  (∃ a cap, v = .slice a 0 cap ∧ xs = []) ∨ ∃ bb oo cap, v = .slice (some ⟨bb, oo, none⟩) xs.length cap ∧ xs.length ≤ cap ∧ cap ≤ maxLen ∧ bb < w.heap.size ∧
    ∀ j x, xs[j]? = some x → ∀ o u, (cells x)[o]? = some u → w.cell? ⟨bb, oo + j * sz + o, none⟩ = some u
theorem ListAt.form {α : Type} {w : World} {cells : α → List Value} {sz : Nat} {v : Value} {xs : List α} (h : ListAt w cells sz v xs) : ∃ a cap, v = .slice a xs.length cap ∧ xs.length ≤ maxLen := by
  rcases h with ⟨a, cap, rfl, rfl⟩ | ⟨bb, oo, cap, rfl, h1, h2, _⟩
  · exact ⟨a, cap, rfl, by simp⟩
  · exact ⟨_, cap, rfl, by omega⟩
theorem ListAt.stays {α : Type} {w w' : World} {cells : α → List Value} {sz : Nat} {v : Value} {xs : List α} {m : Nat} (h : ListAt w cells sz v xs) (hm : w.heap.size ≤ m) (hb : Below m w w') : ListAt w' cells sz v xs := by
  rcases h with h | ⟨bb, oo, cap, rfl, h1, h2, h3, h4⟩
  · exact Or.inl h
  · have := hb.size
    exact Or.inr ⟨bb, oo, cap, rfl, h1, h2, by omega, fun j x hj o u hu => (hb.cell (p := ⟨bb, _, none⟩) (by simp; omega)).trans (h4 j x hj o u hu)⟩
/-- An image's parts, in a world. -/
structure ImgAt (w : World) (vT vF vB vD vL : Value) (m : Img) : Prop where
  text : ListAt w ucell 1 vT m.text
  funcs : ListAt w Fn.cells 3 vF m.funcs
  tables : ∃ vs : List Value, ListAt w vcell 1 vB vs ∧ vs.length = m.tables.length ∧ ∀ (j : Nat) (u : Value) (t : List Int), vs[j]? = some u → m.tables[j]? = some t → ListAt w icell 1 u t
  data : ListAt w icell 1 vD m.data
  lines : ListAt w Ln.cells 2 vL m.lines
structure Img.ok (m : Img) : Prop where
  text : ∀ x ∈ m.text, 0 ≤ x ∧ x ≤ 255
  funcs : ∀ f ∈ m.funcs, f.ok
  tables : ∀ t ∈ m.tables, ∀ x ∈ t, i64 x
  data : ∀ x ∈ m.data, i64 x
  lines : ∀ l ∈ m.lines, l.ok
  entry : i64 m.entry
theorem ImgAt.stays {w w' : World} {vT vF vB vD vL : Value} {m : Img} {k : Nat} (h : ImgAt w vT vF vB vD vL m) (hm : w.heap.size ≤ k) (hb : Below k w w') : ImgAt w' vT vF vB vD vL m := by
  obtain ⟨vs, h1, h2, h3⟩ := h.tables
  exact ⟨h.text.stays hm hb, h.funcs.stays hm hb, ⟨vs, h1.stays hm hb, h2, fun j u t hu ht => (h3 j u t hu ht).stays hm hb⟩, h.data.stays hm hb, h.lines.stays hm hb⟩
/-- A byte that a name may have. -/
def okc (c : Int) : Bool := (decide (97 ≤ c) && decide (c ≤ 122)) || (decide (48 ≤ c) && decide (c ≤ 57)) || c == 95 || c == 46
def nameMay (s : ByteArray) : Bool := decide (1 ≤ s.size) && decide (s.size ≤ 16) && s.data.toList.all fun c => okc (c.toNat : Int)
/-- Function by function. -/
def fchk (size : Int) : List Fn → List Fn → Int → Int
  | _, [], e => if e = size then 0 else 8
  | pre, f :: r, e => if nameMay f.name = false then 4 else if (∃ g ∈ pre, g.name = f.name) then 7 else if f.start ≠ e ∨ f.size < 1 ∨ size - e < f.size then 8 else fchk size (pre ++ [f]) r (e + f.size)
def tchk (size : Int) : List (List Int) → Int
  | [] => 0
  | t :: r => if 20 < t.length then 1 else if (∃ x ∈ t, x < 0 ∨ size ≤ x) then 2 else tchk size r
def lchk (size : Int) : List Ln → Int → Int
  | [], _ => 0
  | l :: r, ahead => if l.n < 0 ∨ 10000 < l.n then 2 else if l.a ≤ ahead ∨ size ≤ l.a then 8 else lchk size r l.a
/-- P2.1. -/
def imgChk (m : Img) : Int :=
  if 8000 < m.text.length ∨ 40 < m.funcs.length then 1
  else if fchk m.text.length [] m.funcs 0 ≠ 0 then fchk m.text.length [] m.funcs 0
  else if m.entry < 0 ∨ m.funcs.length ≤ m.entry then 6
  else if 20 < m.tables.length ∨ 64 < m.data.length then 1
  else if tchk m.text.length m.tables ≠ 0 then tchk m.text.length m.tables
  else if (∃ x ∈ m.data, x < -1099511627776 ∨ 1099511627776 < x) then 2
  else if 4000 < m.lines.length then 1
  else lchk m.text.length m.lines (-1)
/-- P2.2. -/
def lineOf (l : List Ln) (p : Int) : Int := l.foldl (fun n x => if x.a ≤ p then x.n else n) 0
theorem lineOf_snoc (l : List Ln) (x : Ln) (p : Int) : lineOf (l ++ [x]) p = if x.a ≤ p then x.n else lineOf l p := by
  unfold lineOf; rw [List.foldl_append]; rfl
theorem lineOf_next (l : List Ln) (k : Nat) (x : Ln) (p : Int) (h : l[k]? = some x) : lineOf (l.take (k + 1)) p = if x.a ≤ p then x.n else lineOf (l.take k) p := by
  rw [List.take_add_one, h]; exact lineOf_snoc _ _ _
end Go.Proofs.YtjcackcimofcmaaDoor
/-
  Lists in memory, flat; make and copy.
-/
namespace Go.Proofs.YtjcackcimofcmaaDoor
open Go.RowKit Go.Joins
section
variable {P : Program}
theorem copy_wide (w : World) (dT sT ty elem : TypeId) (i : TypeInfo) (g dLen dCap : Nat) (a : Option Addr) (sCap : Nat) (cur : Array Value) (t : TypeId) (cs : List Value)
    (hu : P.underlying dT = some (.slice elem)) (hi : P.info? elem = some i) (hg : w.heap[g]? = some (.cells cur t (0, 0))) (hn : cs.length = dLen * i.size)
    (hsrc : 0 < dLen → ∃ b, a = some b ∧ ∀ j v, cs[j]? = some v → w.cell? (b.add j) = some v) (hfit : cur.size = cs.length) (h1 : ∀ v ∈ cs, v.oneCell' = true) :
    (Builtin.copy_ #[dT, sT] ty #[.slice (some ⟨g, 0, none⟩) dLen dCap, .slice a dLen sCap]).run P w = .ok (goInt dLen) (w.setRow g cs.toArray) := by
  rcases Nat.eq_zero_or_pos dLen with h0 | h0
  · subst h0
    obtain rfl : cs = [] := List.length_eq_zero_iff.1 (by rw [hn]; simp)
    have hc : cur = #[] := Array.eq_empty_of_size_eq_zero (by simpa using hfit)
    subst hc
    have hl : ∀ (x : Addr), (loadCells x 0).run P w = .ok #[] w := fun x => by simpa using run_loadCells_list (P := P) w x [] (by simp)
    rw [setRow_self w g #[] t (0, 0) hg]
    cases a <;> simp [Builtin.copy_, run_underlying hu, Builtin.lenOf, Builtin.firstCells, sizeOf, typeInfo, hi, storeCells, hl]
  · obtain ⟨b, rfl, hs⟩ := hsrc h0
    have hl := run_loadCells_list (P := P) w b cs hs
    have hst := run_storeCells_at P g 0 t cs 0 cur w hg (by omega) h1
    have hd : cur.toList.drop (0 + 0 + cs.length) = [] := List.drop_of_length_le (by simp; omega)
    rw [hd] at hst
    simp only [Nat.add_zero, List.take_zero, List.nil_append, List.append_nil] at hst
    simp [Builtin.copy_, run_underlying hu, Builtin.lenOf, Builtin.firstCells, sizeOf, typeInfo, hi, ← hn, hl, hst]
theorem make_wide (t e : TypeId) (i : TypeInfo) (z : Value) (ht : P.underlying t = some (.slice e)) (hi : P.info? e = some i) (hz : i.zero = some z) (n : Nat) (hbytes : i.bytes * n ≤ 281474976710656) (h63 : n ≤ 9223372036854775807) (w : World) :
    (Instr.makeSlice t (.int .i64 (n : Int)) (.int .i64 (n : Int))).run P w = .ok (.slice (some ⟨w.heap.size, 0, none⟩) n n) (w.alloc (.cells (madeCells z.cells (n * i.size)) e)) := by
  have hb' : (i.bytes : Int) * (n : Int) ≤ 281474976710656 := by
    have h : ((i.bytes * n : Nat) : Int) ≤ 281474976710656 := by omega
    rwa [Int.natCast_mul] at h
  have hr := run_make (P := P) w t e i z ht hi hz .i64 .i64 n n (by omega) (Int.le_refl _) hb' (by omega)
  simpa only [Int.toNat_natCast] using hr
theorem wpList_make_run (w : World) {ops : Array Oper} {rest : List Oper} {o : Oper} {a : Act} {Q : Exit → Act → World → Prop} (hgd : o.guard = none) (l c : Operand) (t : TypeId) (ho : o.op = Op.makeSlice t l c) (vl vc : Value) (hl : a.eval l = vl) (hc : a.eval c = vc)
    {v : Value} {W : World} (hr : (Instr.makeSlice t vl vc).run P w = .ok v W) (h : wpList P ops Q rest (a.put o.dst v) W) : wpList P ops Q (o :: rest) a w := by
  refine wpList_plain hgd fun K hK => ?_
  unfold Oper.wp
  simp [execOp, ho, hl, hc, hr, Result.andThen]
  exact hK _ _ h
theorem wpList_copy_run (w : World) {ops : Array Oper} {rest : List Oper} {o : Oper} {a : Act} {Q : Exit → Act → World → Prop} (hgd : o.guard = none) (d s : Operand) (dT sT : TypeId) (ho : o.op = .call { callee := .builtin .copy, args := #[d, s], argTypes := #[dT, sT] })
    (vd vs : Value) (hd : a.eval d = vd) (hs : a.eval s = vs) {v : Value} {W : World} (hr : (Builtin.copy_ #[dT, sT] o.type #[vd, vs]).run P w = .ok v W) (h : wpList P ops Q rest (a.put o.dst v) W) : wpList P ops Q (o :: rest) a w := by
  refine wpList_plain hgd fun K hK => ?_
  unfold Oper.wp
  simp [execOp, ho, resolve, invoke, builtin, hd, hs, hr, Result.andThen]
  exact hK _ _ h
end
/-- The cells of a list's elements, one behind the other. -/
def flat {α : Type} (cells : α → List Value) (xs : List α) : List Value := xs.flatMap cells
theorem flat_len {α : Type} {cells : α → List Value} {sz : Nat} (hl : ∀ a, (cells a).length = sz) (xs : List α) : (flat cells xs).length = xs.length * sz := by
  induction xs with
  | nil => simp [flat]
  | cons x xs ih => rw [show flat cells (x :: xs) = cells x ++ flat cells xs from rfl, List.length_append, ih, hl, List.length_cons, Nat.succ_mul]; omega
theorem flat_at {α : Type} {cells : α → List Value} {sz : Nat} (hl : ∀ a, (cells a).length = sz) (xs : List α) (j : Nat) (x : α) (h : xs[j]? = some x) (o : Nat) (ho : o < sz) : (flat cells xs)[j * sz + o]? = (cells x)[o]? := by
  induction xs generalizing j with
  | nil => simp at h
  | cons y ys ih =>
    rw [show flat cells (y :: ys) = cells y ++ flat cells ys from rfl]
    cases j with
    | zero => simp at h; subst h; rw [Nat.zero_mul, Nat.zero_add, List.getElem?_append_left (by rw [hl]; exact ho)]
    | succ j =>
      rw [Nat.succ_mul, List.getElem?_append_right (by rw [hl]; omega), hl, show j * sz + sz + o - sz = j * sz + o by omega]
      exact ih j (by simpa using h)
theorem flat_split {α : Type} {cells : α → List Value} {sz : Nat} (hp : 0 < sz) (hl : ∀ a, (cells a).length = sz) (xs : List α) (k : Nat) (u : Value) (h : (flat cells xs)[k]? = some u) : ∃ (j o : Nat) (x : α), k = j * sz + o ∧ o < sz ∧ xs[j]? = some x ∧ (cells x)[o]? = some u := by
  have hk : k < xs.length * sz := by
    rcases Nat.lt_or_ge k (xs.length * sz) with q | q
    · exact q
    · rw [List.getElem?_eq_none (by rw [flat_len hl]; exact q)] at h; cases h
  have e : k = (k / sz) * sz + k % sz := by rw [Nat.mul_comm]; exact (Nat.div_add_mod k sz).symm
  have ho : k % sz < sz := Nat.mod_lt _ hp
  have hj : k / sz < xs.length := (Nat.div_lt_iff_lt_mul hp).2 hk
  refine ⟨k / sz, k % sz, xs[k / sz], e, ho, List.getElem?_eq_getElem hj, ?_⟩
  rw [← flat_at hl xs (k / sz) _ (List.getElem?_eq_getElem hj) _ ho, ← e]
  exact h
theorem list_src {α : Type} {w : World} {cells : α → List Value} {sz : Nat} {bb oo : Nat} {xs : List α} (hp : 0 < sz) (hl : ∀ a, (cells a).length = sz) (h : ∀ j x, xs[j]? = some x → ∀ o u, (cells x)[o]? = some u → w.cell? ⟨bb, oo + j * sz + o, none⟩ = some u) :
    ∀ j v, (flat cells xs)[j]? = some v → w.cell? ((⟨bb, oo, none⟩ : Addr).add j) = some v := by
  intro k u hk
  obtain ⟨j, o, x, rfl, _, hx, hu⟩ := flat_split hp hl xs k u hk
  rw [Addr.add_lit, ← Nat.add_assoc]
  exact h j x hx o u hu
theorem list_made {α : Type} (w : World) (cells : α → List Value) (sz : Nat) (xs : List α) (e : TypeId) (hl : ∀ a, (cells a).length = sz) (more : List Value) (cap : Nat) (hc : xs.length ≤ cap) (hcm : cap ≤ maxLen) :
    ListAt (w.alloc (.cells (flat cells xs ++ more).toArray e)) cells sz (.slice (some ⟨w.heap.size, 0, none⟩) xs.length cap) xs := by
  refine Or.inr ⟨w.heap.size, 0, cap, rfl, hc, hcm, by simp, fun j x hx o u hu => ?_⟩
  have ho : o < sz := by
    rcases Nat.lt_or_ge o sz with q | q
    · exact q
    · rw [List.getElem?_eq_none (by rw [hl]; exact q)] at hu; cases hu
  have hj : j < xs.length := (List.getElem?_eq_some_iff.1 hx).1
  rw [World.cell?_alloc_new]
  have hlt : j * sz + o < (flat cells xs).length := by
    rw [flat_len hl]
    have h1 : (j + 1) * sz ≤ xs.length * sz := Nat.mul_le_mul_right _ hj
    rw [Nat.succ_mul] at h1
    omega
  simp only [Nat.zero_add, List.getElem?_toArray]
  rw [List.getElem?_append_left hlt, flat_at hl xs j x hx o ho]
  exact hu
theorem flat_one {α : Type} {cells : α → List Value} (h : ∀ a, ∀ u ∈ cells a, u.oneCell' = true) (xs : List α) : ∀ u ∈ flat cells xs, u.oneCell' = true := by
  intro u hu
  obtain ⟨x, _, hx⟩ := List.mem_flatMap.1 hu
  exact h x u hx
theorem info_of {e : TypeId} {z : Value} {size bytes : Nat} (h : (Tryd.prog.info? e).map (fun i => (i.zero, i.size, i.bytes)) = some (some z, size, bytes)) : ∃ i, Tryd.prog.info? e = some i ∧ i.zero = some z ∧ i.size = size ∧ i.bytes = bytes := by
  obtain ⟨i, hi, hzz⟩ := Option.map_eq_some_iff.1 h
  simp only [Prod.mk.injEq] at hzz
  exact ⟨i, hi, hzz.1, hzz.2.1, hzz.2.2⟩
/-- make, then copy: the run's two equations. -/
theorem copied {α : Type} (w : World) (cells : α → List Value) (sz bytes : Nat) (v z : Value) (xs : List α) (T E ty : TypeId) (h : ListAt w cells sz v xs) (hp : 0 < sz) (hl : ∀ a, (cells a).length = sz) (h1 : ∀ a, ∀ u ∈ cells a, u.oneCell' = true)
    (hu : Tryd.prog.underlying T = some (.slice E)) (hi : (Tryd.prog.info? E).map (fun i => (i.zero, i.size, i.bytes)) = some (some z, sz, bytes)) (hb : bytes * xs.length ≤ 281474976710656) :
    ∃ W, (Instr.makeSlice T (.int .i64 (xs.length : Int)) (.int .i64 (xs.length : Int))).run Tryd.prog w = .ok (.slice (some ⟨w.heap.size, 0, none⟩) xs.length xs.length) W ∧
      (Builtin.copy_ #[T, T] ty #[.slice (some ⟨w.heap.size, 0, none⟩) xs.length xs.length, v]).run Tryd.prog W = .ok (goInt xs.length) (w.alloc (.cells (flat cells xs).toArray E)) := by
  obtain ⟨i, hi, hz, hs, hbs⟩ := info_of hi
  have hm : xs.length ≤ maxLen := by obtain ⟨_, _, _, hm⟩ := h.form; exact hm
  refine ⟨_, make_wide T E i z hu hi hz xs.length (by rw [hbs]; exact hb) (by unfold maxLen at hm; omega) w, ?_⟩
  obtain ⟨a, cap, rfl, _⟩ := h.form
  rw [copy_wide (w.alloc (.cells (madeCells z.cells (xs.length * i.size)) E)) T T ty E i w.heap.size xs.length xs.length a cap (madeCells z.cells (xs.length * i.size)) E (flat cells xs) hu hi (by show (w.heap.push _)[w.heap.size]? = _; simp) (by rw [flat_len hl, hs]) ?_ (by rw [size_madeCells, flat_len hl, hs]) (flat_one h1 xs)]
  · rw [World.setRow_alloc_new]
  · intro h0
    rcases h with ⟨_, _, _, rfl⟩ | ⟨bb, oo, c2, hv, q1, q2, q3, q4⟩
    · simp at h0
    · cases hv
      refine ⟨_, rfl, list_src hp hl fun j x hx o u hu => ?_⟩
      exact (((Below.refl w.heap.size w).alloc (Nat.le_refl _) _).cell (p := ⟨bb, _, none⟩) q3).trans (q4 j x hx o u hu)
end Go.Proofs.YtjcackcimofcmaaDoor
/-
  Rows of the call's own, by their elements' types.
-/
namespace Go.Proofs.YtjcackcimofcmaaDoor
open Go.RowKit Go.Joins
theorem row_block {w : World} {B sz n : Nat} {E : TypeId} {v : Value} {xs : List Value} (h : w.ownsRow B E sz v n xs) {k : Nat} (hk : v.ownBlock = some k) : B ≤ k ∧ ∃ cur, w.heap[k]? = some (.cells cur E) := by
  rcases h.2 with ⟨rfl, _⟩ | ⟨g, cap, cur, rfl, hB, hg, _⟩
  · cases hk
  · have : g = k := by simpa [Value.ownBlock] using hk
    subst this
    exact ⟨hB, _, hg⟩
theorem row_same {w w' : World} {B sz n : Nat} {E : TypeId} {v : Value} {xs : List Value} (h : w.ownsRow B E sz v n xs) (hk : ∀ k, v.ownBlock = some k → w'.heap[k]? = w.heap[k]?) : w'.ownsRow B E sz v n xs := by
  refine ⟨h.1, ?_⟩
  rcases h.2 with q | ⟨g, cap, cur, rfl, q1, q2, q3⟩
  · exact Or.inl q
  · exact Or.inr ⟨g, cap, cur, rfl, q1, (hk g rfl).trans q2, q3⟩
theorem row_ne {w : World} {B sz n : Nat} {E : TypeId} {v : Value} {xs : List Value} (h : w.ownsRow B E sz v n xs) {k : Nat} {cs : Array Value} {T : TypeId} {fr : Nat × Nat} (hk : w.heap[k]? = some (.cells cs T fr)) (hT : T ≠ E) : some k ≠ v.ownBlock := by
  intro he
  obtain ⟨_, cur, hg⟩ := row_block h he.symm
  rw [hk] at hg
  simp at hg
  exact hT hg.2.1
/-- A row stays where another one, of another type, grows. -/
theorem row_by {w W : World} {B sz n B2 sz2 n2 : Nat} {E E2 : TypeId} {v v2 : Value} {xs xs2 : List Value} (h : w.ownsRow B E sz v n xs) (h2 : w.ownsRow B2 E2 sz2 v2 n2 xs2) (gr : w.grownBy W v2.ownBlock) (hE : E ≠ E2) : W.ownsRow B E sz v n xs :=
  row_same h fun k hk => by
    obtain ⟨_, cur, hg⟩ := row_block h hk
    exact gr.block k (Array.getElem?_eq_some_iff.1 hg).1 (row_ne h2 hg hE)
theorem row_set {w : World} {B sz n gb o : Nat} {E T : TypeId} {v u : Value} {xs : List Value} {cs : Array Value} (h : w.ownsRow B E sz v n xs) (hg : w.heap[gb]? = some (.cells cs T)) (hT : T ≠ E) : (w.setCell ⟨gb, o, none⟩ u).ownsRow B E sz v n xs :=
  row_same h fun k hk => heap_setCell_other _ _ _ _ (by rintro rfl; exact row_ne h hg hT hk.symm)
theorem row_up {w w' : World} {B sz n : Nat} {E : TypeId} {v : Value} {xs : List Value} (h : w.ownsRow B E sz v n xs) (hb : Below w.heap.size w w') : w'.ownsRow B E sz v n xs :=
  row_same h fun k hk => hb.block k (by obtain ⟨_, _, hg⟩ := row_block h hk; exact (Array.getElem?_eq_some_iff.1 hg).1)
theorem row_list {α : Type} {w : World} {B sz : Nat} {E : TypeId} {v : Value} {cells : α → List Value} {xs : List α} (hl : ∀ a, (cells a).length = sz) (h : w.ownsRow B E sz v xs.length (flat cells xs)) : ListAt w cells sz v xs := by
  rcases h.2 with ⟨rfl, h0⟩ | ⟨g, cap, cur, hv, q1, q2, q3, q4, q5, q6⟩
  · exact Or.inl ⟨_, _, rfl, List.length_eq_zero_iff.1 h0⟩
  · refine Or.inr ⟨g, 0, cap, hv, q3, q4, (Array.getElem?_eq_some_iff.1 q2).1, fun j x hx o u hu => ?_⟩
    have ho : o < sz := by
      rcases Nat.lt_or_ge o sz with q | q
      · exact q
      · rw [List.getElem?_eq_none (by rw [hl]; exact q)] at hu; cases hu
    have := h.cells (g := g) (by rw [hv]; rfl) (j * sz + o) u (by rw [flat_at hl xs j x hx o ho]; exact hu)
    rwa [Addr.add_lit, ← Nat.add_assoc] at this
theorem row_form {w : World} {B sz n : Nat} {E : TypeId} {v : Value} {xs : List Value} (h : w.ownsRow B E sz v n xs) : ∃ a l c, v = .slice a l c := by
  rcases h.2 with ⟨rfl, _⟩ | ⟨_, _, _, rfl, _⟩ <;> exact ⟨_, _, _, rfl⟩
/-- append(v, x): x's cells in a row that the statement makes. -/
theorem row_app (E S : TypeId) (sz bytes : Nat) (z : Value) (hU : Tryd.prog.underlying S = some (.slice E)) (hi : (Tryd.prog.info? E).map (fun i => (i.zero, i.size, i.bytes)) = some (some z, sz, bytes)) (hzs : z.cells.size = sz) (hsz : 0 < sz)
    {w wx : World} {B n : Nat} {v : Value} {xs : List Value} (h : w.ownsRow B E sz v n xs) (hB : B ≤ w.heap.size) (c : List Value) (hc : c.length = sz) (h1 : ∀ u ∈ c, u.oneCell' = true) (hb : (n + 1) * bytes ≤ 140737488355328) (h63 : n + 1 ≤ maxLen) (hx : wx = w.alloc (.cells c.toArray E) ∨ wx = (w.alloc (.cells c.toArray E)).drew) :
    ∃ v' W, (Builtin.append_ #[S, S] S #[v, .slice (some ⟨w.heap.size, 0, none⟩) 1 1]).run Tryd.prog wx = .ok v' W ∧ W.ownsRow B E sz v' (n + 1) (xs ++ c) ∧ wx.grownBy W v.ownBlock ∧ Below w.heap.size w wx := by
  obtain ⟨i, hi, hz0, hz1, hz2⟩ := info_of hi
  have hbel : Below w.heap.size w wx := by
    rcases hx with rfl | rfl
    · exact (Below.refl _ _).alloc (Nat.le_refl _) _
    · exact ((Below.refl _ _).alloc (Nat.le_refl _) _).drew
  have hcell : ∀ j, wx.cell? ⟨w.heap.size, j, none⟩ = c[j]? := fun j => by
    have : (w.alloc (.cells c.toArray E)).cell? ⟨w.heap.size, j, none⟩ = c[j]? := by rw [World.cell?_alloc_new]; simp
    rcases hx with rfl | rfl
    · exact this
    · exact this
  obtain ⟨v', W, hr, ho, gr, _, _⟩ := run_append_own_at (P := Tryd.prog) wx B S S E i z sz bytes hU hi hz0 hz1 hz2 hzs hsz v n xs (row_up h hbel) ⟨w.heap.size, 0, none⟩ 1 1 c (by rw [hc, Nat.one_mul]) (fun j u hj => by rw [Addr.add_lit, Nat.zero_add, hcell, hj]) h1 h63 hb (by have := hbel.size; omega)
  exact ⟨v', W, hr, ho, gr, hbel⟩
end Go.Proofs.YtjcackcimofcmaaDoor
