/-
  An image as plain lists, and what P2.1 says of it.
-/
import Derived.Test.YtechpdfcgimkkaaDoorProg
import Derived.WalkKit
import Derived.Below
import Derived.WalkSpells
import Derived.WalkLawsBesides
import Derived.Handy
import Derived.Deep.Light
import Derived.Lib.SmallJoins
import Derived.Laws.CopyRow
import Derived.Laws.IdiomCopy
import Derived.Laws.MakeOwn
import Derived.Deep.OwnRows
import Derived.Deep.WholeRow
import Derived.Outline
import Derived.Deep.AppendLies
import Derived.Maps.AppendAt
import Derived.Deep.RegionLaw
import Derived.Deep.Upon
import Derived.Deep.AppendSrc
import Derived.Lib.AppendStr
import Derived.Lib.SlBytesConst
import Derived.Deep.MidRow
namespace Go.Proofs.YtechpdfcgimkkaaDoor
open Go.RowKit Go.Joins
structure Fn where
  name : ByteArray
  start : Int
  size : Int
structure Ln where
  a : Int
  n : Int
structure Img where
  text : List Int
  funcs : List Fn
  tables : List (List Int)
  data : List Int
  lines : List Ln
  entry : Int
def i64 (x : Int) : Prop := -9223372036854775808 ≤ x ∧ x ≤ 9223372036854775807
def Fn.ok (f : Fn) : Prop := f.name.size ≤ maxLen ∧ i64 f.start ∧ i64 f.size
def Ln.ok (l : Ln) : Prop := i64 l.a ∧ i64 l.n
def Fn.cells (f : Fn) : List Value := [.string f.name, .int .i64 f.start, .int .i64 f.size]
def Ln.cells (l : Ln) : List Value := [.int .i64 l.a, .int .i64 l.n]
def icell (n : Int) : List Value := [.int .i64 n]
def vcell (v : Value) : List Value := [v]
def ucell (n : Int) : List Value := [.int .u8 n]
/-- A slice value whose elements, in a world, are these. -/
def ListAt {α : Type} (w : World) (cells : α → List Value) (sz : Nat) (v : Value) (xs : List α) : Prop :=
  (∃ a cap, v = .slice a 0 cap ∧ xs = []) ∨ ∃ bb oo cap, v = .slice (some ⟨bb, oo, none⟩) xs.length cap ∧ xs.length ≤ cap ∧ cap ≤ maxLen ∧ bb < w.heap.size ∧
    ∀ j x, xs[j]? = some x → ∀ o u, (cells x)[o]? = some u → w.cell? ⟨bb, oo + j * sz + o, none⟩ = some u
theorem ListAt.form {α : Type} {w : World} {cells : α → List Value} {sz : Nat} {v : Value} {xs : List α} (h : ListAt w cells sz v xs) : ∃ a cap, v = .slice a xs.length cap ∧ xs.length ≤ maxLen := by
  rcases h with ⟨a, cap, rfl, rfl⟩ | ⟨bb, oo, cap, rfl, h1, h2, _⟩
  · exact ⟨a, cap, rfl, by simp⟩
  · exact ⟨_, cap, rfl, by omega⟩
theorem ListAt.stays {α : Type} {w w' : World} {cells : α → List Value} {sz : Nat} {v : Value} {xs : List α} {m : Nat} (h : ListAt w cells sz v xs) (hm : w.heap.size ≤ m) (hb : Below m w w') : ListAt w' cells sz v xs := by
  rcases h with h | ⟨bb, oo, cap, rfl, h1, h2, h3, h4⟩
  · exact Or.inl h
  · have := hb.size
    exact Or.inr ⟨bb, oo, cap, rfl, h1, h2, by omega, fun j x hj o u hu => (hb.cell (p := ⟨bb, _, none⟩) (by simp; omega)).trans (h4 j x hj o u hu)⟩
/-- An image's parts, in a world. -/
structure ImgAt (w : World) (vT vF vB vD vL : Value) (m : Img) : Prop where
  text : ListAt w ucell 1 vT m.text
  funcs : ListAt w Fn.cells 3 vF m.funcs
  tables : ∃ vs : List Value, ListAt w vcell 1 vB vs ∧ vs.length = m.tables.length ∧ ∀ (j : Nat) (u : Value) (t : List Int), vs[j]? = some u → m.tables[j]? = some t → ListAt w icell 1 u t
  data : ListAt w icell 1 vD m.data
  lines : ListAt w Ln.cells 2 vL m.lines
structure Img.ok (m : Img) : Prop where
  text : ∀ x ∈ m.text, 0 ≤ x ∧ x ≤ 255
  funcs : ∀ f ∈ m.funcs, f.ok
  tables : ∀ t ∈ m.tables, ∀ x ∈ t, i64 x
  data : ∀ x ∈ m.data, i64 x
  lines : ∀ l ∈ m.lines, l.ok
  entry : i64 m.entry
theorem ImgAt.stays {w w' : World} {vT vF vB vD vL : Value} {m : Img} {k : Nat} (h : ImgAt w vT vF vB vD vL m) (hm : w.heap.size ≤ k) (hb : Below k w w') : ImgAt w' vT vF vB vD vL m := by
  obtain ⟨vs, h1, h2, h3⟩ := h.tables
  exact ⟨h.text.stays hm hb, h.funcs.stays hm hb, ⟨vs, h1.stays hm hb, h2, fun j u t hu ht => (h3 j u t hu ht).stays hm hb⟩, h.data.stays hm hb, h.lines.stays hm hb⟩
/-- A byte that a name may have. -/
def okc (c : Int) : Bool := (decide (97 ≤ c) && decide (c ≤ 122)) || (decide (48 ≤ c) && decide (c ≤ 57)) || c == 95 || c == 46
def nameMay (s : ByteArray) : Bool := decide (1 ≤ s.size) && decide (s.size ≤ 16) && s.data.toList.all fun c => okc (c.toNat : Int)
/-- Function by function. -/
def fchk (size : Int) : List Fn → List Fn → Int → Int
  | _, [], e => if e = size then 0 else 8
  | pre, f :: r, e => if nameMay f.name = false then 4 else if (∃ g ∈ pre, g.name = f.name) then 7 else if f.start ≠ e ∨ f.size < 1 ∨ size - e < f.size then 8 else fchk size (pre ++ [f]) r (e + f.size)
def tchk (size : Int) : List (List Int) → Int
  | [] => 0
  | t :: r => if 20 < t.length then 1 else if (∃ x ∈ t, x < 0 ∨ size ≤ x) then 2 else tchk size r
def lchk (size : Int) : List Ln → Int → Int
  | [], _ => 0
  | l :: r, ahead => if l.n < 0 ∨ 10000 < l.n then 2 else if l.a ≤ ahead ∨ size ≤ l.a then 8 else lchk size r l.a
/-- P2.1. -/
def imgChk (m : Img) : Int :=
  if 8000 < m.text.length ∨ 40 < m.funcs.length then 1
  else if fchk m.text.length [] m.funcs 0 ≠ 0 then fchk m.text.length [] m.funcs 0
  else if m.entry < 0 ∨ m.funcs.length ≤ m.entry then 6
  else if 20 < m.tables.length ∨ 64 < m.data.length then 1
  else if tchk m.text.length m.tables ≠ 0 then tchk m.text.length m.tables
  else if (∃ x ∈ m.data, x < -1099511627776 ∨ 1099511627776 < x) then 2
  else if 4000 < m.lines.length then 1
  else lchk m.text.length m.lines (-1)
/-- P2.2. -/
def lineOf (l : List Ln) (p : Int) : Int := l.foldl (fun n x => if x.a ≤ p then x.n else n) 0
theorem lineOf_snoc (l : List Ln) (x : Ln) (p : Int) : lineOf (l ++ [x]) p = if x.a ≤ p then x.n else lineOf l p := by
  unfold lineOf; rw [List.foldl_append]; rfl
theorem lineOf_next (l : List Ln) (k : Nat) (x : Ln) (p : Int) (h : l[k]? = some x) : lineOf (l.take (k + 1)) p = if x.a ≤ p then x.n else lineOf (l.take k) p := by
  rw [List.take_add_one, h]; exact lineOf_snoc _ _ _
end Go.Proofs.YtechpdfcgimkkaaDoor
/-
  Lists in memory, flat; make and copy.
-/
namespace Go.Proofs.YtechpdfcgimkkaaDoor
open Go.RowKit Go.Joins
section
variable {P : Program}
theorem copy_wide (w : World) (dT sT ty elem : TypeId) (i : TypeInfo) (g dLen dCap : Nat) (a : Option Addr) (sCap : Nat) (cur : Array Value) (t : TypeId) (cs : List Value)
    (hu : P.underlying dT = some (.slice elem)) (hi : P.info? elem = some i) (hg : w.heap[g]? = some (.cells cur t (0, 0))) (hn : cs.length = dLen * i.size)
    (hsrc : 0 < dLen → ∃ b, a = some b ∧ ∀ j v, cs[j]? = some v → w.cell? (b.add j) = some v) (hfit : cur.size = cs.length) (h1 : ∀ v ∈ cs, v.oneCell' = true) :
    (Builtin.copy_ #[dT, sT] ty #[.slice (some ⟨g, 0, none⟩) dLen dCap, .slice a dLen sCap]).run P w = .ok (goInt dLen) (w.setRow g cs.toArray) := by
  rcases Nat.eq_zero_or_pos dLen with h0 | h0
  · subst h0
    obtain rfl : cs = [] := List.length_eq_zero_iff.1 (by rw [hn]; simp)
    have hc : cur = #[] := Array.eq_empty_of_size_eq_zero (by simpa using hfit)
    subst hc
    have hl : ∀ (x : Addr), (loadCells x 0).run P w = .ok #[] w := fun x => by simpa using run_loadCells_list (P := P) w x [] (by simp)
    rw [setRow_self w g #[] t (0, 0) hg]
    cases a <;> simp [Builtin.copy_, run_underlying hu, Builtin.lenOf, Builtin.firstCells, sizeOf, typeInfo, hi, storeCells, hl]
  · obtain ⟨b, rfl, hs⟩ := hsrc h0
    have hl := run_loadCells_list (P := P) w b cs hs
    have hst := run_storeCells_at P g 0 t cs 0 cur w hg (by omega) h1
    have hd : cur.toList.drop (0 + 0 + cs.length) = [] := List.drop_of_length_le (by simp; omega)
    rw [hd] at hst
    simp only [Nat.add_zero, List.take_zero, List.nil_append, List.append_nil] at hst
    simp [Builtin.copy_, run_underlying hu, Builtin.lenOf, Builtin.firstCells, sizeOf, typeInfo, hi, ← hn, hl, hst]
theorem make_wide (t e : TypeId) (i : TypeInfo) (z : Value) (ht : P.underlying t = some (.slice e)) (hi : P.info? e = some i) (hz : i.zero = some z) (n : Nat) (hbytes : i.bytes * n ≤ 281474976710656) (h63 : n ≤ 9223372036854775807) (w : World) :
    (Instr.makeSlice t (.int .i64 (n : Int)) (.int .i64 (n : Int))).run P w = .ok (.slice (some ⟨w.heap.size, 0, none⟩) n n) (w.alloc (.cells (madeCells z.cells (n * i.size)) e)) := by
  have hb' : (i.bytes : Int) * (n : Int) ≤ 281474976710656 := by
    have h : ((i.bytes * n : Nat) : Int) ≤ 281474976710656 := by omega
    rwa [Int.natCast_mul] at h
  have hr := run_make (P := P) w t e i z ht hi hz .i64 .i64 n n (by omega) (Int.le_refl _) hb' (by omega)
  simpa only [Int.toNat_natCast] using hr
theorem wpList_make_run (w : World) {ops : Array Oper} {rest : List Oper} {o : Oper} {a : Act} {Q : Exit → Act → World → Prop} (hgd : o.guard = none) (l c : Operand) (t : TypeId) (ho : o.op = Op.makeSlice t l c) (vl vc : Value) (hl : a.eval l = vl) (hc : a.eval c = vc)
    {v : Value} {W : World} (hr : (Instr.makeSlice t vl vc).run P w = .ok v W) (h : wpList P ops Q rest (a.put o.dst v) W) : wpList P ops Q (o :: rest) a w := by
  refine wpList_plain hgd fun K hK => ?_
  unfold Oper.wp
  simp [execOp, ho, hl, hc, hr, Result.andThen]
  exact hK _ _ h
theorem wpList_copy_run (w : World) {ops : Array Oper} {rest : List Oper} {o : Oper} {a : Act} {Q : Exit → Act → World → Prop} (hgd : o.guard = none) (d s : Operand) (dT sT : TypeId) (ho : o.op = .call { callee := .builtin .copy, args := #[d, s], argTypes := #[dT, sT] })
    (vd vs : Value) (hd : a.eval d = vd) (hs : a.eval s = vs) {v : Value} {W : World} (hr : (Builtin.copy_ #[dT, sT] o.type #[vd, vs]).run P w = .ok v W) (h : wpList P ops Q rest (a.put o.dst v) W) : wpList P ops Q (o :: rest) a w := by
  refine wpList_plain hgd fun K hK => ?_
  unfold Oper.wp
  simp [execOp, ho, resolve, invoke, builtin, hd, hs, hr, Result.andThen]
  exact hK _ _ h
end
/-- The cells of a list's elements, one behind the other. -/
def flat {α : Type} (cells : α → List Value) (xs : List α) : List Value := xs.flatMap cells
theorem flat_len {α : Type} {cells : α → List Value} {sz : Nat} (hl : ∀ a, (cells a).length = sz) (xs : List α) : (flat cells xs).length = xs.length * sz := by
  induction xs with
  | nil => simp [flat]
  | cons x xs ih => rw [show flat cells (x :: xs) = cells x ++ flat cells xs from rfl, List.length_append, ih, hl, List.length_cons, Nat.succ_mul]; omega
theorem flat_at {α : Type} {cells : α → List Value} {sz : Nat} (hl : ∀ a, (cells a).length = sz) (xs : List α) (j : Nat) (x : α) (h : xs[j]? = some x) (o : Nat) (ho : o < sz) : (flat cells xs)[j * sz + o]? = (cells x)[o]? := by
  induction xs generalizing j with
  | nil => simp at h
  | cons y ys ih =>
    rw [show flat cells (y :: ys) = cells y ++ flat cells ys from rfl]
    cases j with
    | zero => simp at h; subst h; rw [Nat.zero_mul, Nat.zero_add, List.getElem?_append_left (by rw [hl]; exact ho)]
    | succ j =>
      rw [Nat.succ_mul, List.getElem?_append_right (by rw [hl]; omega), hl, show j * sz + sz + o - sz = j * sz + o by omega]
      exact ih j (by simpa using h)
theorem flat_split {α : Type} {cells : α → List Value} {sz : Nat} (hp : 0 < sz) (hl : ∀ a, (cells a).length = sz) (xs : List α) (k : Nat) (u : Value) (h : (flat cells xs)[k]? = some u) : ∃ (j o : Nat) (x : α), k = j * sz + o ∧ o < sz ∧ xs[j]? = some x ∧ (cells x)[o]? = some u := by
  have hk : k < xs.length * sz := by
    rcases Nat.lt_or_ge k (xs.length * sz) with q | q
    · exact q
    · rw [List.getElem?_eq_none (by rw [flat_len hl]; exact q)] at h; cases h
  have e : k = (k / sz) * sz + k % sz := by rw [Nat.mul_comm]; exact (Nat.div_add_mod k sz).symm
  have ho : k % sz < sz := Nat.mod_lt _ hp
  have hj : k / sz < xs.length := (Nat.div_lt_iff_lt_mul hp).2 hk
  refine ⟨k / sz, k % sz, xs[k / sz], e, ho, List.getElem?_eq_getElem hj, ?_⟩
  rw [← flat_at hl xs (k / sz) _ (List.getElem?_eq_getElem hj) _ ho, ← e]
  exact h
theorem list_src {α : Type} {w : World} {cells : α → List Value} {sz : Nat} {bb oo : Nat} {xs : List α} (hp : 0 < sz) (hl : ∀ a, (cells a).length = sz) (h : ∀ j x, xs[j]? = some x → ∀ o u, (cells x)[o]? = some u → w.cell? ⟨bb, oo + j * sz + o, none⟩ = some u) :
    ∀ j v, (flat cells xs)[j]? = some v → w.cell? ((⟨bb, oo, none⟩ : Addr).add j) = some v := by
  intro k u hk
  obtain ⟨j, o, x, rfl, _, hx, hu⟩ := flat_split hp hl xs k u hk
  rw [Addr.add_lit, ← Nat.add_assoc]
  exact h j x hx o u hu
theorem list_made {α : Type} (w : World) (cells : α → List Value) (sz : Nat) (xs : List α) (e : TypeId) (hl : ∀ a, (cells a).length = sz) (more : List Value) (cap : Nat) (hc : xs.length ≤ cap) (hcm : cap ≤ maxLen) :
    ListAt (w.alloc (.cells (flat cells xs ++ more).toArray e)) cells sz (.slice (some ⟨w.heap.size, 0, none⟩) xs.length cap) xs := by
  refine Or.inr ⟨w.heap.size, 0, cap, rfl, hc, hcm, by simp, fun j x hx o u hu => ?_⟩
  have ho : o < sz := by
    rcases Nat.lt_or_ge o sz with q | q
    · exact q
    · rw [List.getElem?_eq_none (by rw [hl]; exact q)] at hu; cases hu
  have hj : j < xs.length := (List.getElem?_eq_some_iff.1 hx).1
  rw [World.cell?_alloc_new]
  have hlt : j * sz + o < (flat cells xs).length := by
    rw [flat_len hl]
    have h1 : (j + 1) * sz ≤ xs.length * sz := Nat.mul_le_mul_right _ hj
    rw [Nat.succ_mul] at h1
    omega
  simp only [Nat.zero_add, List.getElem?_toArray]
  rw [List.getElem?_append_left hlt, flat_at hl xs j x hx o ho]
  exact hu
theorem flat_one {α : Type} {cells : α → List Value} (h : ∀ a, ∀ u ∈ cells a, u.oneCell' = true) (xs : List α) : ∀ u ∈ flat cells xs, u.oneCell' = true := by
  intro u hu
  obtain ⟨x, _, hx⟩ := List.mem_flatMap.1 hu
  exact h x u hx
theorem info_of {e : TypeId} {z : Value} {size bytes : Nat} (h : (Tryd.prog.info? e).map (fun i => (i.zero, i.size, i.bytes)) = some (some z, size, bytes)) : ∃ i, Tryd.prog.info? e = some i ∧ i.zero = some z ∧ i.size = size ∧ i.bytes = bytes := by
  obtain ⟨i, hi, hzz⟩ := Option.map_eq_some_iff.1 h
  simp only [Prod.mk.injEq] at hzz
  exact ⟨i, hi, hzz.1, hzz.2.1, hzz.2.2⟩
/-- make, then copy: the run's two equations. -/
theorem copied {α : Type} (w : World) (cells : α → List Value) (sz bytes : Nat) (v z : Value) (xs : List α) (T E ty : TypeId) (h : ListAt w cells sz v xs) (hp : 0 < sz) (hl : ∀ a, (cells a).length = sz) (h1 : ∀ a, ∀ u ∈ cells a, u.oneCell' = true)
    (hu : Tryd.prog.underlying T = some (.slice E)) (hi : (Tryd.prog.info? E).map (fun i => (i.zero, i.size, i.bytes)) = some (some z, sz, bytes)) (hb : bytes * xs.length ≤ 281474976710656) :
    ∃ W, (Instr.makeSlice T (.int .i64 (xs.length : Int)) (.int .i64 (xs.length : Int))).run Tryd.prog w = .ok (.slice (some ⟨w.heap.size, 0, none⟩) xs.length xs.length) W ∧
      (Builtin.copy_ #[T, T] ty #[.slice (some ⟨w.heap.size, 0, none⟩) xs.length xs.length, v]).run Tryd.prog W = .ok (goInt xs.length) (w.alloc (.cells (flat cells xs).toArray E)) := by
  obtain ⟨i, hi, hz, hs, hbs⟩ := info_of hi
  have hm : xs.length ≤ maxLen := by obtain ⟨_, _, _, hm⟩ := h.form; exact hm
  refine ⟨_, make_wide T E i z hu hi hz xs.length (by rw [hbs]; exact hb) (by unfold maxLen at hm; omega) w, ?_⟩
  obtain ⟨a, cap, rfl, _⟩ := h.form
  rw [copy_wide (w.alloc (.cells (madeCells z.cells (xs.length * i.size)) E)) T T ty E i w.heap.size xs.length xs.length a cap (madeCells z.cells (xs.length * i.size)) E (flat cells xs) hu hi (by show (w.heap.push _)[w.heap.size]? = _; simp) (by rw [flat_len hl, hs]) ?_ (by rw [size_madeCells, flat_len hl, hs]) (flat_one h1 xs)]
  · rw [World.setRow_alloc_new]
  · intro h0
    rcases h with ⟨_, _, _, rfl⟩ | ⟨bb, oo, c2, hv, q1, q2, q3, q4⟩
    · simp at h0
    · cases hv
      refine ⟨_, rfl, list_src hp hl fun j x hx o u hu => ?_⟩
      exact (((Below.refl w.heap.size w).alloc (Nat.le_refl _) _).cell (p := ⟨bb, _, none⟩) q3).trans (q4 j x hx o u hu)
end Go.Proofs.YtechpdfcgimkkaaDoor
/-
  Rows of the call's own, by their elements' types.
-/
namespace Go.Proofs.YtechpdfcgimkkaaDoor
open Go.RowKit Go.Joins
theorem row_block {w : World} {B sz n : Nat} {E : TypeId} {v : Value} {xs : List Value} (h : w.ownsRow B E sz v n xs) {k : Nat} (hk : v.ownBlock = some k) : B ≤ k ∧ ∃ cur, w.heap[k]? = some (.cells cur E) := by
  rcases h.2 with ⟨rfl, _⟩ | ⟨g, cap, cur, rfl, hB, hg, _⟩
  · cases hk
  · have : g = k := by simpa [Value.ownBlock] using hk
    subst this
    exact ⟨hB, _, hg⟩
theorem row_same {w w' : World} {B sz n : Nat} {E : TypeId} {v : Value} {xs : List Value} (h : w.ownsRow B E sz v n xs) (hk : ∀ k, v.ownBlock = some k → w'.heap[k]? = w.heap[k]?) : w'.ownsRow B E sz v n xs := by
  refine ⟨h.1, ?_⟩
  rcases h.2 with q | ⟨g, cap, cur, rfl, q1, q2, q3⟩
  · exact Or.inl q
  · exact Or.inr ⟨g, cap, cur, rfl, q1, (hk g rfl).trans q2, q3⟩
theorem row_ne {w : World} {B sz n : Nat} {E : TypeId} {v : Value} {xs : List Value} (h : w.ownsRow B E sz v n xs) {k : Nat} {cs : Array Value} {T : TypeId} {fr : Nat × Nat} (hk : w.heap[k]? = some (.cells cs T fr)) (hT : T ≠ E) : some k ≠ v.ownBlock := by
  intro he
  obtain ⟨_, cur, hg⟩ := row_block h he.symm
  rw [hk] at hg
  simp at hg
  exact hT hg.2.1
/-- A row stays where another one, of another type, grows. -/
theorem row_by {w W : World} {B sz n B2 sz2 n2 : Nat} {E E2 : TypeId} {v v2 : Value} {xs xs2 : List Value} (h : w.ownsRow B E sz v n xs) (h2 : w.ownsRow B2 E2 sz2 v2 n2 xs2) (gr : w.grownBy W v2.ownBlock) (hE : E ≠ E2) : W.ownsRow B E sz v n xs :=
  row_same h fun k hk => by
    obtain ⟨_, cur, hg⟩ := row_block h hk
    exact gr.block k (Array.getElem?_eq_some_iff.1 hg).1 (row_ne h2 hg hE)
theorem row_set {w : World} {B sz n gb o : Nat} {E T : TypeId} {v u : Value} {xs : List Value} {cs : Array Value} (h : w.ownsRow B E sz v n xs) (hg : w.heap[gb]? = some (.cells cs T)) (hT : T ≠ E) : (w.setCell ⟨gb, o, none⟩ u).ownsRow B E sz v n xs :=
  row_same h fun k hk => heap_setCell_other _ _ _ _ (by rintro rfl; exact row_ne h hg hT hk.symm)
theorem row_up {w w' : World} {B sz n : Nat} {E : TypeId} {v : Value} {xs : List Value} (h : w.ownsRow B E sz v n xs) (hb : Below w.heap.size w w') : w'.ownsRow B E sz v n xs :=
  row_same h fun k hk => hb.block k (by obtain ⟨_, _, hg⟩ := row_block h hk; exact (Array.getElem?_eq_some_iff.1 hg).1)
theorem row_list {α : Type} {w : World} {B sz : Nat} {E : TypeId} {v : Value} {cells : α → List Value} {xs : List α} (hl : ∀ a, (cells a).length = sz) (h : w.ownsRow B E sz v xs.length (flat cells xs)) : ListAt w cells sz v xs := by
  rcases h.2 with ⟨rfl, h0⟩ | ⟨g, cap, cur, hv, q1, q2, q3, q4, q5, q6⟩
  · exact Or.inl ⟨_, _, rfl, List.length_eq_zero_iff.1 h0⟩
  · refine Or.inr ⟨g, 0, cap, hv, q3, q4, (Array.getElem?_eq_some_iff.1 q2).1, fun j x hx o u hu => ?_⟩
    have ho : o < sz := by
      rcases Nat.lt_or_ge o sz with q | q
      · exact q
      · rw [List.getElem?_eq_none (by rw [hl]; exact q)] at hu; cases hu
    have := h.cells (g := g) (by rw [hv]; rfl) (j * sz + o) u (by rw [flat_at hl xs j x hx o ho]; exact hu)
    rwa [Addr.add_lit, ← Nat.add_assoc] at this
theorem row_form {w : World} {B sz n : Nat} {E : TypeId} {v : Value} {xs : List Value} (h : w.ownsRow B E sz v n xs) : ∃ a l c, v = .slice a l c := by
  rcases h.2 with ⟨rfl, _⟩ | ⟨_, _, _, rfl, _⟩ <;> exact ⟨_, _, _, rfl⟩
/-- append(v, x): x's cells in a row that the statement makes. -/
theorem row_app (E S : TypeId) (sz bytes : Nat) (z : Value) (hU : Tryd.prog.underlying S = some (.slice E)) (hi : (Tryd.prog.info? E).map (fun i => (i.zero, i.size, i.bytes)) = some (some z, sz, bytes)) (hzs : z.cells.size = sz) (hsz : 0 < sz)
    {w wx : World} {B n : Nat} {v : Value} {xs : List Value} (h : w.ownsRow B E sz v n xs) (hB : B ≤ w.heap.size) (c : List Value) (hc : c.length = sz) (h1 : ∀ u ∈ c, u.oneCell' = true) (hb : (n + 1) * bytes ≤ 140737488355328) (h63 : n + 1 ≤ maxLen) (hx : wx = w.alloc (.cells c.toArray E) ∨ wx = (w.alloc (.cells c.toArray E)).drew) :
    ∃ v' W, (Builtin.append_ #[S, S] S #[v, .slice (some ⟨w.heap.size, 0, none⟩) 1 1]).run Tryd.prog wx = .ok v' W ∧ W.ownsRow B E sz v' (n + 1) (xs ++ c) ∧ wx.grownBy W v.ownBlock ∧ Below w.heap.size w wx := by
  obtain ⟨i, hi, hz0, hz1, hz2⟩ := info_of hi
  have hbel : Below w.heap.size w wx := by
    rcases hx with rfl | rfl
    · exact (Below.refl _ _).alloc (Nat.le_refl _) _
    · exact ((Below.refl _ _).alloc (Nat.le_refl _) _).drew
  have hcell : ∀ j, wx.cell? ⟨w.heap.size, j, none⟩ = c[j]? := fun j => by
    have : (w.alloc (.cells c.toArray E)).cell? ⟨w.heap.size, j, none⟩ = c[j]? := by rw [World.cell?_alloc_new]; simp
    rcases hx with rfl | rfl
    · exact this
    · exact this
  obtain ⟨v', W, hr, ho, gr, _, _⟩ := run_append_own_at (P := Tryd.prog) wx B S S E i z sz bytes hU hi hz0 hz1 hz2 hzs hsz v n xs (row_up h hbel) ⟨w.heap.size, 0, none⟩ 1 1 c (by rw [hc, Nat.one_mul]) (fun j u hj => by rw [Addr.add_lit, Nat.zero_add, hcell, hj]) h1 h63 hb (by have := hbel.size; omega)
  exact ⟨v', W, hr, ho, gr, hbel⟩
end Go.Proofs.YtechpdfcgimkkaaDoor
/-
  An image that is being put together, in a box of the call's own.
-/
namespace Go.Proofs.YtechpdfcgimkkaaDoor
open Go.RowKit Go.Joins
structure Cp (W0 : World) (B gb : Nat) (en : Int) (w : World) (vT vF vB vD vL : Value) (xT : List Int) (xF : List Fn) (us : List Value) (xB : List (List Int)) (xD : List Int) (xL : List Ln) : Prop where
  bel : Below B W0 w
  ge : B ≤ gb
  box : w.heap[gb]? = some (.cells #[vT, vF, vB, vD, vL, .int .i64 en] 29)
  oT : w.ownsRow B 5 1 vT xT.length (flat ucell xT)
  oF : w.ownsRow B 47 3 vF xF.length (flat Fn.cells xF)
  oB : w.ownsRow B 26 1 vB us.length (flat vcell us)
  oD : w.ownsRow B 3 1 vD xD.length (flat icell xD)
  oL : w.ownsRow B 43 2 vL xL.length (flat Ln.cells xL)
  ul : us.length = xB.length
  oI : ∀ (j : Nat) (u : Value) (t : List Int), us[j]? = some u → xB[j]? = some t → w.ownsRow B 3 1 u t.length (flat icell t)
theorem Cp.lt {W0 : World} {B gb : Nat} {en : Int} {w : World} {vT vF vB vD vL : Value} {xT : List Int} {xF : List Fn} {us : List Value} {xB : List (List Int)} {xD : List Int} {xL : List Ln} (h : Cp W0 B gb en w vT vF vB vD vL xT xF us xB xD xL) : gb < w.heap.size := (Array.getElem?_eq_some_iff.1 h.box).1
theorem Cp.up {W0 : World} {B gb : Nat} {en : Int} {w w' : World} {vT vF vB vD vL : Value} {xT : List Int} {xF : List Fn} {us : List Value} {xB : List (List Int)} {xD : List Int} {xL : List Ln} (h : Cp W0 B gb en w vT vF vB vD vL xT xF us xB xD xL) (hb : Below w.heap.size w w') : Cp W0 B gb en w' vT vF vB vD vL xT xF us xB xD xL :=
  ⟨h.bel.trans (hb.mono (by have := h.ge; have := h.lt; omega)), h.ge, (hb.block gb h.lt).trans h.box, row_up h.oT hb, row_up h.oF hb, row_up h.oB hb, row_up h.oD hb, row_up h.oL hb, h.ul, fun j u t hu ht => row_up (h.oI j u t hu ht) hb⟩
theorem take_snoc' {α : Type} {xs : List α} {j : Nat} {y : α} (h : xs[j]? = some y) : xs.take (j + 1) = xs.take j ++ [y] := by rw [List.take_add_one, h]; rfl
theorem flat_snoc {α : Type} (cells : α → List Value) (xs : List α) (x : α) : flat cells (xs ++ [x]) = flat cells xs ++ cells x := by unfold flat; rw [List.flatMap_append]; simp
theorem Cp.cells {W0 : World} {B gb : Nat} {en : Int} {w : World} {vT vF vB vD vL : Value} {xT : List Int} {xF : List Fn} {us : List Value} {xB : List (List Int)} {xD : List Int} {xL : List Ln} (h : Cp W0 B gb en w vT vF vB vD vL xT xF us xB xD xL) :
    w.cell? ⟨gb, 0, none⟩ = some vT ∧ w.cell? ⟨gb, 1, none⟩ = some vF ∧ w.cell? ⟨gb, 2, none⟩ = some vB ∧ w.cell? ⟨gb, 3, none⟩ = some vD ∧ w.cell? ⟨gb, 4, none⟩ = some vL ∧ w.cell? ⟨gb, 5, none⟩ = some (.int .i64 en) := by
  refine ⟨?_, ?_, ?_, ?_, ?_, ?_⟩ <;> simp [World.cell?, h.box]
theorem Cp.addT {W0 : World} {B gb : Nat} {en : Int} {w wx W : World} {vT vF vB vD vL v' : Value} {xT : List Int} {xF : List Fn} {us : List Value} {xB : List (List Int)} {xD : List Int} {xL : List Ln} (h : Cp W0 B gb en w vT vF vB vD vL xT xF us xB xD xL) (hb : Below w.heap.size w wx) (x : Int) (ho : W.ownsRow B 5 1 v' (xT.length + 1) (flat ucell xT ++ ucell x)) (gr : wx.grownBy W vT.ownBlock) :
    W.heap[gb]? = some (.cells #[vT, vF, vB, vD, vL, .int .i64 en] 29) ∧ Cp W0 B gb en (W.setCell ⟨gb, 0, none⟩ v') v' vF vB vD vL (xT ++ [x]) xF us xB xD xL := by
  have u := h.up hb
  have hbox : W.heap[gb]? = some (.cells #[vT, vF, vB, vD, vL, .int .i64 en] 29) := (gr.block gb u.lt (row_ne u.oT u.box (by decide))).trans u.box
  have hset := setCell_eq_setRow W gb 0 _ _ _ v' hbox
  have bW : Below B wx W := ⟨gr.os, gr.tape, gr.output, gr.size, fun k hk => gr.block k (by have := u.ge; have := u.lt; omega) (by intro he; have := (row_block u.oT he.symm).1; omega)⟩
  have nw := row_set (o := 0) (u := v') ho hbox (by decide)
  rw [← flat_snoc] at nw
  have kF := row_set (o := 0) (u := v') (row_by u.oF u.oT gr (by decide)) hbox (by decide)
  have kB := row_set (o := 0) (u := v') (row_by u.oB u.oT gr (by decide)) hbox (by decide)
  have kD := row_set (o := 0) (u := v') (row_by u.oD u.oT gr (by decide)) hbox (by decide)
  have kL := row_set (o := 0) (u := v') (row_by u.oL u.oT gr (by decide)) hbox (by decide)
  refine ⟨hbox, (u.bel.trans bW).setCell (p := ⟨gb, 0, none⟩) h.ge v', h.ge, ?_, by simpa using nw, kF, kB, kD, kL, h.ul, ?_⟩
  · rw [hset]; exact setRow_heap W gb _ _ _ _ hbox
  · intro j u' t hu ht
    exact row_set (row_by (u.oI j u' t hu ht) u.oT gr (by decide)) hbox (by decide)
theorem Cp.addF {W0 : World} {B gb : Nat} {en : Int} {w wx W : World} {vT vF vB vD vL v' : Value} {xT : List Int} {xF : List Fn} {us : List Value} {xB : List (List Int)} {xD : List Int} {xL : List Ln} (h : Cp W0 B gb en w vT vF vB vD vL xT xF us xB xD xL) (hb : Below w.heap.size w wx) (x : Fn) (ho : W.ownsRow B 47 3 v' (xF.length + 1) (flat Fn.cells xF ++ Fn.cells x)) (gr : wx.grownBy W vF.ownBlock) :
    W.heap[gb]? = some (.cells #[vT, vF, vB, vD, vL, .int .i64 en] 29) ∧ Cp W0 B gb en (W.setCell ⟨gb, 1, none⟩ v') vT v' vB vD vL xT (xF ++ [x]) us xB xD xL := by
  have u := h.up hb
  have hbox : W.heap[gb]? = some (.cells #[vT, vF, vB, vD, vL, .int .i64 en] 29) := (gr.block gb u.lt (row_ne u.oF u.box (by decide))).trans u.box
  have hset := setCell_eq_setRow W gb 1 _ _ _ v' hbox
  have bW : Below B wx W := ⟨gr.os, gr.tape, gr.output, gr.size, fun k hk => gr.block k (by have := u.ge; have := u.lt; omega) (by intro he; have := (row_block u.oF he.symm).1; omega)⟩
  have nw := row_set (o := 1) (u := v') ho hbox (by decide)
  rw [← flat_snoc] at nw
  have kT := row_set (o := 1) (u := v') (row_by u.oT u.oF gr (by decide)) hbox (by decide)
  have kB := row_set (o := 1) (u := v') (row_by u.oB u.oF gr (by decide)) hbox (by decide)
  have kD := row_set (o := 1) (u := v') (row_by u.oD u.oF gr (by decide)) hbox (by decide)
  have kL := row_set (o := 1) (u := v') (row_by u.oL u.oF gr (by decide)) hbox (by decide)
  refine ⟨hbox, (u.bel.trans bW).setCell (p := ⟨gb, 1, none⟩) h.ge v', h.ge, ?_, kT, by simpa using nw, kB, kD, kL, h.ul, ?_⟩
  · rw [hset]; exact setRow_heap W gb _ _ _ _ hbox
  · intro j u' t hu ht
    exact row_set (row_by (u.oI j u' t hu ht) u.oF gr (by decide)) hbox (by decide)
theorem Cp.addL {W0 : World} {B gb : Nat} {en : Int} {w wx W : World} {vT vF vB vD vL v' : Value} {xT : List Int} {xF : List Fn} {us : List Value} {xB : List (List Int)} {xD : List Int} {xL : List Ln} (h : Cp W0 B gb en w vT vF vB vD vL xT xF us xB xD xL) (hb : Below w.heap.size w wx) (x : Ln) (ho : W.ownsRow B 43 2 v' (xL.length + 1) (flat Ln.cells xL ++ Ln.cells x)) (gr : wx.grownBy W vL.ownBlock) :
    W.heap[gb]? = some (.cells #[vT, vF, vB, vD, vL, .int .i64 en] 29) ∧ Cp W0 B gb en (W.setCell ⟨gb, 4, none⟩ v') vT vF vB vD v' xT xF us xB xD (xL ++ [x]) := by
  have u := h.up hb
  have hbox : W.heap[gb]? = some (.cells #[vT, vF, vB, vD, vL, .int .i64 en] 29) := (gr.block gb u.lt (row_ne u.oL u.box (by decide))).trans u.box
  have hset := setCell_eq_setRow W gb 4 _ _ _ v' hbox
  have bW : Below B wx W := ⟨gr.os, gr.tape, gr.output, gr.size, fun k hk => gr.block k (by have := u.ge; have := u.lt; omega) (by intro he; have := (row_block u.oL he.symm).1; omega)⟩
  have nw := row_set (o := 4) (u := v') ho hbox (by decide)
  rw [← flat_snoc] at nw
  have kT := row_set (o := 4) (u := v') (row_by u.oT u.oL gr (by decide)) hbox (by decide)
  have kF := row_set (o := 4) (u := v') (row_by u.oF u.oL gr (by decide)) hbox (by decide)
  have kB := row_set (o := 4) (u := v') (row_by u.oB u.oL gr (by decide)) hbox (by decide)
  have kD := row_set (o := 4) (u := v') (row_by u.oD u.oL gr (by decide)) hbox (by decide)
  refine ⟨hbox, (u.bel.trans bW).setCell (p := ⟨gb, 4, none⟩) h.ge v', h.ge, ?_, kT, kF, kB, kD, by simpa using nw, h.ul, ?_⟩
  · rw [hset]; exact setRow_heap W gb _ _ _ _ hbox
  · intro j u' t hu ht
    exact row_set (row_by (u.oI j u' t hu ht) u.oL gr (by decide)) hbox (by decide)
theorem Cp.addB {W0 : World} {B gb : Nat} {en : Int} {w wx W : World} {vT vF vB vD vL v' : Value} {xT : List Int} {xF : List Fn} {us : List Value} {xB : List (List Int)} {xD : List Int} {xL : List Ln} (h : Cp W0 B gb en w vT vF vB vD vL xT xF us xB xD xL) (hb : Below w.heap.size w wx) (x : Value) (t : List Int) (ho : W.ownsRow B 26 1 v' (us.length + 1) (flat vcell us ++ vcell x)) (gr : wx.grownBy W vB.ownBlock) (hin : w.ownsRow B 3 1 x t.length (flat icell t)) :
    W.heap[gb]? = some (.cells #[vT, vF, vB, vD, vL, .int .i64 en] 29) ∧ Cp W0 B gb en (W.setCell ⟨gb, 2, none⟩ v') vT vF v' vD vL xT xF (us ++ [x]) (xB ++ [t]) xD xL := by
  have u := h.up hb
  have hbox : W.heap[gb]? = some (.cells #[vT, vF, vB, vD, vL, .int .i64 en] 29) := (gr.block gb u.lt (row_ne u.oB u.box (by decide))).trans u.box
  have hset := setCell_eq_setRow W gb 2 _ _ _ v' hbox
  have bW : Below B wx W := ⟨gr.os, gr.tape, gr.output, gr.size, fun k hk => gr.block k (by have := u.ge; have := u.lt; omega) (by intro he; have := (row_block u.oB he.symm).1; omega)⟩
  have nw := row_set (o := 2) (u := v') ho hbox (by decide)
  rw [← flat_snoc] at nw
  have kT := row_set (o := 2) (u := v') (row_by u.oT u.oB gr (by decide)) hbox (by decide)
  have kF := row_set (o := 2) (u := v') (row_by u.oF u.oB gr (by decide)) hbox (by decide)
  have kD := row_set (o := 2) (u := v') (row_by u.oD u.oB gr (by decide)) hbox (by decide)
  have kL := row_set (o := 2) (u := v') (row_by u.oL u.oB gr (by decide)) hbox (by decide)
  refine ⟨hbox, (u.bel.trans bW).setCell (p := ⟨gb, 2, none⟩) h.ge v', h.ge, ?_, kT, kF, by simpa using nw, kD, kL, by simp [h.ul], ?_⟩
  · rw [hset]; exact setRow_heap W gb _ _ _ _ hbox
  · intro j u' t' hu ht
    rcases Nat.lt_or_ge j us.length with q | q
    · rw [List.getElem?_append_left q] at hu
      rw [List.getElem?_append_left (by have := h.ul; omega)] at ht
      exact row_set (row_by (u.oI j u' t' hu ht) u.oB gr (by decide)) hbox (by decide)
    · have hj : j = us.length := by
        have := (List.getElem?_eq_some_iff.1 hu).1
        simp at this; omega
      subst hj
      rw [List.getElem?_append_right (Nat.le_refl _), Nat.sub_self] at hu
      rw [h.ul, List.getElem?_append_right (Nat.le_refl _), Nat.sub_self] at ht
      simp at hu ht
      subst hu ht
      exact row_set (row_by (row_up hin hb) u.oB gr (by decide)) hbox (by decide)
theorem chain6 {wn : World} {g : Nat} {T : TypeId} {a0 a1 a2 a3 a4 a5 : Value} (zb : wn.heap[g]? = some (.cells #[a0, a1, a2, a3, a4, a5] T)) (b0 b1 b2 b3 b4 b5 : Value) :
    ((((((wn.setCell ⟨g, 0, none⟩ b0).setCell ⟨g, 1, none⟩ b1).setCell ⟨g, 2, none⟩ b2).setCell ⟨g, 3, none⟩ b3).setCell ⟨g, 4, none⟩ b4).setCell ⟨g, 5, none⟩ b5).heap[g]? = some (.cells #[b0, b1, b2, b3, b4, b5] T) :=
  heap_setCell_same _ g 5 _ T b5 (heap_setCell_same _ g 4 _ T b4 (heap_setCell_same _ g 3 _ T b3 (heap_setCell_same _ g 2 _ T b2 (heap_setCell_same _ g 1 _ T b1 (heap_setCell_same wn g 0 _ T b0 zb)))))
theorem chain6_other (wn : World) (g k : Nat) (hk : k ≠ g) (b0 b1 b2 b3 b4 b5 : Value) :
    ((((((wn.setCell ⟨g, 0, none⟩ b0).setCell ⟨g, 1, none⟩ b1).setCell ⟨g, 2, none⟩ b2).setCell ⟨g, 3, none⟩ b3).setCell ⟨g, 4, none⟩ b4).setCell ⟨g, 5, none⟩ b5).heap[k]? = wn.heap[k]? := by
  iterate 6 rw [heap_setCell_other _ _ _ _ (by simpa using hk)]
theorem chain6_below {B : Nat} {W wn : World} {g : Nat} (h : Below B W wn) (hg : B ≤ g) (b0 b1 b2 b3 b4 b5 : Value) :
    Below B W ((((((wn.setCell ⟨g, 0, none⟩ b0).setCell ⟨g, 1, none⟩ b1).setCell ⟨g, 2, none⟩ b2).setCell ⟨g, 3, none⟩ b3).setCell ⟨g, 4, none⟩ b4).setCell ⟨g, 5, none⟩ b5) :=
  (((((h.setCell (p := ⟨g, 0, none⟩) hg b0).setCell (p := ⟨g, 1, none⟩) hg b1).setCell (p := ⟨g, 2, none⟩) hg b2).setCell (p := ⟨g, 3, none⟩) hg b3).setCell (p := ⟨g, 4, none⟩) hg b4).setCell (p := ⟨g, 5, none⟩) hg b5
theorem row_low {w : World} {B B2 sz n : Nat} {E : TypeId} {v : Value} {xs : List Value} (h : w.ownsRow B E sz v n xs) (hB : B2 ≤ B) : w.ownsRow B2 E sz v n xs := ⟨h.1, by
  rcases h.2 with q | ⟨g, cap, cur, hv, q1, q2, q3⟩
  · exact Or.inl q
  · exact Or.inr ⟨g, cap, cur, hv, by omega, q2, q3⟩⟩
theorem vcell_one {x : Value} (hx : x.oneCell' = true) : ∀ u ∈ vcell x, u.oneCell' = true := by intro u hu; simp [vcell] at hu; subst hu; exact hx
end Go.Proofs.YtechpdfcgimkkaaDoor
/-
  A copy of a list, in memory of its own: image.copyOf.
-/
namespace Go.Proofs.YtechpdfcgimkkaaDoor
open Go.RowKit Go.Joins
theorem icell_len (a : Int) : (icell a).length = 1 := rfl
theorem ucell_len (a : Int) : (ucell a).length = 1 := rfl
theorem vcell_len (a : Value) : (vcell a).length = 1 := rfl
theorem fcell_len (a : Fn) : (Fn.cells a).length = 3 := rfl
theorem lcell_len (a : Ln) : (Ln.cells a).length = 2 := rfl
theorem icell_one (a : Int) : ∀ u ∈ icell a, u.oneCell' = true := by intro u hu; simp [icell] at hu; subst hu; rfl
theorem ucell_one (a : Int) : ∀ u ∈ ucell a, u.oneCell' = true := by intro u hu; simp [ucell] at hu; subst hu; rfl
theorem fcell_one (a : Fn) : ∀ u ∈ Fn.cells a, u.oneCell' = true := by intro u hu; simp [Fn.cells] at hu; rcases hu with rfl | rfl | rfl <;> rfl
theorem lcell_one (a : Ln) : ∀ u ∈ Ln.cells a, u.oneCell' = true := by intro u hu; simp [Ln.cells] at hu; rcases hu with rfl | rfl <;> rfl
theorem inInt : (Tryd.prog.info? 3).map (fun i => (i.zero, i.size, i.bytes)) = some (some (.int .i64 0), 1, 8) := by kernel_rfl
theorem inByte : (Tryd.prog.info? 5).map (fun i => (i.zero, i.size, i.bytes)) = some (some (.int .u8 0), 1, 1) := by kernel_rfl
theorem inFn : (Tryd.prog.info? 47).map (fun i => (i.zero, i.size, i.bytes)) = some (some (.agg #[.string ByteArray.empty, .int .i64 0, .int .i64 0]), 3, 32) := by kernel_rfl
theorem inLn : (Tryd.prog.info? 43).map (fun i => (i.zero, i.size, i.bytes)) = some (some (.agg #[.int .i64 0, .int .i64 0]), 2, 16) := by kernel_rfl
theorem inInts : (Tryd.prog.info? 26).map (fun i => (i.zero, i.size, i.bytes)) = some (some (.slice none 0 0), 1, 24) := by kernel_rfl
end Go.Proofs.YtechpdfcgimkkaaDoor
/-
  Bytes that are put together: numbers in so many bytes; a slice of the call's own in a variable that a closure has.
-/
namespace Go.Proofs.YtechpdfcgimkkaaDoor
open Go.RowKit Go.Joins
/-- A number in so many bytes, the highest one first. -/
def be : Nat → Int → List Int
  | 0, _ => []
  | k + 1, n => n / 2 ^ (8 * k) % 256 :: be k n
theorem be_len (k : Nat) (n : Int) : (be k n).length = k := by
  induction k with
  | zero => rfl
  | succ k ih => simp [be, ih]
theorem be_bd (k : Nat) (n : Int) : ∀ x ∈ be k n, 0 ≤ x ∧ x ≤ 255 := by
  induction k with
  | zero => intro x h; cases h
  | succ k ih =>
    intro x h
    simp only [be, List.mem_cons] at h
    rcases h with rfl | h
    · omega
    · exact ih x h
theorem be_take (k : Nat) (n : Int) (p : Nat) (h : p < k) : (be k n).take (k - p) = (be k n).take (k - (p + 1)) ++ [n / 2 ^ (8 * p) % 256] := by
  induction k with
  | zero => omega
  | succ k ih =>
    rcases Nat.lt_or_ge p k with q | q
    · rw [show k + 1 - p = (k - p) + 1 by omega, show k + 1 - (p + 1) = (k - (p + 1)) + 1 by omega]
      simp only [be, List.take_succ_cons, List.cons_append]
      rw [ih q]
    · obtain rfl : p = k := by omega
      rw [show p + 1 - p = 1 by omega, Nat.sub_self]
      simp [be]
/-- What a step keeps that grows the row in the variable gb. -/
structure Keep (B gb : Nat) (w w' : World) : Prop where
  bel : Below B w w'
  oth : ∀ (k : Nat) (cs : Array Value) (T : TypeId) (fr : Nat × Nat), w.heap[k]? = some (.cells cs T fr) → T ≠ 5 → k ≠ gb → w'.heap[k]? = some (.cells cs T fr)
theorem Keep.refl (B gb : Nat) (w : World) : Keep B gb w w := ⟨Below.refl _ _, fun _ _ _ _ h _ _ => h⟩
theorem Keep.trans {B gb : Nat} {w w1 w2 : World} (h1 : Keep B gb w w1) (h2 : Keep B gb w1 w2) : Keep B gb w w2 :=
  ⟨h1.bel.trans h2.bel, fun k cs T fr h hT hk => h2.oth k cs T fr (h1.oth k cs T fr h hT hk) hT hk⟩
theorem Keep.alloc {B gb : Nat} {w w1 : World} (h : Keep B gb w w1) (hB : B ≤ w1.heap.size) (o : Obj) : Keep B gb w (w1.alloc o) :=
  ⟨h.bel.alloc hB o, fun k cs T fr hk hT hg => by
    have := h.oth k cs T fr hk hT hg
    have hlt := (Array.getElem?_eq_some_iff.1 this).1
    show (w1.heap.push _)[k]? = _
    rw [Array.getElem?_push_lt hlt, ← Array.getElem?_eq_getElem hlt]; exact this⟩
theorem Keep.drew {B gb : Nat} {w w1 : World} (h : Keep B gb w w1) : Keep B gb w w1.drew := ⟨h.bel.drew, h.oth⟩
theorem Keep.drewN {B gb : Nat} {w w1 : World} (h : Keep B gb w w1) (n : Nat) : Keep B gb w (w1.drewN n) := ⟨⟨h.bel.os, h.bel.tape, h.bel.output, h.bel.size, h.bel.block⟩, h.oth⟩
/-- A slice of bytes of the call's own: one that may grow, or a full one. -/
def Own (w : World) (B : Nat) (v : Value) (ns : List Int) : Prop :=
  w.ownsRow B 5 1 v ns.length (ns.map (Value.int .u8)) ∨ ∃ g, v = .slice (some ⟨g, 0, none⟩) ns.length ns.length ∧ B ≤ g ∧ ∃ fr, w.heap[g]? = some (.cells (ns.map (Value.int .u8)).toArray 5 fr)
theorem Own.block {w : World} {B : Nat} {v : Value} {ns : List Int} (h : Own w B v ns) {k : Nat} (hk : v.ownBlock = some k) : B ≤ k ∧ ∃ cur fr, w.heap[k]? = some (.cells cur 5 fr) := by
  rcases h with h | ⟨g, rfl, hB, fr, hg⟩
  · rcases h.2 with ⟨rfl, _⟩ | ⟨g, cap, cur, rfl, hB, hg, _⟩
    · cases hk
    · have : g = k := by simpa [Value.ownBlock] using hk
      subst this
      exact ⟨hB, _, _, hg⟩
  · have : g = k := by simpa [Value.ownBlock] using hk
    subst this
    exact ⟨hB, _, _, hg⟩
theorem Own.form {w : World} {B : Nat} {v : Value} {ns : List Int} (h : Own w B v ns) : ∃ a c, v = .slice a ns.length c := by
  rcases h with h | ⟨g, rfl, _⟩
  · rcases h.2 with ⟨rfl, h0⟩ | ⟨_, _, _, rfl, _⟩
    · exact ⟨_, _, by rw [h0]⟩
    · exact ⟨_, _, rfl⟩
  · exact ⟨_, _, rfl⟩
theorem Own.any {w : World} {B : Nat} {v : Value} {ns : List Int} (h : Own w B v ns) : ∃ a l c, v = .slice a l c := by
  obtain ⟨a, c, e⟩ := h.form
  exact ⟨a, _, c, e⟩
theorem Own.one {w : World} {B : Nat} {v : Value} {ns : List Int} (h : Own w B v ns) : v.oneCell' = true := by
  rcases h with h | ⟨g, rfl, _⟩
  · rcases h.2 with ⟨rfl, _⟩ | ⟨_, _, _, rfl, _⟩ <;> rfl
  · rfl
theorem Own.same {w w' : World} {B : Nat} {v : Value} {ns : List Int} (h : Own w B v ns) (hk : ∀ k, v.ownBlock = some k → w'.heap[k]? = w.heap[k]?) : Own w' B v ns := by
  rcases h with h | ⟨g, rfl, hB, fr, hg⟩
  · refine Or.inl ⟨h.1, ?_⟩
    rcases h.2 with q | ⟨g, cap, cur, rfl, q1, q2, q3⟩
    · exact Or.inl q
    · exact Or.inr ⟨g, cap, cur, rfl, q1, (hk g rfl).trans q2, q3⟩
  · exact Or.inr ⟨g, rfl, hB, fr, (hk g rfl).trans hg⟩
theorem Own.ne {w : World} {B : Nat} {v : Value} {ns : List Int} (h : Own w B v ns) {k : Nat} {cs : Array Value} {T : TypeId} {fr : Nat × Nat} (hk : w.heap[k]? = some (.cells cs T fr)) (hT : T ≠ 5) : some k ≠ v.ownBlock := by
  intro he
  obtain ⟨_, cur, fr', hg⟩ := h.block he.symm
  rw [hk] at hg
  simp at hg
  exact hT hg.2.1
/-- What lies in it. -/
theorem Own.list {w : World} {B : Nat} {v : Value} {ns : List Int} (h : Own w B v ns) (hm : ns.length ≤ maxLen) : ListAt w ucell 1 v ns := by
  have go : ∀ g cap, v = .slice (some ⟨g, 0, none⟩) ns.length cap → ns.length ≤ cap → cap ≤ maxLen → g < w.heap.size → (∀ (j : Nat) (u : Value), (ns.map (Value.int .u8))[j]? = some u → w.cell? ⟨g, j, none⟩ = some u) → ListAt w ucell 1 v ns := fun g cap hv h1 h2 h3 h4 => by
    refine Or.inr ⟨g, 0, cap, hv, h1, h2, h3, fun j x hx o u hu => ?_⟩
    have ho : o = 0 := by
      rcases Nat.lt_or_ge o 1 with q | q
      · omega
      · rw [List.getElem?_eq_none (by rw [ucell_len]; exact q)] at hu; cases hu
    subst ho
    rw [Nat.mul_one, Nat.add_zero, Nat.zero_add]
    simp [ucell] at hu
    subst hu
    exact h4 j _ (by rw [List.getElem?_map, hx]; rfl)
  rcases h with h | ⟨g, hv, _, fr, hg⟩
  · rcases h.2 with ⟨rfl, h0⟩ | ⟨g, cap, cur, hv, q1, q2, q3, q4, q5, q6⟩
    · exact Or.inl ⟨_, _, rfl, List.length_eq_zero_iff.1 h0⟩
    · refine go g cap hv q3 q4 (Array.getElem?_eq_some_iff.1 q2).1 fun j u hu => ?_
      have := h.cells (g := g) (by rw [hv]; rfl) j u hu
      rwa [Addr.add_lit, Nat.zero_add] at this
  · refine go g _ hv (Nat.le_refl _) hm (Array.getElem?_eq_some_iff.1 hg).1 fun j u hu => ?_
    simp only [World.cell?, hg, List.getElem?_toArray]
    rw [hu]; rfl
/-- append to such a slice. -/
theorem own_app {w : World} {B : Nat} {v : Value} {ns : List Int} (h : Own w B v ns) (hB : B ≤ w.heap.size) (x : Value) (ms : List Int) (hx : ListAt w ucell 1 x ms) (hn : ns.length + ms.length ≤ 1000000) (ty : TypeId) :
    ∃ v' W, (Builtin.append_ #[23, 23] ty #[v, x]).run Tryd.prog w = .ok v' W ∧ Own W B v' (ns ++ ms) ∧ w.grownBy W v.ownBlock := by
  obtain ⟨i, hi, hz0, hz1, hz2⟩ := info_of inByte
  have nope : ms = [] → (Src Tryd.prog i.size 23 x 0 [] w) → ∃ v' W, (Builtin.append_ #[23, 23] ty #[v, x]).run Tryd.prog w = .ok v' W ∧ Own W B v' (ns ++ ms) ∧ w.grownBy W v.ownBlock := fun he hs => by
    subst he
    have gr : w.grownBy w v.ownBlock := ⟨rfl, rfl, rfl, Nat.le_refl _, fun _ _ _ => rfl⟩
    have form : ∃ a n c, v = .slice a n c ∧ n ≤ c := by
      rcases h with h | ⟨g, rfl, _⟩
      · rcases h.2 with ⟨rfl, _⟩ | ⟨g, cap, cur, rfl, _, _, q, _⟩
        · exact ⟨_, _, _, rfl, Nat.le_refl _⟩
        · exact ⟨_, _, _, rfl, q⟩
      · exact ⟨_, _, _, rfl, Nat.le_refl _⟩
    obtain ⟨a, n, c, rfl, hnc⟩ := form
    exact ⟨_, _, run_append_nothing w 23 23 ty 5 i Tryd.underlying23 hi a n c hnc x hs, by rw [List.append_nil]; exact h, gr⟩
  rcases hx with ⟨a, cap, rfl, rfl⟩ | ⟨bb, oo, cap, rfl, q1, q2, q3, q4⟩
  · refine nope rfl ?_
    cases a with
    | none => exact Src.ofNil w Tryd.underlying23 cap
    | some a => exact Src.ofSlice w Tryd.underlying23 a 0 cap [] (by simp) (fun j u h => by simp at h) (fun _ h => by cases h)
  have hnews : ∀ j u, (ms.map (Value.int .u8))[j]? = some u → w.cell? ((⟨bb, oo, none⟩ : Addr).add j) = some u := fun j u hj => by
    rw [List.getElem?_map, Option.map_eq_some_iff] at hj
    obtain ⟨y, hy, rfl⟩ := hj
    rw [Addr.add_lit]
    have := q4 j y hy 0 _ rfl
    rwa [Nat.mul_one, Nat.add_zero] at this
  rcases h with h | ⟨g, rfl, hBg, fr, hg⟩
  · obtain ⟨v', W, hr, ho, gr, _, _⟩ := run_append_own_at (P := Tryd.prog) w B 23 ty 5 i (.int .u8 0) 1 1 Tryd.underlying23 hi hz0 hz1 hz2 rfl (by decide) v ns.length _ h ⟨bb, oo, none⟩ ms.length cap (ms.map (Value.int .u8)) (by simp) hnews
      (by intro u hu; obtain ⟨_, _, rfl⟩ := List.mem_map.1 hu; rfl) (by unfold maxLen; omega) (by omega) hB
    exact ⟨v', W, hr, Or.inl (by rw [List.length_append, List.map_append]; exact ho), gr⟩
  · rcases Nat.eq_zero_or_pos ms.length with h0 | h0
    · obtain rfl : ms = [] := List.length_eq_zero_iff.1 h0
      exact nope rfl (Src.ofSlice w Tryd.underlying23 ⟨bb, oo, none⟩ 0 cap [] (by simp) (fun j u h => by simp at h) (fun _ h => by cases h))
    · have hold : ∀ j u, (ns.map (Value.int .u8))[j]? = some u → w.cell? ((⟨g, 0, none⟩ : Addr).add j) = some u := fun j u hj => by
        rw [Addr.add_lit, Nat.zero_add]
        simp only [World.cell?, hg, List.getElem?_toArray]
        rw [hj]; rfl
      have hgt : ns.length < ns.length + ms.length := by omega
      have hfit : Builtin.nextslicecap (ns.length + ms.length) ns.length * i.bytes ≤ 281474976710656 := growslice_fits hgt (by rw [hz2]; omega)
      refine ⟨_, _, run_append_grow (P := Tryd.prog) w 23 ty 5 i (.int .u8 0) Tryd.underlying23 hi hz0 ⟨g, 0, none⟩ ns.length ns.length (ns.map (Value.int .u8)) (by simp [hz1]) hold ⟨bb, oo, none⟩ ms.length cap (ms.map (Value.int .u8)) (by simp [hz1]) hnews hgt (by omega) hfit, Or.inl ⟨by simp, Or.inr ⟨w.heap.size, _, _, by rw [List.length_append], hB, by show (w.heap.push _)[w.heap.size]? = _; simp; rfl, ?_, grownCap_le_maxLen _ _ _ _ (by unfold maxLen; omega), ?_, ?_⟩⟩, ?_⟩
      · rw [List.length_append]; exact grownCap_ge w _ _ _
      · have := grownCap_ge w (ns.length + ms.length) ns.length 5
        simp [Builtin.zeroCells, show (Value.int .u8 0).cells.size = 1 from rfl]; omega
      · rw [List.length_append, Nat.mul_one]
        simp [List.take_append]
        exact List.take_of_length_le (by simp)
      · exact ⟨rfl, rfl, rfl, by simp, fun k hk _ => by show (w.heap.push _)[k]? = _; rw [Array.getElem?_push_lt hk, ← Array.getElem?_eq_getElem hk]⟩
/-- The bytes so far: in the variable gb lies a slice of the call's own. -/
structure Buf (w : World) (B gb : Nat) (v : Value) (ns : List Int) : Prop where
  box : w.heap[gb]? = some (.cells #[v] 23)
  own : Own w B v ns
  ge : B ≤ gb
theorem Buf.lt {w : World} {B gb : Nat} {v : Value} {ns : List Int} (h : Buf w B gb v ns) : gb < w.heap.size := (Array.getElem?_eq_some_iff.1 h.box).1
theorem Buf.cell {w : World} {B gb : Nat} {v : Value} {ns : List Int} (h : Buf w B gb v ns) : w.cell? ⟨gb, 0, none⟩ = some v := by simp [World.cell?, h.box]
theorem Buf.frozen {w : World} {B gb : Nat} {v : Value} {ns : List Int} (h : Buf w B gb v ns) : w.frozen? ⟨gb, 0, none⟩ = false := by simp [World.frozen?, h.box]
theorem Buf.grow {w w' : World} {B gb : Nat} {v : Value} {ns : List Int} (h : Buf w B gb v ns) (gr : w.grownBy w' v.ownBlock) (v' : Value) (ns' : List Int) (own' : Own w' B v' ns') :
    w'.heap[gb]? = some (.cells #[v] 23) ∧ Buf (w'.setCell ⟨gb, 0, none⟩ v') B gb v' ns' ∧ Keep B gb w (w'.setCell ⟨gb, 0, none⟩ v') := by
  have hne : some gb ≠ v.ownBlock := h.own.ne h.box (by decide)
  have hbox : w'.heap[gb]? = some (.cells #[v] 23) := (gr.block gb h.lt hne).trans h.box
  have hne' : some gb ≠ v'.ownBlock := own'.ne hbox (by decide)
  have hset := setCell_eq_setRow w' gb 0 #[v] 23 (0, 0) v' hbox
  have hbel : Below B w w' := ⟨gr.os, gr.tape, gr.output, gr.size, fun k hk => by
    have hlt : k < w.heap.size := by have := h.ge; have := h.lt; omega
    refine gr.block k hlt ?_
    intro he
    have := (h.own.block he.symm).1
    omega⟩
  refine ⟨hbox, ⟨?_, ?_, h.ge⟩, ?_, ?_⟩
  · rw [hset]; exact setRow_heap w' gb #[v] _ 23 (0, 0) hbox
  · exact own'.same fun k hk => heap_setCell_other _ _ _ _ (by rintro rfl; exact hne' hk.symm)
  · exact hbel.setCell (p := ⟨gb, 0, none⟩) h.ge v'
  · intro k cs T fr hk hT hkg
    rw [heap_setCell_other _ _ _ _ (by simpa using hkg)]
    exact (gr.block k (Array.getElem?_eq_some_iff.1 hk).1 (h.own.ne hk hT)).trans hk
theorem Buf.kept {w w' : World} {B gb : Nat} {v : Value} {ns : List Int} (h : Buf w B gb v ns) (hb : Below w.heap.size w w') : Buf w' B gb v ns :=
  ⟨(hb.block gb h.lt).trans h.box, h.own.same fun k hk => hb.block k (by obtain ⟨_, _, _, hg⟩ := h.own.block hk; exact (Array.getElem?_eq_some_iff.1 hg).1), h.ge⟩
theorem step_append_two {P : Program} {ops : Array Oper} {o : Oper} {a : Act} {w : World} {K : Act → World → Prop} {Q : Exit → Act → World → Prop} {E : Prop} (hgd : o.guard = none) (s x : Operand) (t tn : TypeId)
    (ho : o.op = .call { callee := .builtin .append, args := #[s, x], argTypes := #[t, tn] }) (vs vx : Value) (hs : a.eval s = vs) (hx : a.eval x = vx)
    {v' : Value} {W : World} (hr : (Builtin.append_ #[t, tn] o.type #[vs, vx]).run P w = .ok v' W) (h : K (a.put o.dst v') W) : if Region.wanted o (yielded ops a.tmps) = true then Oper.wp P o a w K Q else E := by
  have hw : Region.wanted o (yielded ops a.tmps) = true := by simp [Region.wanted, hgd]
  rw [if_pos hw]
  unfold Oper.wp
  simp [execOp, ho, resolve, invoke, builtin, hs, hx, hr, Result.andThen]
  exact h
/-- append(b, x): one byte, in a row that the statement makes. -/
theorem buf_one {w : World} {B gb : Nat} {v : Value} {ns : List Int} (h : Buf w B gb v ns) (x : Int) (hn : ns.length ≤ 100010) (ty : TypeId) :
    ∃ v' W, (Builtin.append_ #[23, 23] ty #[v, .slice (some ⟨w.heap.size, 0, none⟩) 1 1]).run Tryd.prog (w.alloc (.cells #[.int .u8 x] 5)).drew = .ok v' W ∧ W.heap[gb]? = some (.cells #[v] 23) ∧ (∃ a l c, v' = .slice a l c) ∧ Buf (W.setCell ⟨gb, 0, none⟩ v') B gb v' (ns ++ [x]) ∧ Keep B gb w (W.setCell ⟨gb, 0, none⟩ v') := by
  have hb := h.kept (((Below.refl w.heap.size w).alloc (Nat.le_refl _) (.cells #[.int .u8 x] 5)).drew)
  have hB : B ≤ w.heap.size := by have := h.ge; have := h.lt; omega
  have hl : ListAt (w.alloc (.cells #[.int .u8 x] 5)).drew ucell 1 (.slice (some ⟨w.heap.size, 0, none⟩) 1 1) [x] := list_made w ucell 1 [x] 5 ucell_len [] 1 (Nat.le_refl _) (by unfold maxLen; omega)
  obtain ⟨v', W, hr, ho, gr⟩ := own_app hb.own (by show B ≤ (w.heap.push _).size; simp; omega) _ [x] hl (by simp; omega) ty
  obtain ⟨r0, r1, r2⟩ := hb.grow gr v' (ns ++ [x]) ho
  exact ⟨v', W, hr, r0, ho.any, r1, (((Keep.refl B gb w).alloc hB _).drew).trans r2⟩
end Go.Proofs.YtechpdfcgimkkaaDoor
/-
  P2.3: the bytes of an image; what an image that may be is bounded by.
-/
namespace Go.Proofs.YtechpdfcgimkkaaDoor
open Go.RowKit Go.Joins
def nameB (s : ByteArray) : List Int := s.data.toList.map fun b => (b.toNat : Int)
theorem nameB_len (s : ByteArray) : (nameB s).length = s.size := by simp [nameB]
def encF (f : Fn) : List Int := be 1 f.name.size ++ nameB f.name ++ be 2 f.size
def encT (t : List Int) : List Int := be 1 t.length ++ t.flatMap (be 2)
def encLn (l : Ln) : List Int := be 2 l.a ++ be 2 l.n
def magic : List Int := [98, 104, 49, 10]
/-- P2.3. -/
def encImg (m : Img) : List Int :=
  ((((((((((magic ++ be 2 m.text.length) ++ m.text) ++ be 1 m.funcs.length) ++ m.funcs.flatMap encF) ++ be 1 m.entry) ++ be 1 m.tables.length) ++ m.tables.flatMap encT) ++ be 1 m.data.length) ++ m.data.flatMap (be 8)) ++ be 2 m.lines.length) ++ m.lines.flatMap encLn
theorem flatMap_le {α : Type} (f : α → List Int) (c : Nat) (xs : List α) (h : ∀ x ∈ xs, (f x).length ≤ c) : (xs.flatMap f).length ≤ xs.length * c := by
  induction xs with
  | nil => simp
  | cons x xs ih =>
    have h1 := h x (List.mem_cons_self ..)
    have h2 := ih fun y hy => h y (List.mem_cons_of_mem _ hy)
    rw [List.flatMap_cons, List.length_append, List.length_cons, Nat.succ_mul]
    omega
theorem flat_take {α : Type} (f : α → List Int) {xs : List α} {j : Nat} {y : α} (h : xs[j]? = some y) : (xs.take (j + 1)).flatMap f = (xs.take j).flatMap f ++ f y := by
  rw [List.take_add_one, h, List.flatMap_append]; simp
theorem fchk_zero (size : Int) (fs : List Fn) : ∀ (pre : List Fn) (e : Int), fchk size pre fs e = 0 → ∀ f ∈ fs, nameMay f.name = true ∧ 1 ≤ f.size := by
  induction fs with
  | nil => intro _ _ _ f hf; cases hf
  | cons f fs ih =>
    intro pre e h g hg
    rw [fchk] at h
    by_cases c1 : nameMay f.name = false
    · rw [if_pos c1] at h; cases h
    rw [if_neg c1] at h
    by_cases c2 : ∃ g ∈ pre, g.name = f.name
    · rw [if_pos c2] at h; cases h
    rw [if_neg c2] at h
    by_cases c3 : f.start ≠ e ∨ f.size < 1 ∨ size - e < f.size
    · rw [if_pos c3] at h; cases h
    rw [if_neg c3] at h
    rcases List.mem_cons.1 hg with rfl | hg
    · exact ⟨by simpa using c1, by omega⟩
    · exact ih _ _ h g hg
theorem tchk_zero (size : Int) (ts : List (List Int)) (h : tchk size ts = 0) : ∀ t ∈ ts, t.length ≤ 20 ∧ ∀ x ∈ t, 0 ≤ x ∧ x < size := by
  induction ts with
  | nil => intro t ht; cases ht
  | cons t ts ih =>
    rw [tchk] at h
    by_cases c1 : 20 < t.length
    · rw [if_pos c1] at h; cases h
    rw [if_neg c1] at h
    by_cases c2 : ∃ x ∈ t, x < 0 ∨ size ≤ x
    · rw [if_pos c2] at h; cases h
    rw [if_neg c2] at h
    intro u hu
    rcases List.mem_cons.1 hu with rfl | hu
    · refine ⟨by omega, fun x hx => ?_⟩
      rcases Classical.em (x < 0 ∨ size ≤ x) with q | q
      · exact absurd ⟨x, hx, q⟩ c2
      · omega
    · exact ih h u hu
structure May (m : Img) : Prop where
  text : m.text.length ≤ 8000
  nf : m.funcs.length ≤ 40
  funcs : ∀ f ∈ m.funcs, f.name.size ≤ 16 ∧ 1 ≤ f.name.size
  nt : m.tables.length ≤ 20
  tables : ∀ t ∈ m.tables, t.length ≤ 20 ∧ ∀ x ∈ t, 0 ≤ x ∧ x < m.text.length
  nd : m.data.length ≤ 64
  data : ∀ x ∈ m.data, -1099511627776 ≤ x ∧ x ≤ 1099511627776
  nl : m.lines.length ≤ 4000
  entry : 0 ≤ m.entry ∧ m.entry < m.funcs.length
theorem may_of (m : Img) (h : imgChk m = 0) : May m ∧ fchk m.text.length [] m.funcs 0 = 0 ∧ lchk m.text.length m.lines (-1) = 0 := by
  unfold imgChk at h
  by_cases c1 : 8000 < m.text.length ∨ 40 < m.funcs.length
  · rw [if_pos c1] at h; cases h
  rw [if_neg c1] at h
  by_cases c2 : fchk m.text.length [] m.funcs 0 ≠ 0
  · rw [if_pos c2] at h; exact absurd h c2
  rw [if_neg c2] at h
  by_cases c3 : m.entry < 0 ∨ m.funcs.length ≤ m.entry
  · rw [if_pos c3] at h; cases h
  rw [if_neg c3] at h
  by_cases c4 : 20 < m.tables.length ∨ 64 < m.data.length
  · rw [if_pos c4] at h; cases h
  rw [if_neg c4] at h
  by_cases c5 : tchk m.text.length m.tables ≠ 0
  · rw [if_pos c5] at h; exact absurd h c5
  rw [if_neg c5] at h
  by_cases c6 : ∃ x ∈ m.data, x < -1099511627776 ∨ 1099511627776 < x
  · rw [if_pos c6] at h; cases h
  rw [if_neg c6] at h
  by_cases c7 : 4000 < m.lines.length
  · rw [if_pos c7] at h; cases h
  rw [if_neg c7] at h
  have hf := fchk_zero m.text.length m.funcs [] 0 (by omega)
  refine ⟨⟨by omega, by omega, fun f hf2 => ?_, by omega, tchk_zero _ _ (by omega), by omega, fun x hx => ?_, by omega, by omega⟩, by omega, h⟩
  · have := (hf f hf2).1
    simp [nameMay] at this
    omega
  · rcases Classical.em (x < -1099511627776 ∨ 1099511627776 < x) with q | q
    · exact absurd ⟨x, hx, q⟩ c6
    · omega
theorem encF_len (f : Fn) : (encF f).length = f.name.size + 3 := by simp [encF, be_len, nameB_len]; omega
theorem encT_len (t : List Int) : (encT t).length = 1 + t.length * 2 := by
  have : (t.flatMap (be 2)).length = t.length * 2 := by
    induction t with
    | nil => rfl
    | cons x t ih => rw [List.flatMap_cons, List.length_append, ih, be_len, List.length_cons]; omega
  simp [encT, be_len, this]
theorem encLn_len (l : Ln) : (encLn l).length = 4 := by simp [encLn, be_len]
theorem sums (m : Img) (h : May m) : (∀ j, ((m.funcs.take j).flatMap encF).length ≤ 760) ∧ (∀ j, ((m.tables.take j).flatMap encT).length ≤ 820) ∧ (∀ j, ((m.data.take j).flatMap (be 8)).length ≤ 512) ∧ (∀ j, ((m.lines.take j).flatMap encLn).length ≤ 16000) := by
  refine ⟨fun j => ?_, fun j => ?_, fun j => ?_, fun j => ?_⟩
  · have := flatMap_le encF 19 (m.funcs.take j) fun f hf => by rw [encF_len]; have := (h.funcs f (List.mem_of_mem_take hf)).1; omega
    have h2 := h.nf
    rw [List.length_take] at this
    omega
  · have := flatMap_le encT 41 (m.tables.take j) fun t ht => by rw [encT_len]; have := (h.tables t (List.mem_of_mem_take ht)).1; omega
    have h2 := h.nt
    rw [List.length_take] at this
    omega
  · have := flatMap_le (be 8) 8 (m.data.take j) fun t ht => by rw [be_len]; exact Nat.le_refl _
    have h2 := h.nd
    rw [List.length_take] at this
    omega
  · have := flatMap_le encLn 4 (m.lines.take j) fun t ht => by rw [encLn_len]; exact Nat.le_refl _
    have h2 := h.nl
    rw [List.length_take] at this
    omega
section
variable {w : World} {B gb : Nat} {v : Value} {ns : List Int}
theorem wpList_append_two {P : Program} (w : World) {ops : Array Oper} {rest : List Oper} {o : Oper} {a : Act} {Q : Exit → Act → World → Prop} (hgd : o.guard = none) (s x : Operand) (t tn : TypeId)
    (ho : o.op = .call { callee := .builtin .append, args := #[s, x], argTypes := #[t, tn] }) (vs vx : Value) (hs : a.eval s = vs) (hx : a.eval x = vx)
    {v' : Value} {W : World} (hr : (Builtin.append_ #[t, tn] o.type #[vs, vx]).run P w = .ok v' W) (h : wpList P ops Q rest (a.put o.dst v') W) : wpList P ops Q (o :: rest) a w := by
  refine wpList_plain hgd fun K hK => ?_
  unfold Oper.wp
  simp [execOp, ho, resolve, invoke, builtin, hs, hx, hr, Result.andThen]
  exact hK _ _ h
/-- append(b, l...), b in the variable gb. -/
theorem buf_app (h : Buf w B gb v ns) (x : Value) (ms : List Int) (hx : ListAt w ucell 1 x ms) (hn : ns.length + ms.length ≤ 1000000) (ty : TypeId) :
    ∃ v' W, (Builtin.append_ #[23, 23] ty #[v, x]).run Tryd.prog w = .ok v' W ∧ W.heap[gb]? = some (.cells #[v] 23) ∧ (∃ a l c, v' = .slice a l c) ∧ Buf (W.setCell ⟨gb, 0, none⟩ v') B gb v' (ns ++ ms) ∧ Keep B gb w (W.setCell ⟨gb, 0, none⟩ v') := by
  obtain ⟨v', W, hr, ho, gr⟩ := own_app h.own (by have := h.ge; have := h.lt; omega) x ms hx hn ty
  obtain ⟨r0, r1, r2⟩ := h.grow gr v' (ns ++ ms) ho
  exact ⟨v', W, hr, r0, ho.any, r1, r2⟩
/-- append to a slice of the call's own, of a string. -/
theorem own_str (h : Own w B v ns) (hB : B ≤ w.heap.size) (s : ByteArray) (hn : ns.length + s.size ≤ 1000000) (h0 : 0 < s.size) (ty : TypeId) :
    ∃ v' W, (Builtin.append_ #[23, 9] ty #[v, .string s]).run Tryd.prog w = .ok v' W ∧ Own W B v' (ns ++ nameB s) ∧ w.grownBy W v.ownBlock := by
  obtain ⟨i, hi, hz0, hz1, hz2⟩ := info_of inByte
  have hsc : (nameB s).map (Value.int .u8) = Lib.strCells s := by simp [nameB, Lib.strCells]
  rcases h with ho | ⟨g, rfl, hBg, fr, hg⟩
  · obtain ⟨v', W, hr, ho, gr, _⟩ := Lib.run_append_own_string (P := Tryd.prog) w B 23 9 ty 5 i Tryd.underlying23 Tryd.underlying9 hi hz0 hz1 hz2 v ns.length _ ho s (by unfold maxLen; omega) (by omega) hB
    exact ⟨v', W, hr, Or.inl (by rw [List.length_append, List.map_append, nameB_len, hsc]; exact ho), gr⟩
  · have hold : ∀ j u, (ns.map (Value.int .u8))[j]? = some u → w.drew.cell? ((⟨g, 0, none⟩ : Addr).add j) = some u := fun j u hj => by
      rw [Addr.add_lit, Nat.zero_add]
      show w.cell? _ = _
      simp only [World.cell?, hg, List.getElem?_toArray]
      rw [hj]; rfl
    have hgt : ns.length < ns.length + s.size := by omega
    have hfit : Builtin.nextslicecap (ns.length + s.size) ns.length * i.bytes ≤ 281474976710656 := growslice_fits hgt (by rw [hz2]; omega)
    have hsrc := Src.ofString (P := Tryd.prog) w Tryd.underlying9 s
    have hbc : byteCells s = (nameB s).map (Value.int .u8) := by simp [byteCells, nameB]
    rw [← hz1, hbc] at hsrc
    have hf := run_firstCells_some (P := Tryd.prog) w.drew i.size ns.length ⟨g, 0, none⟩ ns.length ns.length (ns.map (Value.int .u8)) (by simp [hz1]) hold
    refine ⟨_, _, run_append_grow_src w 23 9 ty 5 i (.int .u8 0) Tryd.underlying23 hi hz0 _ ns.length ns.length (ns.map (Value.int .u8)) hf (.string s) s.size _ hsrc hgt (by omega) hfit, Or.inl ⟨by simp, Or.inr ⟨w.heap.size, _, _, by rw [List.length_append, nameB_len], hB, by show (w.heap.push _)[w.heap.size]? = _; simp; rfl, ?_, grownCap_le_maxLen _ _ _ _ (by unfold maxLen; omega), ?_, ?_⟩⟩, ?_⟩
    · rw [List.length_append, nameB_len]; exact grownCap_ge w _ _ _
    · have := grownCap_ge w (ns.length + s.size) ns.length 5
      simp [Builtin.zeroCells, nameB_len, show (Value.int .u8 0).cells.size = 1 from rfl]; omega
    · rw [List.length_append, Nat.mul_one]
      simp [List.take_append]
      exact List.take_of_length_le (by simp)
    · exact ⟨rfl, rfl, rfl, by simp, fun k hk _ => by show (w.heap.push _)[k]? = _; rw [Array.getElem?_push_lt hk, ← Array.getElem?_eq_getElem hk]⟩
/-- append(b, s...), s a string. -/
theorem buf_str (h : Buf w B gb v ns) (s : ByteArray) (hn : ns.length + s.size ≤ 1000000) (h0 : 0 < s.size) (ty : TypeId) :
    ∃ v' W, (Builtin.append_ #[23, 9] ty #[v, .string s]).run Tryd.prog w = .ok v' W ∧ W.heap[gb]? = some (.cells #[v] 23) ∧ (∃ a l c, v' = .slice a l c) ∧ Buf (W.setCell ⟨gb, 0, none⟩ v') B gb v' (ns ++ nameB s) ∧ Keep B gb w (W.setCell ⟨gb, 0, none⟩ v') := by
  obtain ⟨v', W, hr, ho, gr⟩ := own_str h.own (by have := h.ge; have := h.lt; omega) s hn h0 ty
  obtain ⟨r0, r1, r2⟩ := h.grow gr v' (ns ++ nameB s) ho
  exact ⟨v', W, hr, r0, ho.any, r1, r2⟩
end
end Go.Proofs.YtechpdfcgimkkaaDoor
/-
  A struct of six cells stored whole.
-/
namespace Go.Proofs.YtechpdfcgimkkaaDoor
open Go.RowKit Go.Joins
theorem inImg6 : (Tryd.prog.info? 29).map (·.size) = some 6 := by kernel_rfl
theorem wpList_store6 {w Z : World} {ops : Array Oper} {rest : List Oper} {o : Oper} {a : Act} {Q : Exit → Act → World → Prop} (hgd : o.guard = none) (x y : Operand) (ho : o.op = .store 29 x y) (k : Nat) {a0 a1 a2 a3 a4 a5 b0 b1 b2 b3 b4 b5 : Value} {T : TypeId} (hx : a.eval x = .pointer (some ⟨k, 0, none⟩)) (hy : a.eval y = .agg #[b0, b1, b2, b3, b4, b5])
    (hb : w.heap[k]? = some (.cells #[a0, a1, a2, a3, a4, a5] T)) (c0 : b0.oneCell' = true) (c1 : b1.oneCell' = true) (c2 : b2.oneCell' = true) (c3 : b3.oneCell' = true) (c4 : b4.oneCell' = true) (c5 : b5.oneCell' = true) (hZ : ((((((w.setCell ⟨k, 0, none⟩ b0).setCell ⟨k, 1, none⟩ b1).setCell ⟨k, 2, none⟩ b2).setCell ⟨k, 3, none⟩ b3).setCell ⟨k, 4, none⟩ b4).setCell ⟨k, 5, none⟩ b5) = Z)
    (h : wpList Tryd.prog ops Q rest (a.put o.dst undef) Z) : wpList Tryd.prog ops Q (o :: rest) a w := by
  subst hZ
  have h1 : (#[b0, b1, b2, b3, b4, b5] : Array Value).all (·.oneCell') = true := all_oneCell_toArray (cs := [b0, b1, b2, b3, b4, b5]) (by
    intro v hv
    simp at hv
    rcases hv with rfl | rfl | rfl | rfl | rfl | rfl <;> assumption)
  refine wpList_store_mid hgd 29 x y ho k 0 _ hx hy (fun j hj => ?_) inImg6 h1 h
  have hj6 : j < 6 := hj
  rw [Nat.zero_add]
  have : j = 0 ∨ j = 1 ∨ j = 2 ∨ j = 3 ∨ j = 4 ∨ j = 5 := by omega
  rcases this with rfl | rfl | rfl | rfl | rfl | rfl <;> simp [World.cell?, World.frozen?, hb]
end Go.Proofs.YtechpdfcgimkkaaDoor
