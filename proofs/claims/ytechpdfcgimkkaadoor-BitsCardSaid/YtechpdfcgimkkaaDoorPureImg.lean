/-
  An image as plain lists, and what P2.1 says of it.
-/
import Derived.Test.YtechpdfcgimkkaaDoorProg
import Derived.WalkKit
import Derived.Below
import Derived.WalkSpells
import Derived.WalkLawsBesides
import Derived.Handy
import Derived.Deep.Light
import Derived.Lib.SmallJoins
namespace Go.Proofs.YtechpdfcgimkkaaDoor
open Go.RowKit Go.Joins
structure Fn where
  name : ByteArray
  start : Int
  size : Int
structure Ln where
  a : Int
  n : Int
structure Img where
  text : List Int
  funcs : List Fn
  tables : List (List Int)
  data : List Int
  lines : List Ln
  entry : Int
def i64 (x : Int) : Prop := -9223372036854775808 ≤ x ∧ x ≤ 9223372036854775807
def Fn.ok (f : Fn) : Prop := f.name.size ≤ maxLen ∧ i64 f.start ∧ i64 f.size
def Ln.ok (l : Ln) : Prop := i64 l.a ∧ i64 l.n
def Fn.cells (f : Fn) : List Value := [.string f.name, .int .i64 f.start, .int .i64 f.size]
def Ln.cells (l : Ln) : List Value := [.int .i64 l.a, .int .i64 l.n]
def icell (n : Int) : List Value := [.int .i64 n]
def vcell (v : Value) : List Value := [v]
def ucell (n : Int) : List Value := [.int .u8 n]
/-- A slice value whose elements, in a world, are these. -/
def ListAt {α : Type} (w : World) (cells : α → List Value) (sz : Nat) (v : Value) (xs : List α) : Prop :=
  (∃ a cap, v = .slice a 0 cap ∧ xs = []) ∨ ∃ bb oo cap, v = .slice (some ⟨bb, oo, none⟩) xs.length cap ∧ xs.length ≤ cap ∧ cap ≤ maxLen ∧ bb < w.heap.size ∧
    ∀ j x, xs[j]? = some x → ∀ o u, (cells x)[o]? = some u → w.cell? ⟨bb, oo + j * sz + o, none⟩ = some u
theorem ListAt.form {α : Type} {w : World} {cells : α → List Value} {sz : Nat} {v : Value} {xs : List α} (h : ListAt w cells sz v xs) : ∃ a cap, v = .slice a xs.length cap ∧ xs.length ≤ maxLen := by
  rcases h with ⟨a, cap, rfl, rfl⟩ | ⟨bb, oo, cap, rfl, h1, h2, _⟩
  · exact ⟨a, cap, rfl, by simp⟩
  · exact ⟨_, cap, rfl, by omega⟩
theorem ListAt.stays {α : Type} {w w' : World} {cells : α → List Value} {sz : Nat} {v : Value} {xs : List α} {m : Nat} (h : ListAt w cells sz v xs) (hm : w.heap.size ≤ m) (hb : Below m w w') : ListAt w' cells sz v xs := by
  rcases h with h | ⟨bb, oo, cap, rfl, h1, h2, h3, h4⟩
  · exact Or.inl h
  · have := hb.size
    exact Or.inr ⟨bb, oo, cap, rfl, h1, h2, by omega, fun j x hj o u hu => (hb.cell (p := ⟨bb, _, none⟩) (by simp; omega)).trans (h4 j x hj o u hu)⟩
/-- An image's parts, in a world. -/
structure ImgAt (w : World) (vT vF vB vD vL : Value) (m : Img) : Prop where
  text : ListAt w ucell 1 vT m.text
  funcs : ListAt w Fn.cells 3 vF m.funcs
  tables : ∃ vs : List Value, ListAt w vcell 1 vB vs ∧ vs.length = m.tables.length ∧ ∀ (j : Nat) (u : Value) (t : List Int), vs[j]? = some u → m.tables[j]? = some t → ListAt w icell 1 u t
  data : ListAt w icell 1 vD m.data
  lines : ListAt w Ln.cells 2 vL m.lines
structure Img.ok (m : Img) : Prop where
  text : ∀ x ∈ m.text, 0 ≤ x ∧ x ≤ 255
  funcs : ∀ f ∈ m.funcs, f.ok
  tables : ∀ t ∈ m.tables, ∀ x ∈ t, i64 x
  data : ∀ x ∈ m.data, i64 x
  lines : ∀ l ∈ m.lines, l.ok
  entry : i64 m.entry
theorem ImgAt.stays {w w' : World} {vT vF vB vD vL : Value} {m : Img} {k : Nat} (h : ImgAt w vT vF vB vD vL m) (hm : w.heap.size ≤ k) (hb : Below k w w') : ImgAt w' vT vF vB vD vL m := by
  obtain ⟨vs, h1, h2, h3⟩ := h.tables
  exact ⟨h.text.stays hm hb, h.funcs.stays hm hb, ⟨vs, h1.stays hm hb, h2, fun j u t hu ht => (h3 j u t hu ht).stays hm hb⟩, h.data.stays hm hb, h.lines.stays hm hb⟩
/-- A byte that a name may have. -/
def okc (c : Int) : Bool := (decide (97 ≤ c) && decide (c ≤ 122)) || (decide (48 ≤ c) && decide (c ≤ 57)) || c == 95 || c == 46
def nameMay (s : ByteArray) : Bool := decide (1 ≤ s.size) && decide (s.size ≤ 16) && s.data.toList.all fun c => okc (c.toNat : Int)
/-- Function by function. -/
def fchk (size : Int) : List Fn → List Fn → Int → Int
  | _, [], e => if e = size then 0 else 8
  | pre, f :: r, e => if nameMay f.name = false then 4 else if (∃ g ∈ pre, g.name = f.name) then 7 else if f.start ≠ e ∨ f.size < 1 ∨ size - e < f.size then 8 else fchk size (pre ++ [f]) r (e + f.size)
def tchk (size : Int) : List (List Int) → Int
  | [] => 0
  | t :: r => if 20 < t.length then 1 else if (∃ x ∈ t, x < 0 ∨ size ≤ x) then 2 else tchk size r
def lchk (size : Int) : List Ln → Int → Int
  | [], _ => 0
  | l :: r, ahead => if l.n < 0 ∨ 10000 < l.n then 2 else if l.a ≤ ahead ∨ size ≤ l.a then 8 else lchk size r l.a
/-- P2.1. -/
def imgChk (m : Img) : Int :=
  if 8000 < m.text.length ∨ 40 < m.funcs.length then 1
  else if fchk m.text.length [] m.funcs 0 ≠ 0 then fchk m.text.length [] m.funcs 0
  else if m.entry < 0 ∨ m.funcs.length ≤ m.entry then 6
  else if 20 < m.tables.length ∨ 64 < m.data.length then 1
  else if tchk m.text.length m.tables ≠ 0 then tchk m.text.length m.tables
  else if (∃ x ∈ m.data, x < -1099511627776 ∨ 1099511627776 < x) then 2
  else if 4000 < m.lines.length then 1
  else lchk m.text.length m.lines (-1)
/-- P2.2. -/
def lineOf (l : List Ln) (p : Int) : Int := l.foldl (fun n x => if x.a ≤ p then x.n else n) 0
theorem lineOf_snoc (l : List Ln) (x : Ln) (p : Int) : lineOf (l ++ [x]) p = if x.a ≤ p then x.n else lineOf l p := by
  unfold lineOf; rw [List.foldl_append]; rfl
theorem lineOf_next (l : List Ln) (k : Nat) (x : Ln) (p : Int) (h : l[k]? = some x) : lineOf (l.take (k + 1)) p = if x.a ≤ p then x.n else lineOf (l.take k) p := by
  rw [List.take_add_one, h]; exact lineOf_snoc _ _ _
end Go.Proofs.YtechpdfcgimkkaaDoor
