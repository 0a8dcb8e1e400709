/-
  A flow as plain lists, and in memory; P4.5.
-/
import Derived.Test.YtebjfgbjmhhccaaMCC
import Derived.Test.YtebjfgbjmhhccaaPureNxC
namespace Go.Proofs.Ytebjfgbjmhhccaa
open Go.RowKit Go.Joins
/-- An instruction's numbers, as a flow has them. -/
structure FIns where
  k : Int
  d : Int
  a : Int
  b : Int
  n : Int
  l : Bool
def FIns.cells (i : FIns) : List Value := [.int .i64 i.k, .int .i64 i.d, .int .i64 i.a, .int .i64 i.b, .int .i64 i.n, .bool i.l]
structure Bk where
  fn : Int
  start : Int
  code : List FIns
  ats : List Int
  last : FIns
  ends : Int
  dst : Int
  els : Int
  lines : List Int
structure Fl where
  blocks : List Bk
  tables : List (List Int)
  firsts : List Int
/-- A block's own cells. -/
structure BkV where
  fn : Int
  start : Int
  vC : Value
  vA : Value
  last : FIns
  ends : Int
  dst : Int
  els : Int
  vL : Value
def BkV.cells (b : BkV) : List Value := [.int .i64 b.fn, .int .i64 b.start, b.vC, b.vA, .int .i64 b.last.k, .int .i64 b.last.d, .int .i64 b.last.a, .int .i64 b.last.b, .int .i64 b.last.n, .bool b.last.l, .int .i64 b.ends, .int .i64 b.dst, .int .i64 b.els, b.vL]
/-- A block as a value. -/
def BkV.val (b : BkV) : Value := .agg #[.int .i64 b.fn, .int .i64 b.start, b.vC, b.vA, .int .i64 b.last.k, .int .i64 b.last.d, .int .i64 b.last.a, .int .i64 b.last.b, .int .i64 b.last.n, .bool b.last.l, .int .i64 b.ends, .int .i64 b.dst, .int .i64 b.els, b.vL]
structure BkAt (w : World) (u : BkV) (b : Bk) : Prop where
  fn : u.fn = b.fn
  start : u.start = b.start
  last : u.last = b.last
  ends : u.ends = b.ends
  dst : u.dst = b.dst
  els : u.els = b.els
  code : ListAt w FIns.cells 6 u.vC b.code
  ats : ListAt w icell 1 u.vA b.ats
  lines : ListAt w icell 1 u.vL b.lines
theorem BkAt.stays {w w' : World} {u : BkV} {b : Bk} {m : Nat} (h : BkAt w u b) (hm : w.heap.size ≤ m) (hb : Below m w w') : BkAt w' u b :=
  ⟨h.fn, h.start, h.last, h.ends, h.dst, h.els, h.code.stays hm hb, h.ats.stays hm hb, h.lines.stays hm hb⟩
/-- A list of lists of numbers. -/
def ListsAt (w : World) (vB : Value) (ts : List (List Int)) : Prop := ∃ vs : List Value, ListAt w vcell 1 vB vs ∧ vs.length = ts.length ∧ ∀ (j : Nat) (u : Value) (t : List Int), vs[j]? = some u → ts[j]? = some t → ListAt w icell 1 u t
theorem ListsAt.stays {w w' : World} {v : Value} {ts : List (List Int)} {m : Nat} (h : ListsAt w v ts) (hm : w.heap.size ≤ m) (hb : Below m w w') : ListsAt w' v ts := by
  obtain ⟨vs, h1, h2, h3⟩ := h
  exact ⟨vs, h1.stays hm hb, h2, fun j u t hu ht => (h3 j u t hu ht).stays hm hb⟩
structure FlAt (w : World) (vB vT vF : Value) (f : Fl) : Prop where
  blocks : ∃ us : List BkV, ListAt w BkV.cells 14 vB us ∧ us.length = f.blocks.length ∧ ∀ (j : Nat) (u : BkV) (b : Bk), us[j]? = some u → f.blocks[j]? = some b → BkAt w u b
  tables : ListsAt w vT f.tables
  firsts : ListAt w icell 1 vF f.firsts
theorem FlAt.stays {w w' : World} {vB vT vF : Value} {f : Fl} {m : Nat} (h : FlAt w vB vT vF f) (hm : w.heap.size ≤ m) (hb : Below m w w') : FlAt w' vB vT vF f := by
  obtain ⟨us, h1, h2, h3⟩ := h.blocks
  exact ⟨⟨us, h1.stays hm hb, h2, fun j u b hu hbb => (h3 j u b hu hbb).stays hm hb⟩, h.tables.stays hm hb, h.firsts.stays hm hb⟩
/-- Where a block leads whose last instruction is a Table. -/
def tblN (f : Fl) : Option FIns → List Int
  | none => []
  | some i => if i.k = 24 ∧ 0 ≤ i.n ∧ i.n < f.tables.length then f.tables.getD i.n.toNat [] else []
/-- The ways on which a block goes on, as they stand in it. -/
def waysN (f : Fl) (b : Bk) : List Int :=
  if b.ends = 2 ∨ b.ends = 3 then [b.dst]
  else if b.ends = 4 then [b.dst, b.els]
  else tblN f b.code.getLast?
/-- P4.5. -/
def nextsN (f : Fl) (n : Int) : Option (List Int) := if n < 0 ∨ f.blocks.length ≤ n then none else (f.blocks[n.toNat]?).map fun b => risen (waysN f b)
/-- What of a flow goes into a call's own list has room there. -/
def Fl.small (f : Fl) : Prop := ∀ t ∈ f.tables, t.length * 8 ≤ 140737488351232
end Go.Proofs.Ytebjfgbjmhhccaa
