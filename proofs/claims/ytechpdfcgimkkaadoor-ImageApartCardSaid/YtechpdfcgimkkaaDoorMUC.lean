/-
  Plain functions on lists: boltholekeep's programs of raw numbers.
-/
import Derived.Test.YtechpdfcgimkkaaDoorMKC
import Derived.Test.YtechpdfcgimkkaaDoorMCC
import Derived.Test.YtechpdfcgimkkaaDoorMAC
namespace Go.Proofs.YtechpdfcgimkkaaDoor
open Go.RowKit Isa
/-- A spot. -/
structure Sp where
  i : Ins
  blk : Int
  fn : Int
  line : Int
def Sp.cells (x : Sp) : List Value := [.int .i64 x.i.k, .int .i64 x.i.d, .int .i64 x.i.a, .int .i64 x.i.b, .int .i64 x.i.n, .bool x.i.l, .int .i64 x.blk, .int .i64 x.fn, .int .i64 x.line]
def rwZ : Rw := ⟨0, 0, 0, 0⟩
/-- One thing of a block. -/
def spOf (funcs : Int) (r : Rw) : Sp := if pk r.K 23 = 22 then ⟨⟨23, 0, 0, 0, 0, false⟩, -1, pk r.A funcs, pk r.A 5⟩ else ⟨plainF r.K r.A r.B r.C, -1, -1, pk r.A 5⟩
def bodyOf (funcs : Int) (l : List Rw) : List Sp := (l.take (l.length - 1)).map (spOf funcs)
def lastRw (l : List Rw) : Rw := l.getD (l.length - 1) rwZ
/-- The spot behind a block's body, if there is one. -/
def endOf (l : List Rw) (n first last : Int) : List Sp :=
  if pk (lastRw l).K 12 < 5 ∧ n < last then [⟨⟨18 + pk (lastRw l).C 4, 0, pk (lastRw l).A 7, pk (lastRw l).B 7, 0, pk (lastRw l).A 3 == 0⟩, first + pk (lastRw l).B (last - first + 1), -1, pk (lastRw l).A 5⟩]
  else if pk (lastRw l).K 12 < 8 then [⟨⟨22, 0, 0, 0, 0, pk (lastRw l).A 3 == 0⟩, first + pk (lastRw l).B (last - first + 1), -1, pk (lastRw l).A 5⟩]
  else if pk (lastRw l).K 12 = 8 ∧ n < last ∧ 1 < l.length then []
  else if pk (lastRw l).K 12 = 9 then [⟨⟨24, 0, pk (lastRw l).A 7, 0, pk (lastRw l).B 3, false⟩, -1, -1, pk (lastRw l).A 5⟩]
  else if pk (lastRw l).K 12 = 10 ∨ n = 0 then [⟨⟨1, 0, 0, 0, 0, false⟩, -1, -1, pk (lastRw l).A 5⟩]
  else [⟨⟨3, 0, 0, 0, 0, false⟩, -1, -1, pk (lastRw l).A 5⟩]
def blockOf (l : List Rw) (n first last funcs : Int) : List Sp := bodyOf funcs l ++ endOf l n first last
/-- l[a:b]. -/
def cut {α : Type} (l : List α) (a b : Nat) : List α := (l.drop a).take (b - a)
/-- The share of the n'th of so many. -/
def share {α : Type} (l : List α) (n many : Nat) : List α := cut l (n * l.length / many) ((n + 1) * l.length / many)
def manyOf (l : List Rw) (f funcs : Nat) : Nat := 1 + (share l f funcs).length / 4
/-- The blocks of one function; the first one's place is given. -/
def blocksUpTo (l : List Rw) (f funcs first n : Nat) : List (List Sp) :=
  (List.range n).map fun k => blockOf (share (share l f funcs) k (manyOf l f funcs)) (first + k : Nat) first (first + manyOf l f funcs - 1 : Nat) funcs
def planUpTo (l : List Rw) (funcs : Nat) : Nat → List (List Sp) × List Int
  | 0 => ([], [])
  | f + 1 => ((planUpTo l funcs f).1 ++ blocksUpTo l f funcs (planUpTo l funcs f).1.length (manyOf l f funcs), (planUpTo l funcs f).2 ++ [((planUpTo l funcs f).1.length : Int)])
def funcsOf (l : List Rw) : Nat := 1 + l.length % 3
/-- How many bytes. -/
def szS (x : Sp) : Int := sizeNum x.i.k x.i.d x.i.a x.i.b x.i.n x.i.l
def szB (b : List Sp) : Int := (b.map szS).sum
def szAll (bs : List (List Sp)) : Int := (bs.map szB).sum
def startsOf (bs : List (List Sp)) : List Int := (List.range bs.length).map fun k => szAll (bs.take k)
/-- A spot's instruction, led to where it must go. -/
def insAt (ats fs : List Int) (here : Int) (x : Sp) : Ins :=
  { x.i with n := if 0 ≤ x.fn then ats.getD (fs.getD x.fn.toNat 0).toNat 0 - here else if 0 ≤ x.blk then ats.getD x.blk.toNat 0 - here else x.i.n }
/-- What is put together so far. -/
structure Em where
  text : List Int
  lines : List Ln
  line : Int
  again : Bool
def roomOf (i : Ins) : List Int := List.replicate (sizeNum i.k 0 0 0 0 i.l).toNat 0
def codeOf (i : Ins) : List Int := if i.chk = 0 then encI i else roomOf i
/-- Must the spot be long? -/
def mustS (ats fs : List Int) (here : Int) (x : Sp) : Bool := (insAt ats fs here x).chk != 0 && !x.i.l && decide (0 ≤ x.blk)
def emS (ats fs : List Int) (s : Em) (x : Sp) : Em :=
  ⟨s.text ++ codeOf (insAt ats fs s.text.length x), if x.line = s.line then s.lines else s.lines ++ [⟨s.text.length, x.line⟩], x.line, s.again || mustS ats fs s.text.length x⟩
def longS (ats fs : List Int) (here : Int) (x : Sp) : Sp := if mustS ats fs here x = true then { x with i := { x.i with l := true } } else x
def em0 : Em := ⟨[], [], 0, false⟩
def emUpTo (ats fs : List Int) (xs : List Sp) : Em := xs.foldl (emS ats fs) em0
/-- The spots of a block behind others, made long where they must. -/
def longB (ats fs : List Int) (pre b : List Sp) (n : Nat) : List Sp := (List.range b.length).map fun j => if j < n then longS ats fs (emUpTo ats fs (pre ++ b.take j)).text.length (b.getD j ⟨⟨0, 0, 0, 0, 0, false⟩, 0, 0, 0⟩) else b.getD j ⟨⟨0, 0, 0, 0, 0, false⟩, 0, 0, 0⟩
end Go.Proofs.YtechpdfcgimkkaaDoor
/-
  The plan of a program, in memory.
-/
namespace Go.Proofs.YtechpdfcgimkkaaDoor
open Go.RowKit Go.Joins Isa
/-- What is there of other types stays. -/
def Keeps (E : TypeId) (w w' : World) : Prop := ∀ (k : Nat) (cs : Array Value) (T : TypeId) (fr : Nat × Nat), w.heap[k]? = some (.cells cs T fr) → T ≠ E → w'.heap[k]? = some (.cells cs T fr)
theorem Keeps.refl (E : TypeId) (w : World) : Keeps E w w := fun _ _ _ _ h _ => h
theorem Keeps.trans {E : TypeId} {w w1 w2 : World} (h1 : Keeps E w w1) (h2 : Keeps E w1 w2) : Keeps E w w2 := fun k cs T fr h hT => h2 k cs T fr (h1 k cs T fr h hT) hT
theorem Keeps.below {E : TypeId} {w w' : World} (h : Below w.heap.size w w') : Keeps E w w' := fun k _ _ _ hk _ => (h.block k (Array.getElem?_eq_some_iff.1 hk).1).trans hk
theorem Keeps.grown {E : TypeId} {w W : World} {B sz n : Nat} {v : Value} {xs : List Value} (h : w.ownsRow B E sz v n xs) (gr : w.grownBy W v.ownBlock) : Keeps E w W := fun k _ _ _ hk hT =>
  (gr.block k (Array.getElem?_eq_some_iff.1 hk).1 (row_ne h hk hT)).trans hk
theorem Keeps.set {E : TypeId} {w : World} {gb o : Nat} {u : Value} {cs : Array Value} {fr : Nat × Nat} (hg : w.heap[gb]? = some (.cells cs E fr)) : Keeps E w (w.setCell ⟨gb, o, none⟩ u) := fun k cs' T fr' hk hT => by
  rw [heap_setCell_other _ _ _ _ (by rintro rfl; rw [hg] at hk; simp at hk; exact hT hk.2.1.symm)]
  exact hk
theorem row_keeps {w W : World} {B sz n : Nat} {E E' : TypeId} {v : Value} {xs : List Value} (h : w.ownsRow B E' sz v n xs) (hk : Keeps E w W) (hE : E' ≠ E) : W.ownsRow B E' sz v n xs :=
  row_same h fun k hv => by
    obtain ⟨_, cur, hg⟩ := row_block h hv
    rw [hg]
    exact hk k _ _ _ hg hE
/-- What grows in a row of the call's own leaves all ahead of it. -/
theorem grown_below {w W : World} {B sz n : Nat} {E : TypeId} {v : Value} {xs : List Value} (h : w.ownsRow B E sz v n xs) (hB : B ≤ w.heap.size) (gr : w.grownBy W v.ownBlock) : Below B w W :=
  ⟨gr.os, gr.tape, gr.output, gr.size, fun k hk => gr.block k (by omega) (by intro he; have := (row_block h he.symm).1; omega)⟩
theorem spcell_len (x : Sp) : (Sp.cells x).length = 9 := rfl
theorem spcell_one (x : Sp) : ∀ u ∈ Sp.cells x, u.oneCell' = true := by intro u hu; simp [Sp.cells] at hu; rcases hu with rfl | rfl | rfl | rfl | rfl | rfl | rfl | rfl | rfl <;> rfl
theorem inSp : (Tryd.prog.info? 118).map (fun i => (i.zero, i.size, i.bytes)) = some (some (.agg #[.int .i64 0, .int .i64 0, .int .i64 0, .int .i64 0, .int .i64 0, .bool false, .int .i64 0, .int .i64 0, .int .i64 0]), 9, 72) := by kernel_rfl
theorem inSps : (Tryd.prog.info? 113).map (fun i => (i.zero, i.size, i.bytes)) = some (some (.slice none 0 0), 1, 24) := by kernel_rfl
/-- A plan: its box, its blocks, its functions. -/
structure PlanAt (w : World) (B gp : Nat) (vB vF : Value) (vs : List Value) (bs : List (List Sp)) (fs : List Int) : Prop where
  box : w.heap[gp]? = some (.cells #[vB, vF] 79)
  ge : B ≤ gp
  oB : w.ownsRow B 113 1 vB bs.length (flat vcell vs)
  oF : w.ownsRow B 3 1 vF fs.length (flat icell fs)
  len : vs.length = bs.length
  each : ∀ (k : Nat) (v : Value) (b : List Sp), vs[k]? = some v → bs[k]? = some b → w.ownsRow B 118 9 v b.length (flat Sp.cells b) ∧ b ≠ []
  apart : ∀ (k k' : Nat) (v v' : Value), vs[k]? = some v → vs[k']? = some v' → v.ownBlock = v'.ownBlock → k = k'
theorem PlanAt.lt {w : World} {B gp : Nat} {vB vF : Value} {vs : List Value} {bs : List (List Sp)} {fs : List Int} (h : PlanAt w B gp vB vF vs bs fs) : gp < w.heap.size := (Array.getElem?_eq_some_iff.1 h.box).1
theorem PlanAt.hB {w : World} {B gp : Nat} {vB vF : Value} {vs : List Value} {bs : List (List Sp)} {fs : List Int} (h : PlanAt w B gp vB vF vs bs fs) : B ≤ w.heap.size := by have := h.lt; have := h.ge; omega
theorem PlanAt.keeps {E : TypeId} {w W : World} {B gp : Nat} {vB vF : Value} {vs : List Value} {bs : List (List Sp)} {fs : List Int} (h : PlanAt w B gp vB vF vs bs fs) (hk : Keeps E w W)
    (h1 : (79 : TypeId) ≠ E) (h2 : (113 : TypeId) ≠ E) (h3 : (3 : TypeId) ≠ E) (h4 : (118 : TypeId) ≠ E) : PlanAt W B gp vB vF vs bs fs :=
  ⟨hk _ _ _ _ h.box h1, h.ge, row_keeps h.oB hk h2, row_keeps h.oF hk h3, h.len, fun k v b hv hb => ⟨row_keeps (h.each k v b hv hb).1 hk h4, (h.each k v b hv hb).2⟩, h.apart⟩
theorem PlanAt.up {w W : World} {B gp : Nat} {vB vF : Value} {vs : List Value} {bs : List (List Sp)} {fs : List Int} (h : PlanAt w B gp vB vF vs bs fs) (hb : Below w.heap.size w W) : PlanAt W B gp vB vF vs bs fs :=
  ⟨(hb.block gp h.lt).trans h.box, h.ge, row_up h.oB hb, row_up h.oF hb, h.len, fun k v b hv hbb => ⟨row_up (h.each k v b hv hbb).1 hb, (h.each k v b hv hbb).2⟩, h.apart⟩
theorem PlanAt.cells {w : World} {B gp : Nat} {vB vF : Value} {vs : List Value} {bs : List (List Sp)} {fs : List Int} (h : PlanAt w B gp vB vF vs bs fs) :
    w.cell? ⟨gp, 0, none⟩ = some vB ∧ w.cell? ⟨gp, 1, none⟩ = some vF ∧ w.frozen? ⟨gp, 0, none⟩ = false ∧ w.frozen? ⟨gp, 1, none⟩ = false := by
  refine ⟨?_, ?_, ?_, ?_⟩ <;> simp [World.cell?, World.frozen?, h.box]
theorem PlanAt.new (w : World) (B : Nat) (hB : B ≤ w.heap.size) : PlanAt (w.alloc (.cells #[.slice none 0 0, .slice none 0 0] 79)) B w.heap.size (.slice none 0 0) (.slice none 0 0) [] [] [] :=
  ⟨by show (w.heap.push _)[w.heap.size]? = _; simp, hB, World.ownsRow_nil _ _ _ _, World.ownsRow_nil _ _ _ _, rfl, fun _ _ _ h => (by simp at h), fun _ _ _ _ h => (by simp at h)⟩
/-- One block more. wx: the world at the append; W: the one behind it. -/
theorem PlanAt.addB {w wx W : World} {B gp : Nat} {vB vF v v' : Value} {vs : List Value} {bs : List (List Sp)} {fs : List Int} {b : List Sp} (h : PlanAt w B gp vB vF vs bs fs) (hb : Below w.heap.size w wx)
    (hv : wx.ownsRow w.heap.size 118 9 v b.length (flat Sp.cells b)) (hne : b ≠ []) (ho : W.ownsRow B 113 1 v' (bs.length + 1) (flat vcell vs ++ [v])) (gr : wx.grownBy W vB.ownBlock) :
    W.heap[gp]? = some (.cells #[vB, vF] 79) ∧ PlanAt (W.setCell ⟨gp, 0, none⟩ v') B gp v' vF (vs ++ [v]) (bs ++ [b]) fs ∧ Below B w (W.setCell ⟨gp, 0, none⟩ v') := by
  have u := h.up hb
  have k1 : Keeps 113 wx W := Keeps.grown u.oB gr
  have hbox : W.heap[gp]? = some (.cells #[vB, vF] 79) := k1 _ _ _ _ u.box (by decide)
  have k2 : Keeps 79 W (W.setCell ⟨gp, 0, none⟩ v') := Keeps.set hbox
  have hset := setCell_eq_setRow W gp 0 _ _ _ v' hbox
  have hBw : B ≤ w.heap.size := h.hB
  have hpos : 0 < b.length := List.length_pos_iff.2 hne
  refine ⟨hbox, ⟨?_, h.ge, ?_, row_keeps (row_keeps u.oF k1 (by decide)) k2 (by decide), by simp [h.len], ?_, ?_⟩, ?_⟩
  · rw [hset]; exact setRow_heap W gp _ _ _ _ hbox
  · have := row_keeps ho k2 (by decide)
    rw [flat_snoc, List.length_append]; exact this
  · intro k y c hy hc
    rcases Nat.lt_or_ge k vs.length with q | q
    · rw [List.getElem?_append_left q] at hy
      rw [List.getElem?_append_left (by have := h.len; omega)] at hc
      exact ⟨row_keeps (row_keeps (u.each k y c hy hc).1 k1 (by decide)) k2 (by decide), (u.each k y c hy hc).2⟩
    · have hk : k = vs.length := by have := (List.getElem?_eq_some_iff.1 hy).1; simp at this; omega
      subst hk
      rw [List.getElem?_append_right (Nat.le_refl _), Nat.sub_self] at hy
      rw [h.len, List.getElem?_append_right (Nat.le_refl _), Nat.sub_self] at hc
      simp at hy hc
      subst hy hc
      refine ⟨row_keeps (row_keeps ?_ k1 (by decide)) k2 (by decide), hne⟩
      exact ⟨hv.1, hv.2.imp id fun ⟨g, cap, cur, e, q1, q2⟩ => ⟨g, cap, cur, e, by omega, q2⟩⟩
  · have old : ∀ (k : Nat) (y : Value), vs[k]? = some y → ∀ g, y.ownBlock = some g → g < w.heap.size := fun k y hy g hg => by
      have hlt : k < bs.length := by have := (List.getElem?_eq_some_iff.1 hy).1; have := h.len; omega
      obtain ⟨_, cur, hh⟩ := row_block (h.each k y _ hy (List.getElem?_eq_getElem hlt)).1 hg
      exact (Array.getElem?_eq_some_iff.1 hh).1
    have new : ∀ g, v.ownBlock = some g → w.heap.size ≤ g := fun g hg => (row_block hv hg).1
    have is : ∀ (k : Nat) (y : Value), vs[k]? = some y → ∃ g, y.ownBlock = some g := fun k y hy => by
      have hlt : k < bs.length := by have := (List.getElem?_eq_some_iff.1 hy).1; have := h.len; omega
      obtain ⟨e1, e2⟩ := h.each k y _ hy (List.getElem?_eq_getElem hlt)
      obtain ⟨g, cap, rfl, _⟩ := e1.form (List.length_pos_iff.2 e2)
      exact ⟨g, rfl⟩
    have ne : ∀ (k : Nat) (y : Value), vs[k]? = some y → y.ownBlock ≠ v.ownBlock := fun k y hy he => by
      obtain ⟨g, hg⟩ := is k y hy
      have := old k y hy g hg
      have := new g (he.symm.trans hg)
      omega
    intro k k' y y' hy hy' he
    have len1 : ∀ {k : Nat} {y : Value}, (vs ++ [v])[k]? = some y → (k < vs.length ∧ vs[k]? = some y) ∨ (k = vs.length ∧ y = v) := fun {k y} hy => by
      rcases Nat.lt_or_ge k vs.length with q | q
      · rw [List.getElem?_append_left q] at hy; exact Or.inl ⟨q, hy⟩
      · have hk : k = vs.length := by have := (List.getElem?_eq_some_iff.1 hy).1; simp at this; omega
        subst hk
        rw [List.getElem?_append_right (Nat.le_refl _), Nat.sub_self] at hy
        simp at hy
        exact Or.inr ⟨rfl, hy.symm⟩
    rcases len1 hy with ⟨q, a⟩ | ⟨q, rfl⟩ <;> rcases len1 hy' with ⟨q', a'⟩ | ⟨q', rfl⟩
    · exact h.apart k k' y y' a a' he
    · exact absurd he (ne k y a)
    · exact absurd he.symm (ne k' y' a')
    · omega
  · exact ((hb.mono hBw).trans (grown_below u.oB u.hB gr)).setCell (p := ⟨gp, 0, none⟩) h.ge v'
/-- One function more. -/
theorem PlanAt.addF {w wx W : World} {B gp : Nat} {vB vF v' : Value} {vs : List Value} {bs : List (List Sp)} {fs : List Int} {n : Int} (h : PlanAt w B gp vB vF vs bs fs) (hb : Below w.heap.size w wx)
    (ho : W.ownsRow B 3 1 v' (fs.length + 1) (flat icell fs ++ icell n)) (gr : wx.grownBy W vF.ownBlock) :
    W.heap[gp]? = some (.cells #[vB, vF] 79) ∧ PlanAt (W.setCell ⟨gp, 1, none⟩ v') B gp vB v' vs bs (fs ++ [n]) ∧ Below B w (W.setCell ⟨gp, 1, none⟩ v') := by
  have u := h.up hb
  have k1 : Keeps 3 wx W := Keeps.grown u.oF gr
  have hbox : W.heap[gp]? = some (.cells #[vB, vF] 79) := k1 _ _ _ _ u.box (by decide)
  have k2 : Keeps 79 W (W.setCell ⟨gp, 1, none⟩ v') := Keeps.set hbox
  have hset := setCell_eq_setRow W gp 1 _ _ _ v' hbox
  refine ⟨hbox, ⟨?_, h.ge, row_keeps (row_keeps u.oB k1 (by decide)) k2 (by decide), ?_, h.len, fun k v b hv hbb => ⟨row_keeps (row_keeps (u.each k v b hv hbb).1 k1 (by decide)) k2 (by decide), (u.each k v b hv hbb).2⟩, h.apart⟩, ?_⟩
  · rw [hset]; exact setRow_heap W gp _ _ _ _ hbox
  · have := row_keeps ho k2 (by decide)
    rw [flat_snoc, List.length_append]; exact this
  · exact ((hb.mono h.hB).trans (grown_below u.oF u.hB gr)).setCell (p := ⟨gp, 1, none⟩) h.ge v'
end Go.Proofs.YtechpdfcgimkkaaDoor
/-
  What a block of raw things needs: Raws and boxes in memory, a plan that grows.
-/
namespace Go.Proofs.YtechpdfcgimkkaaDoor
open Go.RowKit Go.Joins Isa
theorem raw_cells {w : World} {v : Value} {rs : List Rw} (h : RawsAt w v rs) {j : Nat} {r : Rw} (hj : rs[j]? = some r) : ∃ bb oo cap, v = .slice (some ⟨bb, oo, none⟩) rs.length cap ∧ rs.length ≤ cap ∧ cap ≤ maxLen ∧ bb < w.heap.size ∧ r.ok ∧
    w.cell? ⟨bb, oo + j * 4, none⟩ = some (.int .i64 r.K) ∧ w.cell? ⟨bb, oo + j * 4 + 1, none⟩ = some (.int .i64 r.A) ∧ w.cell? ⟨bb, oo + j * 4 + 2, none⟩ = some (.int .i64 r.B) ∧ w.cell? ⟨bb, oo + j * 4 + 3, none⟩ = some (.int .i64 r.C) := by
  rcases h.2 with ⟨_, _, _, rfl⟩ | ⟨bb, oo, cap, rfl, c1, c2, c3, c4⟩
  · simp at hj
  · exact ⟨bb, oo, cap, rfl, c1, c2, c3, h.1 r (List.mem_of_getElem? hj), c4 j r hj⟩
theorem raw_form {w : World} {v : Value} {rs : List Rw} (h : RawsAt w v rs) : ∃ a cap, v = .slice a rs.length cap := by
  rcases h.2 with ⟨a, cap, rfl, rfl⟩ | ⟨bb, oo, cap, rfl, _⟩
  · exact ⟨a, cap, rfl⟩
  · exact ⟨_, cap, rfl⟩
def Raw4 (w : World) (bb o : Nat) (r : Rw) : Prop := w.cell? ⟨bb, o, none⟩ = some (.int .i64 r.K) ∧ w.cell? ⟨bb, o + 1, none⟩ = some (.int .i64 r.A) ∧ w.cell? ⟨bb, o + 2, none⟩ = some (.int .i64 r.B) ∧ w.cell? ⟨bb, o + 3, none⟩ = some (.int .i64 r.C)
theorem Raw4.below {w w' : World} {bb o : Nat} {r : Rw} (h : Raw4 w bb o r) (hb : bb < w.heap.size) (hbe : Below w.heap.size w w') : Raw4 w' bb o r :=
  ⟨(hbe.cell (p := ⟨bb, _, none⟩) hb).trans h.1, (hbe.cell (p := ⟨bb, _, none⟩) hb).trans h.2.1, (hbe.cell (p := ⟨bb, _, none⟩) hb).trans h.2.2.1, (hbe.cell (p := ⟨bb, _, none⟩) hb).trans h.2.2.2⟩
theorem two_new (w : World) (o1 o2 : Obj) : ((w.alloc o1).alloc o2).heap[w.heap.size + 1]? = some o2 := by
  have := heap_alloc_new (w.alloc o1) o2
  rwa [show (w.alloc o1).heap.size = w.heap.size + 1 by simp] at this
theorem below_past {w w0 w1 : World} (h : Below w0.heap.size w0 w1) (h0 : w0 = w ∨ w0 = w.drew ∨ (∃ o, w0 = (w.alloc o).drew) ∨ (∃ o, w0 = w.drew.alloc o) ∨ (∃ o, w0 = w.alloc o)) : Below w.heap.size w w1 := by
  rcases h0 with rfl | rfl | ⟨o, rfl⟩ | ⟨o, rfl⟩ | ⟨o, rfl⟩
  · exact h
  · exact ((Below.refl _ _).drew).trans h
  · exact (((Below.refl _ _).alloc (Nat.le_refl _) o).drew).trans (h.mono (by show _ ≤ (w.heap.push _).size; simp))
  · exact (((Below.refl _ _).drew).alloc (Nat.le_refl _) o).trans (h.mono (by show _ ≤ (w.heap.push _).size; simp))
  · exact ((Below.refl _ _).alloc (Nat.le_refl _) o).trans (h.mono (by show _ ≤ (w.heap.push _).size; simp))
theorem box_kept {w w1 : World} {cs : Array Value} {T : TypeId} (h : Below (w.alloc (.cells cs T)).heap.size (w.alloc (.cells cs T)) w1) : w1.heap[w.heap.size]? = some (.cells cs T) :=
  (h.block _ (by show _ < (w.heap.push _).size; simp)).trans (by show (w.heap.push _)[w.heap.size]? = _; simp)
theorem nine_both {w : World} {k : Nat} {b0 b1 b2 b3 b4 b5 b6 b7 b8 : Value} {T : TypeId} (h : w.heap[k]? = some (.cells #[b0, b1, b2, b3, b4, b5, b6, b7, b8] T)) : (w.cell? ⟨k, 0, none⟩ = some b0 ∧ w.cell? ⟨k, 1, none⟩ = some b1 ∧ w.cell? ⟨k, 2, none⟩ = some b2 ∧ w.cell? ⟨k, 3, none⟩ = some b3 ∧ w.cell? ⟨k, 4, none⟩ = some b4 ∧ w.cell? ⟨k, 5, none⟩ = some b5 ∧ w.cell? ⟨k, 6, none⟩ = some b6 ∧ w.cell? ⟨k, 7, none⟩ = some b7 ∧ w.cell? ⟨k, 8, none⟩ = some b8) ∧ w.frozen? ⟨k, 0, none⟩ = false ∧ w.frozen? ⟨k, 1, none⟩ = false ∧ w.frozen? ⟨k, 2, none⟩ = false ∧ w.frozen? ⟨k, 3, none⟩ = false ∧ w.frozen? ⟨k, 4, none⟩ = false ∧ w.frozen? ⟨k, 5, none⟩ = false ∧ w.frozen? ⟨k, 6, none⟩ = false ∧ w.frozen? ⟨k, 7, none⟩ = false ∧ w.frozen? ⟨k, 8, none⟩ = false := by
  refine ⟨⟨?_, ?_, ?_, ?_, ?_, ?_, ?_, ?_, ?_⟩, ⟨?_, ?_, ?_, ?_, ?_, ?_, ?_, ?_, ?_⟩⟩ <;> simp [World.cell?, World.frozen?, h]
theorem nine_put {w : World} {k : Nat} {a0 a1 a2 a3 a4 a5 a6 a7 a8 : Value} {T : TypeId} (b0 b1 b2 b3 b4 b5 b6 b7 b8 : Value) (h : w.heap[k]? = some (.cells #[a0, a1, a2, a3, a4, a5, a6, a7, a8] T)) : ((((((((((w.setCell ⟨k, 0, none⟩ b0).setCell ⟨k, 1, none⟩ b1).setCell ⟨k, 2, none⟩ b2).setCell ⟨k, 3, none⟩ b3).setCell ⟨k, 4, none⟩ b4).setCell ⟨k, 5, none⟩ b5).setCell ⟨k, 6, none⟩ b6).setCell ⟨k, 7, none⟩ b7).setCell ⟨k, 8, none⟩ b8)).heap[k]? = some (.cells #[b0, b1, b2, b3, b4, b5, b6, b7, b8] T) ∧ ∀ {B : Nat} {W : World}, Below B W w → B ≤ k → Below B W (((((((((w.setCell ⟨k, 0, none⟩ b0).setCell ⟨k, 1, none⟩ b1).setCell ⟨k, 2, none⟩ b2).setCell ⟨k, 3, none⟩ b3).setCell ⟨k, 4, none⟩ b4).setCell ⟨k, 5, none⟩ b5).setCell ⟨k, 6, none⟩ b6).setCell ⟨k, 7, none⟩ b7).setCell ⟨k, 8, none⟩ b8) := by
  have c0 : (w.setCell ⟨k, 0, none⟩ b0).heap[k]? = some (.cells #[b0, a1, a2, a3, a4, a5, a6, a7, a8] T) := heap_setCell_same _ k 0 _ T b0 h
  have c1 : ((w.setCell ⟨k, 0, none⟩ b0).setCell ⟨k, 1, none⟩ b1).heap[k]? = some (.cells #[b0, b1, a2, a3, a4, a5, a6, a7, a8] T) := heap_setCell_same _ k 1 _ T b1 c0
  have c2 : (((w.setCell ⟨k, 0, none⟩ b0).setCell ⟨k, 1, none⟩ b1).setCell ⟨k, 2, none⟩ b2).heap[k]? = some (.cells #[b0, b1, b2, a3, a4, a5, a6, a7, a8] T) := heap_setCell_same _ k 2 _ T b2 c1
  have c3 : ((((w.setCell ⟨k, 0, none⟩ b0).setCell ⟨k, 1, none⟩ b1).setCell ⟨k, 2, none⟩ b2).setCell ⟨k, 3, none⟩ b3).heap[k]? = some (.cells #[b0, b1, b2, b3, a4, a5, a6, a7, a8] T) := heap_setCell_same _ k 3 _ T b3 c2
  have c4 : (((((w.setCell ⟨k, 0, none⟩ b0).setCell ⟨k, 1, none⟩ b1).setCell ⟨k, 2, none⟩ b2).setCell ⟨k, 3, none⟩ b3).setCell ⟨k, 4, none⟩ b4).heap[k]? = some (.cells #[b0, b1, b2, b3, b4, a5, a6, a7, a8] T) := heap_setCell_same _ k 4 _ T b4 c3
  have c5 : ((((((w.setCell ⟨k, 0, none⟩ b0).setCell ⟨k, 1, none⟩ b1).setCell ⟨k, 2, none⟩ b2).setCell ⟨k, 3, none⟩ b3).setCell ⟨k, 4, none⟩ b4).setCell ⟨k, 5, none⟩ b5).heap[k]? = some (.cells #[b0, b1, b2, b3, b4, b5, a6, a7, a8] T) := heap_setCell_same _ k 5 _ T b5 c4
  have c6 : (((((((w.setCell ⟨k, 0, none⟩ b0).setCell ⟨k, 1, none⟩ b1).setCell ⟨k, 2, none⟩ b2).setCell ⟨k, 3, none⟩ b3).setCell ⟨k, 4, none⟩ b4).setCell ⟨k, 5, none⟩ b5).setCell ⟨k, 6, none⟩ b6).heap[k]? = some (.cells #[b0, b1, b2, b3, b4, b5, b6, a7, a8] T) := heap_setCell_same _ k 6 _ T b6 c5
  have c7 : ((((((((w.setCell ⟨k, 0, none⟩ b0).setCell ⟨k, 1, none⟩ b1).setCell ⟨k, 2, none⟩ b2).setCell ⟨k, 3, none⟩ b3).setCell ⟨k, 4, none⟩ b4).setCell ⟨k, 5, none⟩ b5).setCell ⟨k, 6, none⟩ b6).setCell ⟨k, 7, none⟩ b7).heap[k]? = some (.cells #[b0, b1, b2, b3, b4, b5, b6, b7, a8] T) := heap_setCell_same _ k 7 _ T b7 c6
  have c8 : (((((((((w.setCell ⟨k, 0, none⟩ b0).setCell ⟨k, 1, none⟩ b1).setCell ⟨k, 2, none⟩ b2).setCell ⟨k, 3, none⟩ b3).setCell ⟨k, 4, none⟩ b4).setCell ⟨k, 5, none⟩ b5).setCell ⟨k, 6, none⟩ b6).setCell ⟨k, 7, none⟩ b7).setCell ⟨k, 8, none⟩ b8).heap[k]? = some (.cells #[b0, b1, b2, b3, b4, b5, b6, b7, b8] T) := heap_setCell_same _ k 8 _ T b8 c7
  exact ⟨c8, fun {B W} hb hk => (((((((((hb.setCell (p := ⟨k, 0, none⟩) hk b0).setCell (p := ⟨k, 1, none⟩) hk b1).setCell (p := ⟨k, 2, none⟩) hk b2).setCell (p := ⟨k, 3, none⟩) hk b3).setCell (p := ⟨k, 4, none⟩) hk b4).setCell (p := ⟨k, 5, none⟩) hk b5).setCell (p := ⟨k, 6, none⟩) hk b6).setCell (p := ⟨k, 7, none⟩) hk b7).setCell (p := ⟨k, 8, none⟩) hk b8)⟩
/-- append(p.blocks, append(b, y)): what the two come to. X: the world ahead of the statement. -/
theorem plan_end {w X : World} {B gp : Nat} {vB vF u : Value} {vs : List Value} {bs : List (List Sp)} {fs : List Int} {b : List Sp} (hP : PlanAt w B gp vB vF vs bs fs) (hbs : bs.length ≤ 1000) (hX : Below w.heap.size w X) (own : X.ownsRow w.heap.size 118 9 u b.length (flat Sp.cells b)) (hb : b.length ≤ 1000) (y : Sp) :
    ∃ v1 W1 v2 W2, (Builtin.append_ #[113, 113] 113 #[u, .slice (some ⟨X.heap.size, 0, none⟩) 1 1]).run Tryd.prog (X.alloc (.cells (Sp.cells y).toArray 118)).drew = .ok v1 W1 ∧
      (Builtin.append_ #[77, 77] 77 #[vB, .slice (some ⟨W1.heap.size, 0, none⟩) 1 1]).run Tryd.prog (W1.alloc (.cells #[v1] 113)) = .ok v2 W2 ∧
      W1.cell? ⟨gp, 0, none⟩ = some vB ∧ gp < W1.heap.size ∧ W2.cell? ⟨gp, 0, none⟩ = some vB ∧ W2.frozen? ⟨gp, 0, none⟩ = false ∧ v1.oneCell' = true ∧ v2.oneCell' = true ∧ (∃ a l c, v1 = .slice a l c) ∧ (∃ a l c, v2 = .slice a l c) ∧ PlanAt (W2.setCell ⟨gp, 0, none⟩ v2) B gp v2 vF (vs ++ [v1]) (bs ++ [b ++ [y]]) fs ∧ Below B w (W2.setCell ⟨gp, 0, none⟩ v2) := by
  have zX := hX.size
  obtain ⟨v1, W1, hr1, ho1, gr1, hb1⟩ := row_app 118 113 9 72 _ Tryd.underlying113 inSp rfl (by decide) own zX (Sp.cells y) rfl (spcell_one _) (by omega) (by unfold maxLen; omega) (Or.inr rfl)
  have hB1 : Below w.heap.size w W1 := (hX.trans (hb1.mono zX)).trans ⟨gr1.os, gr1.tape, gr1.output, gr1.size, fun k hk => gr1.block k (by have := hb1.size; omega) (by intro he; have := (row_block own he.symm).1; omega)⟩
  have z1 := hB1.size
  obtain ⟨a1, l1, c1, rfl⟩ := row_form ho1
  have u := hP.up hB1
  obtain ⟨v2, W2, hr2, ho2, gr2, hb2⟩ := row_app 113 77 1 24 _ Tryd.underlying77 inSps rfl (by decide) u.oB u.hB [.slice a1 l1 c1] rfl (by intro x hx; simp at hx; subst hx; rfl) (by omega) (by unfold maxLen; omega) (Or.inl rfl)
  rw [← flat_snoc] at ho1
  have e9 : (b ++ [y]).length = b.length + 1 := by simp
  rw [← e9] at ho1
  obtain ⟨q0, q1, q2⟩ := hP.addB (hB1.trans (hb2.mono z1)) (row_up ho1 hb2) (by simp) ho2 gr2
  obtain ⟨a2, l2, c2, rfl⟩ := row_form ho2
  exact ⟨_, W1, _, W2, hr1, hr2, u.cells.1, u.lt, by simp [World.cell?, q0], by simp [World.frozen?, q0], rfl, rfl, ⟨_, _, _, rfl⟩, ⟨_, _, _, rfl⟩, q1, q2⟩
/-- append(p.blocks, b): what it comes to. -/
theorem plan_end0 {w X : World} {B gp : Nat} {vB vF u : Value} {vs : List Value} {bs : List (List Sp)} {fs : List Int} {b : List Sp} (hP : PlanAt w B gp vB vF vs bs fs) (hbs : bs.length ≤ 1000) (hX : Below w.heap.size w X) (own : X.ownsRow w.heap.size 118 9 u b.length (flat Sp.cells b)) (hb : b ≠ []) :
    ∃ v2 W2, (Builtin.append_ #[77, 77] 77 #[vB, .slice (some ⟨X.heap.size, 0, none⟩) 1 1]).run Tryd.prog (X.alloc (.cells #[u] 113)) = .ok v2 W2 ∧
      X.cell? ⟨gp, 0, none⟩ = some vB ∧ gp < X.heap.size ∧ W2.cell? ⟨gp, 0, none⟩ = some vB ∧ W2.frozen? ⟨gp, 0, none⟩ = false ∧ u.oneCell' = true ∧ v2.oneCell' = true ∧ (∃ a l c, u = .slice a l c) ∧ (∃ a l c, v2 = .slice a l c) ∧ PlanAt (W2.setCell ⟨gp, 0, none⟩ v2) B gp v2 vF (vs ++ [u]) (bs ++ [b]) fs ∧ Below B w (W2.setCell ⟨gp, 0, none⟩ v2) := by
  have zX := hX.size
  have p := hP.up hX
  obtain ⟨a1, l1, c1, rfl⟩ := row_form own
  obtain ⟨v2, W2, hr2, ho2, gr2, hb2⟩ := row_app 113 77 1 24 _ Tryd.underlying77 inSps rfl (by decide) p.oB p.hB [.slice a1 l1 c1] rfl (by intro x hx; simp at hx; subst hx; rfl) (by omega) (by unfold maxLen; omega) (Or.inl rfl)
  obtain ⟨q0, q1, q2⟩ := hP.addB (hX.trans (hb2.mono zX)) (row_up own hb2) hb ho2 gr2
  obtain ⟨a2, l2, c2, rfl⟩ := row_form ho2
  exact ⟨_, W2, hr2, p.cells.1, p.lt, by simp [World.cell?, q0], by simp [World.frozen?, q0], rfl, rfl, ⟨_, _, _, rfl⟩, ⟨_, _, _, rfl⟩, q1, q2⟩
end Go.Proofs.YtechpdfcgimkkaaDoor
