/-
  What holds between the statements of isa.Encode: the two boxes lie as they were laid; the slice that is made is the call's own.
-/
import Derived.Test.YtechpdfcgimkkaaDoorWalkE
import Derived.Deep.AppendLies
namespace Go.Proofs.YtechpdfcgimkkaaDoor
open Go.RowKit Isa
structure St (w wc : World) (I S : Array Value) (Bs g : Nat) : Prop where
  ci : ∀ j, wc.cell? ⟨w.heap.size, j, none⟩ = I[j]?
  cs : ∀ j, wc.cell? ⟨Bs, j, none⟩ = S[j]?
  b1 : w.heap.size < Bs
  b2 : Bs < g
  b3 : g < wc.heap.size
  bel : Below w.heap.size w wc
theorem St.alloc {w wc : World} {I S : Array Value} {Bs g : Nat} (st : St w wc I S Bs g) (o : Obj) : St w (wc.alloc o) I S Bs g := by
  obtain ⟨ci, cs, b1, b2, b3, bel⟩ := st
  refine ⟨fun j => ?_, fun j => ?_, b1, b2, by simp; omega, bel.alloc (by omega) o⟩
  · rw [World.cell?_alloc_past _ _ _ (by omega)]; exact ci j
  · rw [World.cell?_alloc_past _ _ _ (by omega)]; exact cs j
theorem St.drew {w wc : World} {I S : Array Value} {Bs g : Nat} (st : St w wc I S Bs g) : St w wc.drew I S Bs g := ⟨st.ci, st.cs, st.b1, st.b2, st.b3, st.bel.drew⟩
theorem St.grown {w wc w' : World} {I S : Array Value} {Bs g : Nat} (st : St w wc I S Bs g) (gr : wc.grownBy w' (some g)) : St w w' I S Bs g := by
  obtain ⟨ci, cs, b1, b2, b3, bel⟩ := st
  have hz : wc.heap.size ≤ w'.heap.size := gr.size
  have b4 : w.heap.size ≤ wc.heap.size := by omega
  refine ⟨fun j => ?_, fun j => ?_, b1, b2, by omega, bel.grown gr b4 ?_⟩
  · rw [gr.cell_far ⟨_, _, none⟩ (by show w.heap.size < _; omega) (by simp; omega)]; exact ci j
  · rw [gr.cell_far ⟨_, _, none⟩ (by show Bs < _; omega) (by simp; omega)]; exact cs j
  · intro x hx; injection hx with hx; omega
theorem St.make {w w' w3 w4 : World} {I S : Array Value} {t t' : TypeId} (hb : Below (w.alloc (.cells I t)).heap.size (w.alloc (.cells I t)) w') (hb3 : Below (w'.alloc (.cells S t')).heap.size (w'.alloc (.cells S t')) w3)
    (gr : w3.grownBy w4 none) (hz4 : w3.heap.size < w4.heap.size) : St w w4 I S w'.heap.size w3.heap.size := by
  have z1 : w.heap.size < w'.heap.size := by have := hb.size; simp at this; omega
  have z2 : w'.heap.size < w3.heap.size := by have := hb3.size; simp at this; omega
  refine ⟨fun j => ?_, fun j => ?_, z1, z2, hz4, ?_⟩
  · rw [gr.cell_far ⟨_, _, none⟩ (by show w.heap.size < _; omega) (by simp), hb3.cell (p := ⟨_, _, none⟩) (by show w.heap.size < _; simp; omega), World.cell?_alloc_past _ _ _ z1, hb.cell (p := ⟨_, _, none⟩) (by show w.heap.size < _; simp)]
    exact World.cell?_alloc_new _ _ _ _
  · rw [gr.cell_far ⟨_, _, none⟩ (by show w'.heap.size < _; omega) (by simp), hb3.cell (p := ⟨_, _, none⟩) (by show w'.heap.size < _; simp)]
    exact World.cell?_alloc_new _ _ _ _
  · refine Below.grown ?_ gr (by omega) (by simp)
    exact ((((Below.refl _ _).alloc (Nat.le_refl _) _).trans (hb.mono (by simp))).alloc (by omega) _).trans (hb3.mono (by simp; omega))
theorem St.cells8 {w wc : World} {k d a b n x0 x1 x2 x3 : Int} {l : Bool} {Bs g : Nat} (st : St w wc #[.int .i64 k, .int .i64 d, .int .i64 a, .int .i64 b, .int .i64 n, .bool l] #[.int .i64 x0, .int .i64 x1, .int .i64 x2, .int .i64 x3] Bs g) :
    wc.cell? ⟨w.heap.size, 0, none⟩ = some (.int .i64 k) ∧ wc.cell? ⟨w.heap.size, 0 + 1, none⟩ = some (.int .i64 d) ∧ wc.cell? ⟨w.heap.size, 0 + 2, none⟩ = some (.int .i64 a) ∧ wc.cell? ⟨w.heap.size, 0 + 3, none⟩ = some (.int .i64 b) ∧ wc.cell? ⟨w.heap.size, 0 + 4, none⟩ = some (.int .i64 n) ∧ wc.cell? ⟨w.heap.size, 0 + 5, none⟩ = some (.bool l) ∧ wc.cell? ⟨Bs, 0, none⟩ = some (.int .i64 x0) ∧ wc.cell? ⟨Bs, 1, none⟩ = some (.int .i64 x1) :=
  ⟨st.ci 0, st.ci 1, st.ci 2, st.ci 3, st.ci 4, st.ci 5, st.cs 0, st.cs 1⟩
theorem regOf_bd {u d a b : Int} (hd : regB d = true) (ha : regB a = true) (hb : regB b = true) : 0 ≤ regOf u d a b ∧ regOf u d a b ≤ 7 := by
  unfold regB at hd ha hb
  simp at hd ha hb
  unfold regOf
  split
  · omega
  split
  · omega
  split <;> omega
theorem wrap_pair {x y : Int} (a1 : 0 ≤ x) (a2 : x ≤ 7) (b1 : 0 ≤ y) (b2 : y ≤ 7) : IntKind.u8.wrap (IntKind.i64.wrap (IntKind.i64.wrap (16 * x) + y)) = 16 * x + y := by
  rw [IntKind.wrap_i64, IntKind.wrap_i64, IntKind.wrap_u8]; omega
section
variable {P : Program} (w : World)
theorem step_append_spare {ops : Array Oper} {dst : Option Tmp} {ty : TypeId} {pos : String} {aft : Array Edge} {a : Act} {K : Act → World → Prop} {Q : Exit → Act → World → Prop} {E : Prop} {s x : Operand} {t : TypeId}
    (base : Nat) (e : TypeId) (i : TypeInfo) (size : Nat) (ht : P.underlying t = some (.slice e)) (hi : P.info? e = some i) (hsize : i.size = size)
    (g n cap : Nat) (xs : List Value) (hs : a.eval s = .slice (some ⟨g, 0, none⟩) n cap) (hown : w.ownsRow base e size (.slice (some ⟨g, 0, none⟩) n cap) n xs)
    (ad : Addr) (m c : Nat) (news : List Value) (hx : a.eval x = .slice (some ad) m c) (hl : news.length = m * size) (hnews : ∀ j u, news[j]? = some u → w.cell? (ad.add j) = some u) (h1 : ∀ u ∈ news, u.oneCell' = true)
    (hroom : n + m ≤ cap)
    (h : ∀ w', w'.ownsRow base e size (.slice (some ⟨g, 0, none⟩) (n + m) cap) (n + m) (xs ++ news) → w.grownBy w' (some g) → K (a.put dst (.slice (some ⟨g, 0, none⟩) (n + m) cap)) w') :
    if Region.wanted { dst := dst, op := .call { callee := .builtin .append, args := #[s, x], argTypes := #[t, t] }, type := ty, pos := pos, after := aft, guard := none } (yielded ops a.tmps) = true then Oper.wp P { dst := dst, op := .call { callee := .builtin .append, args := #[s, x], argTypes := #[t, t] }, type := ty, pos := pos, after := aft, guard := none } a w K Q else E := by
  rw [if_pos (by simp [Region.wanted])]
  exact wp_append_own_spare w s x t rfl base e i size ht hi hsize g n cap xs hs hown ad m c news hx hl hnews h1 hroom h
end
end Go.Proofs.YtechpdfcgimkkaaDoor
