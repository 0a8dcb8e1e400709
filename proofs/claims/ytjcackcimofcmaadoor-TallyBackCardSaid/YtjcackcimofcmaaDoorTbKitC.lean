/-
  Raws in a row, an edge out of one; boltholekeep.picked; what append leaves of the other blocks.
-/
import Derived.Test.YtjcackcimofcmaaDoorPureTbC
import Derived.Outline
namespace Go.Proofs.YtjcackcimofcmaaDoor
open Go.RowKit Go.Joins
def tpk (x m : Int) : Int := (if x < 0 then -(x + 1) else x) % m
theorem tpk_bd (x m : Int) (h : 0 < m) : 0 ≤ tpk x m ∧ tpk x m < m := ⟨Int.emod_nonneg _ (by omega), Int.emod_lt_of_pos _ h⟩
set_option maxHeartbeats 400000 in
theorem tpicked_any (x m : Int) (w : World) (h0 : 0 < m) (_h1 : -9223372036854775808 ≤ x) (_h2 : x ≤ 9223372036854775807) : Calls Tryd.prog 8 #[.int .i64 x, .int .i64 m] w fun e w' => e = .returned (.int .i64 (tpk x m)) ∧ w' = w := by
  have hm : (m == 0) = false := by simp; omega
  by_cases hx : x < 0
  · have hp : Hid (tpk x m = -((x + 1).tmod m)) := by
      show _ = _
      rw [← Int.neg_tmod, Int.tmod_eq_emod_of_nonneg (by omega)]
      simp [tpk, hx]
    go_enter Tryd.func8, Tryd.ntmps8
    go_wp2
    go_ret
    exact ⟨by rw [hp.out]; rfl, rfl⟩
  · have hp : Hid (tpk x m = x % m) := by show _ = _; simp [tpk, hx]
    go_enter Tryd.func8, Tryd.ntmps8
    go_wp2
    go_ret
    exact ⟨by rw [hp.out]; rfl, rfl⟩
structure R4 where
  k : Int
  a : Int
  b : Int
  c : Int
def R4.cells (r : R4) : List Value := [.int .i64 r.k, .int .i64 r.a, .int .i64 r.b, .int .i64 r.c]
def R4.ok (r : R4) : Prop := i64 r.k ∧ i64 r.a ∧ i64 r.b ∧ i64 r.c
/-- The edge that is made of a raw. -/
def edR (r : R4) : Ed := ⟨tpk r.a 3000, tpk r.b 3000, tpk r.c 100000⟩
theorem edR_may (r : R4) : (edR r).may := by
  have h1 := tpk_bd r.a 3000 (by decide)
  have h2 := tpk_bd r.b 3000 (by decide)
  have h3 := tpk_bd r.c 100000 (by decide)
  unfold edR Ed.may
  simp only
  omega
/-- append of one edge to a row of our own; the blocks behind the row stay. -/
theorem app_ed2 {wr : World} {B : Nat} {v : Value} {l : List Ed} (own : wr.ownsRow B 33 3 v l.length (flat Ed.cells l)) (hB : B ≤ wr.heap.size) (hl : l.length ≤ 100000) (e : Ed) (w1 : World) (h1 : Below wr.heap.size wr w1) (g : Nat)
    (hg : ∀ j u, (Ed.cells e)[j]? = some u → w1.cell? ⟨g, j, none⟩ = some u) :
    ∃ a c W, (Builtin.append_ #[22, 22] 22 #[v, .slice (some ⟨g, 0, none⟩) 1 1]).run Tryd.prog w1 = .ok (.slice a (l.length + 1) c) W ∧
      W.ownsRow B 33 3 (.slice a (l.length + 1) c) (l ++ [e]).length (flat Ed.cells (l ++ [e])) ∧ Below B wr W ∧ w1.heap.size ≤ W.heap.size ∧ ∀ b, wr.heap.size ≤ b → b < w1.heap.size → W.heap[b]? = w1.heap[b]? := by
  obtain ⟨v', W, hr, ho, gr⟩ := orow_apps 33 22 3 24 _ Tryd.underlying22 nEd rfl (by decide) (row_up own h1) (Nat.le_trans hB h1.size) g 0 1 1 (Ed.cells e) rfl (fun j u hj => by rw [Nat.zero_add]; exact hg j u hj) (ecell_one e) (by omega) (by unfold maxLen; omega)
  have e1 : flat Ed.cells l ++ Ed.cells e = flat Ed.cells (l ++ [e]) := by simp [flat]
  have e2 : l.length + 1 = (l ++ [e]).length := by simp
  obtain ⟨a, c, rfl⟩ := orow_form' ho
  rw [e1] at ho
  conv at ho => arg 6; rw [e2]
  refine ⟨a, c, W, hr, ho, (h1.mono hB).trans (obelow_grown (row_up own h1) gr (Nat.le_refl _) (Nat.le_trans hB h1.size)), gr.size, fun b hb hb2 => gr.block b hb2 ?_⟩
  intro he
  obtain ⟨_, cur, hc⟩ := row_block own he.symm
  have := (Array.getElem?_eq_some_iff.1 hc).1
  omega
end Go.Proofs.YtjcackcimofcmaaDoor
