/-
  Instructions in memory, rows that are appended to: what boltholekeep's alone needs.
-/
import Derived.Test.YtechpdfcgimkkaaDoorRunAt
namespace Go.Proofs.YtechpdfcgimkkaaDoor
open Go.RowKit Go.Joins Isa
def iCells (i : Ins) : List Value := [.int .i64 i.k, .int .i64 i.d, .int .i64 i.a, .int .i64 i.b, .int .i64 i.n, .bool i.l]
theorem icells_len (i : Ins) : (iCells i).length = 6 := rfl
theorem icells_one (i : Ins) : ∀ u ∈ iCells i, u.oneCell' = true := by
  intro u hu
  simp [iCells] at hu
  rcases hu with rfl | rfl | rfl | rfl | rfl | rfl <;> rfl
theorem inIns : (Tryd.prog.info? 61).map (fun i => (i.zero, i.size, i.bytes)) = some (some (.agg #[.int .i64 0, .int .i64 0, .int .i64 0, .int .i64 0, .int .i64 0, .bool false]), 6, 48) := by kernel_rfl
theorem row_some {w : World} {B sz n : Nat} {E : TypeId} {v : Value} {xs : List Value} (h : w.ownsRow B E sz v n xs) (hn : n ≠ 0) : ∃ g cap, v = .slice (some ⟨g, 0, none⟩) n cap := by
  obtain ⟨g, cap, cur, hv, _⟩ := h.2.resolve_left (fun q => hn q.2)
  exact ⟨g, cap, hv⟩
theorem row_form' {w : World} {B sz n : Nat} {E : TypeId} {v : Value} {xs : List Value} (h : w.ownsRow B E sz v n xs) : ∃ a cap, v = .slice a n cap := by
  rcases h.2 with ⟨hv, hn⟩ | ⟨g, cap, cur, hv, _⟩
  · exact ⟨none, 0, by rw [hv, hn]⟩
  · exact ⟨_, cap, hv⟩
theorem row_cells {w : World} {B sz n g cap : Nat} {E : TypeId} {xs : List Value} (h : w.ownsRow B E sz (.slice (some ⟨g, 0, none⟩) n cap) n xs) (j : Nat) (u : Value) (hj : xs[j]? = some u) : w.cell? ⟨g, j, none⟩ = some u := by
  rcases h.2 with ⟨hv, _⟩ | ⟨g', cap', cur, hv, _, hg, _, _, _, ht⟩
  · cases hv
  · cases hv
    simp only [World.cell?, hg]
    rw [← ht] at hj
    have hlt : j < (cur.toList.take (n * sz)).length := (List.getElem?_eq_some_iff.1 hj).1
    rw [List.getElem?_take_of_lt (by simp at hlt; omega)] at hj
    simpa using hj
/-- A whole slice more. -/
theorem row_apps (E S : TypeId) (sz bytes : Nat) (z : Value) (hU : Tryd.prog.underlying S = some (.slice E)) (hi : (Tryd.prog.info? E).map (fun i => (i.zero, i.size, i.bytes)) = some (some z, sz, bytes)) (hzs : z.cells.size = sz) (hsz : 0 < sz)
    {w : World} {B n : Nat} {v : Value} {xs : List Value} (h : w.ownsRow B E sz v n xs) (hB : B ≤ w.heap.size) (g off m cap : Nat) (news : List Value) (hl : news.length = m * sz) (hc : ∀ j u, news[j]? = some u → w.cell? ⟨g, off + j, none⟩ = some u) (h1 : ∀ u ∈ news, u.oneCell' = true) (hb : (n + m) * bytes ≤ 140737488355328) (h63 : n + m ≤ maxLen) :
    ∃ v' W, (Builtin.append_ #[S, S] S #[v, .slice (some ⟨g, off, none⟩) m cap]).run Tryd.prog w = .ok v' W ∧ W.ownsRow B E sz v' (n + m) (xs ++ news) ∧ w.grownBy W v.ownBlock := by
  obtain ⟨i, hi, hz0, hz1, hz2⟩ := info_of hi
  obtain ⟨v', W, hr, ho, gr, _, _⟩ := run_append_own_at (P := Tryd.prog) w B S S E i z sz bytes hU hi hz0 hz1 hz2 hzs hsz v n xs h ⟨g, off, none⟩ m cap news hl (fun j u hj => by rw [Addr.add_lit]; exact hc j u hj) h1 h63 hb hB
  exact ⟨v', W, hr, ho, gr⟩
theorem below_grown {w W : World} {B C sz n : Nat} {E : TypeId} {v : Value} {xs : List Value} (h : w.ownsRow B E sz v n xs) (gr : w.grownBy W v.ownBlock) (hC : C ≤ B) (hw : C ≤ w.heap.size) : Below C w W :=
  ⟨gr.os, gr.tape, gr.output, gr.size, fun k hk => gr.block k (by omega) (by intro he; have := (row_block h he.symm).1; omega)⟩
set_option maxRecDepth 100000 in
set_option maxHeartbeats 1000000 in
theorem clone_any (l : List Ins) (g off cap : Nat) (w : World) (hc : ∀ j u, (flat iCells l)[j]? = some u → w.cell? ⟨g, off + j, none⟩ = some u) (hl : l.length ≤ 1000) (hg : g < w.heap.size) :
    Calls Tryd.prog 69 #[.slice (some ⟨g, off, none⟩) l.length cap] w fun e w' => ∃ v', e = .returned v' ∧ w'.ownsRow w.heap.size 61 6 v' l.length (flat iCells l) ∧ Below w.heap.size w w' := by
  have h0 : (w.alloc (.cells #[] 61)).ownsRow w.heap.size 61 6 (.slice (some ⟨w.heap.size, 0, none⟩) 0 0) 0 [] := ⟨rfl, Or.inr ⟨w.heap.size, 0, #[], rfl, Nat.le_refl _, alloc_at _ _ _ rfl, Nat.le_refl _, by decide, rfl, rfl⟩⟩
  obtain ⟨v', W, hr, ho, gr⟩ := row_apps 61 72 6 48 _ Tryd.underlying72 inIns rfl (by decide) h0 (by simp) g off l.length cap (flat iCells l) (flat_len icells_len l) (fun j u hj => (World.cell?_alloc_past _ _ _ hg).trans (hc j u hj)) (flat_one icells_one l) (by omega) (by unfold maxLen; omega)
  rw [Nat.zero_add, List.nil_append] at ho
  have HR : Hid _ := hr
  have HO : Hid _ := ho
  have HB : Hid (Below w.heap.size w W) := ((Below.refl _ _).alloc (Nat.le_refl _) _).trans (below_grown h0 gr (Nat.le_refl _) (by simp))
  obtain ⟨a', l', c', rfl⟩ := row_form ho
  have qT : ∀ (w : World) (a : Option Addr) (n c n' c' : Nat), (binOp .eql 72 (.slice a n c) (.slice none n' c')).run Tryd.prog w = .ok (.bool a.isNone) w := fun w a n c n' c' => Lib.run_eql_slice_nil w 72 61 a n c n' c' Tryd.underlying72
  clear hr ho gr h0 hc
  go_enter Tryd.func69, Tryd.ntmps69
  go_wp2_with (first | (at_builtin; refine wpList_append_two _ rfl (.tmp 5) (.tmp 6) 72 72 rfl _ _ rfl rfl HR.out ?_))
  go_ret
  exact ⟨_, rfl, HO.out, HB.out⟩
end Go.Proofs.YtechpdfcgimkkaaDoor
