/-
  A plan's parts in memory, one by one; appends of numbers in a row that the call began: what boltholekeep's 'assembled' needs.
-/
import Derived.Test.YtechpdfcgimkkaaDoorWalkOwC
import Derived.Test.YtechpdfcgimkkaaDoorMVC
namespace Go.Proofs.YtechpdfcgimkkaaDoor
open Go.RowKit Go.Joins Isa
theorem PlanAt.block {w : World} {B gp : Nat} {vB vF : Value} {vs : List Value} {bs : List (List Sp)} {fs : List Int} (h : PlanAt w B gp vB vF vs bs fs) {k : Nat} {b : List Sp} (hb : bs[k]? = some b) :
    ∃ (gB cB g cap : Nat), vB = .slice (some ⟨gB, 0, none⟩) bs.length cB ∧ bs.length ≤ cB ∧ cB ≤ maxLen ∧ w.cell? ⟨gB, k, none⟩ = some (.slice (some ⟨g, 0, none⟩) b.length cap) ∧ b.length ≤ cap ∧ cap ≤ maxLen ∧ b ≠ [] ∧ vs[k]? = some (.slice (some ⟨g, 0, none⟩) b.length cap) ∧
      w.ownsRow B 118 9 (.slice (some ⟨g, 0, none⟩) b.length cap) b.length (flat Sp.cells b) := by
  have hk : k < bs.length := (List.getElem?_eq_some_iff.1 hb).1
  obtain ⟨gB, cB, rfl, h1, h2⟩ := own_some h.oB (by omega)
  obtain ⟨u, hu⟩ : ∃ u, vs[k]? = some u := ⟨_, List.getElem?_eq_getElem (by have := h.len; omega)⟩
  obtain ⟨hr, hne⟩ := h.each _ _ _ hu hb
  obtain ⟨g, cg, rfl, hg1, hg2⟩ := own_some hr (by have := List.length_pos_iff.2 hne; omega)
  exact ⟨gB, cB, g, cg, rfl, h1, h2, own_cells h.oB k _ (by rw [show (vcell : Value → List Value) = fun x => [x] from rfl, flat_pt, hu]; rfl), hg1, hg2, hne, hu, hr⟩
theorem spot_cells {w : World} {B n g cap : Nat} {b : List Sp} (h : w.ownsRow B 118 9 (.slice (some ⟨g, 0, none⟩) n cap) n (flat Sp.cells b)) {j : Nat} {x : Sp} (hx : b[j]? = some x) :
    w.cell? ⟨g, j * 9, none⟩ = some (.int .i64 x.i.k) ∧ w.cell? ⟨g, j * 9 + 1, none⟩ = some (.int .i64 x.i.d) ∧ w.cell? ⟨g, j * 9 + 2, none⟩ = some (.int .i64 x.i.a) ∧ w.cell? ⟨g, j * 9 + 3, none⟩ = some (.int .i64 x.i.b) ∧ w.cell? ⟨g, j * 9 + 4, none⟩ = some (.int .i64 x.i.n) ∧
      w.cell? ⟨g, j * 9 + 5, none⟩ = some (.bool x.i.l) ∧ w.cell? ⟨g, j * 9 + 6, none⟩ = some (.int .i64 x.blk) ∧ w.cell? ⟨g, j * 9 + 7, none⟩ = some (.int .i64 x.fn) ∧ w.cell? ⟨g, j * 9 + 8, none⟩ = some (.int .i64 x.line) := by
  have f := fun (o : Nat) (ho : o < 9) (u : Value) (hu : (Sp.cells x)[o]? = some u) => own_cells h (j * 9 + o) u ((flat_at spcell_len b j x hx o ho).trans hu)
  exact ⟨by have := f 0 (by decide) _ rfl; rwa [Nat.add_zero] at this, f 1 (by decide) _ rfl, f 2 (by decide) _ rfl, f 3 (by decide) _ rfl, f 4 (by decide) _ rfl, f 5 (by decide) _ rfl, f 6 (by decide) _ rfl, f 7 (by decide) _ rfl, f 8 (by decide) _ rfl⟩
/-- append of one number to a row that was begun behind B. -/
theorem app_int {wr : World} {B : Nat} {v : Value} {l : List Int} (own : wr.ownsRow B 3 1 v l.length (flat icell l)) (hB : B ≤ wr.heap.size) (hl : l.length ≤ 100000) (e : Int) (w1 : World) (h1 : Below wr.heap.size wr w1) (g : Nat)
    (hg : w1.cell? ⟨g, 0, none⟩ = some (.int .i64 e)) :
    ∃ a c W, (Builtin.append_ #[26, 26] 26 #[v, .slice (some ⟨g, 0, none⟩) 1 1]).run Tryd.prog w1 = .ok (.slice a (l.length + 1) c) W ∧
      W.ownsRow B 3 1 (.slice a (l.length + 1) c) (l ++ [e]).length (flat icell (l ++ [e])) ∧ Below B wr W := by
  obtain ⟨v', W, hr, ho, gr⟩ := orow_apps 3 26 1 8 _ Tryd.underlying26 inInt rfl (by decide) (row_up own h1) (Nat.le_trans hB h1.size) g 0 1 1 (icell e) rfl (fun j u hj => by
    rcases j with _ | j
    · simp [icell] at hj; subst hj; exact hg
    · simp [icell] at hj) (by intro u hu; simp [icell] at hu; subst hu; rfl) (by omega) (by unfold maxLen; omega)
  have e1 : flat icell l ++ icell e = flat icell (l ++ [e]) := by simp [flat]
  have e2 : l.length + 1 = (l ++ [e]).length := by simp
  obtain ⟨a, c, rfl⟩ := orow_form' ho
  rw [e1] at ho
  conv at ho => arg 6; rw [e2]
  exact ⟨a, c, W, hr, ho, (h1.mono hB).trans (obelow_grown (row_up own h1) gr (Nat.le_refl _) (Nat.le_trans hB h1.size))⟩
theorem szAll_snoc (bs : List (List Sp)) (b : List Sp) : szAll (bs ++ [b]) = szAll bs + szB b := by simp [szAll]
theorem szB_snoc (b : List Sp) (x : Sp) : szB (b ++ [x]) = szB b + szS x := by simp [szB]
theorem starts_take (bs : List (List Sp)) (k : Nat) (h : k < bs.length) : (startsOf bs).take (k + 1) = (startsOf bs).take k ++ [szAll (bs.take k)] := by
  unfold startsOf
  rw [List.take_add_one]
  congr 1
  simp [List.getElem?_map, List.getElem?_range h]
theorem starts_len (bs : List (List Sp)) : (startsOf bs).length = bs.length := by simp [startsOf]
theorem sizeNum_bd (k d a b n : Int) (l : Bool) : 0 ≤ sizeNum k d a b n l ∧ sizeNum k d a b n l ≤ 5 := by
  unfold sizeNum
  split
  · rename_i h
    obtain ⟨h1, h2, _⟩ := chk_zero h
    have := wid_bd k l h1 h2
    rcases kinds h1 h2 with rfl | rfl | rfl | rfl | rfl | rfl | rfl | rfl | rfl | rfl | rfl | rfl | rfl | rfl | rfl | rfl | rfl | rfl | rfl | rfl | rfl | rfl | rfl | rfl <;> cases l <;> decide
  · decide
end Go.Proofs.YtechpdfcgimkkaaDoor
/-
  A plan whose spot is made long, in memory.
-/
namespace Go.Proofs.YtechpdfcgimkkaaDoor
open Go.RowKit Go.Joins Isa
def Sp.long (x : Sp) : Sp := { x with i := { x.i with l := true } }
theorem flat_long : ∀ (b : List Sp) (j : Nat) (x : Sp), b[j]? = some x → (flat Sp.cells b).set (j * 9 + 5) (.bool true) = flat Sp.cells (b.set j x.long)
  | [], j, x, h => by simp at h
  | y :: b, 0, x, h => by
    simp at h
    subst h
    rfl
  | y :: b, j + 1, x, h => by
    have ih := flat_long b j x (by simpa using h)
    show ((Sp.cells y) ++ flat Sp.cells b).set ((j + 1) * 9 + 5) _ = Sp.cells y ++ flat Sp.cells (b.set j x.long)
    rw [← ih, List.set_append_right _ _ (by rw [spcell_len]; omega), spcell_len, show (j + 1) * 9 + 5 - 9 = j * 9 + 5 by omega]
theorem row_set_at {w : World} {B sz n g cap o : Nat} {E : TypeId} {u : Value} {xs : List Value} (h : w.ownsRow B E sz (.slice (some ⟨g, 0, none⟩) n cap) n xs) :
    (w.setCell ⟨g, o, none⟩ u).ownsRow B E sz (.slice (some ⟨g, 0, none⟩) n cap) n (xs.set o u) ∧ w.frozen? ⟨g, o, none⟩ = false ∧ ∃ cur, w.heap[g]? = some (.cells cur E (0, 0)) := by
  have hl := h.1
  rcases h.2 with ⟨hv, _⟩ | ⟨g', cap', cur, hv, q1, q2, q3, q4, q5, q6⟩
  · cases hv
  · cases hv
    refine ⟨⟨by rw [List.length_set]; exact hl, Or.inr ⟨g, cap, cur.setIfInBounds o u, rfl, q1, heap_setCell_same _ _ _ _ _ _ q2, q3, q4, by rw [Array.size_setIfInBounds]; exact q5, ?_⟩⟩, by simp [World.frozen?, q2], cur, q2⟩
    rw [Array.toList_setIfInBounds, List.take_set, q6]
/-- One spot made long. -/
theorem PlanAt.mark {w : World} {B gp : Nat} {vB vF : Value} {vs : List Value} {bs : List (List Sp)} {fs : List Int} (h : PlanAt w B gp vB vF vs bs fs) {k j g cap : Nat} {b : List Sp} {x : Sp} (hb : bs[k]? = some b) (hx : b[j]? = some x)
    (hv : vs[k]? = some (.slice (some ⟨g, 0, none⟩) b.length cap)) :
    PlanAt (w.setCell ⟨g, j * 9 + 5, none⟩ (.bool true)) B gp vB vF vs (bs.set k (b.set j x.long)) fs ∧ Below B w (w.setCell ⟨g, j * 9 + 5, none⟩ (.bool true)) ∧ Keeps 118 w (w.setCell ⟨g, j * 9 + 5, none⟩ (.bool true)) ∧
      w.frozen? ⟨g, j * 9 + 5, none⟩ = false ∧ w.cell? ⟨g, j * 9 + 5, none⟩ = some (.bool x.i.l) := by
  obtain ⟨hr, hne⟩ := h.each _ _ _ hv hb
  have hj : j < b.length := (List.getElem?_eq_some_iff.1 hx).1
  have hkl : k < bs.length := (List.getElem?_eq_some_iff.1 hb).1
  obtain ⟨hr2, hfz, cur, hcur⟩ := row_set_at (u := .bool true) (o := j * 9 + 5) hr
  have hK : Keeps 118 w (w.setCell ⟨g, j * 9 + 5, none⟩ (.bool true)) := Keeps.set hcur
  have hge : B ≤ g := (row_block hr rfl).1
  rw [flat_long b j x hx] at hr2
  refine ⟨⟨hK _ _ _ _ h.box (by decide), h.ge, ?_, row_keeps h.oF hK (by decide), by rw [List.length_set]; exact h.len, fun k' v' b' hv' hb' => ?_, h.apart⟩, (Below.refl _ _).setCell (p := ⟨g, _, none⟩) hge _, hK, hfz, (spot_cells hr hx).2.2.2.2.2.1⟩
  · rw [List.length_set]; exact row_keeps h.oB hK (by decide)
  · by_cases e : k' = k
    · subst e
      rw [hv] at hv'
      cases hv'
      rw [List.getElem?_set_self hkl] at hb'
      cases hb'
      refine ⟨by rw [List.length_set]; exact hr2, fun q => hne ?_⟩
      have := congrArg List.length q
      rw [List.length_set] at this
      exact List.length_eq_zero_iff.1 this
    · rw [List.getElem?_set_ne (fun q => e q.symm)] at hb'
      obtain ⟨hr', hne'⟩ := h.each _ _ _ hv' hb'
      refine ⟨row_same hr' fun g' hg' => ?_, hne'⟩
      refine heap_setCell_other _ _ _ _ ?_
      rintro rfl
      exact e (h.apart k' k _ _ hv' hv (by rw [hg']; rfl))
end Go.Proofs.YtechpdfcgimkkaaDoor
