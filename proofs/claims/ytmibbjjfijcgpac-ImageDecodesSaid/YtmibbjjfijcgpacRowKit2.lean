/-
  Rows of the call's own, by their elements' types; boltholeref.numsCopy.
-/
import Derived.Test.YtmibbjjfijcgpacCopyKit
import Derived.Test.YtmibbjjfijcgpacPureEn
namespace Go.Proofs.Ytmibbjjfijcgpac
open Go.RowKit Go.Joins
theorem row_block {w : World} {B sz n : Nat} {E : TypeId} {v : Value} {xs : List Value} (h : w.ownsRow B E sz v n xs) {k : Nat} (hk : v.ownBlock = some k) : B ≤ k ∧ ∃ cur, w.heap[k]? = some (.cells cur E) := by
  rcases h.2 with ⟨rfl, _⟩ | ⟨g, cap, cur, rfl, hB, hg, _⟩
  · cases hk
  · have : g = k := by simpa [Value.ownBlock] using hk
    subst this
    exact ⟨hB, _, hg⟩
theorem row_same {w w' : World} {B sz n : Nat} {E : TypeId} {v : Value} {xs : List Value} (h : w.ownsRow B E sz v n xs) (hk : ∀ k, v.ownBlock = some k → w'.heap[k]? = w.heap[k]?) : w'.ownsRow B E sz v n xs := by
  refine ⟨h.1, ?_⟩
  rcases h.2 with q | ⟨g, cap, cur, rfl, q1, q2, q3⟩
  · exact Or.inl q
  · exact Or.inr ⟨g, cap, cur, rfl, q1, (hk g rfl).trans q2, q3⟩
theorem row_ne {w : World} {B sz n : Nat} {E : TypeId} {v : Value} {xs : List Value} (h : w.ownsRow B E sz v n xs) {k : Nat} {cs : Array Value} {T : TypeId} {fr : Nat × Nat} (hk : w.heap[k]? = some (.cells cs T fr)) (hT : T ≠ E) : some k ≠ v.ownBlock := by
  intro he
  obtain ⟨_, cur, hg⟩ := row_block h he.symm
  rw [hk] at hg
  simp at hg
  exact hT hg.2.1
/-- A row stays where another one, of another type, grows. -/
theorem row_by {w W : World} {B sz n B2 sz2 n2 : Nat} {E E2 : TypeId} {v v2 : Value} {xs xs2 : List Value} (h : w.ownsRow B E sz v n xs) (h2 : w.ownsRow B2 E2 sz2 v2 n2 xs2) (gr : w.grownBy W v2.ownBlock) (hE : E ≠ E2) : W.ownsRow B E sz v n xs :=
  row_same h fun k hk => by
    obtain ⟨_, cur, hg⟩ := row_block h hk
    exact gr.block k (Array.getElem?_eq_some_iff.1 hg).1 (row_ne h2 hg hE)
theorem row_set {w : World} {B sz n gb o : Nat} {E T : TypeId} {v u : Value} {xs : List Value} {cs : Array Value} (h : w.ownsRow B E sz v n xs) (hg : w.heap[gb]? = some (.cells cs T)) (hT : T ≠ E) : (w.setCell ⟨gb, o, none⟩ u).ownsRow B E sz v n xs :=
  row_same h fun k hk => heap_setCell_other _ _ _ _ (by rintro rfl; exact row_ne h hg hT hk.symm)
theorem row_up {w w' : World} {B sz n : Nat} {E : TypeId} {v : Value} {xs : List Value} (h : w.ownsRow B E sz v n xs) (hb : Below w.heap.size w w') : w'.ownsRow B E sz v n xs :=
  row_same h fun k hk => hb.block k (by obtain ⟨_, _, hg⟩ := row_block h hk; exact (Array.getElem?_eq_some_iff.1 hg).1)
theorem row_list {α : Type} {w : World} {B sz : Nat} {E : TypeId} {v : Value} {cells : α → List Value} {xs : List α} (hl : ∀ a, (cells a).length = sz) (h : w.ownsRow B E sz v xs.length (flat cells xs)) : ListAt w cells sz v xs := by
  rcases h.2 with ⟨rfl, h0⟩ | ⟨g, cap, cur, hv, q1, q2, q3, q4, q5, q6⟩
  · exact Or.inl ⟨_, _, rfl, List.length_eq_zero_iff.1 h0⟩
  · refine Or.inr ⟨g, 0, cap, hv, q3, q4, (Array.getElem?_eq_some_iff.1 q2).1, fun j x hx o u hu => ?_⟩
    have ho : o < sz := by
      rcases Nat.lt_or_ge o sz with q | q
      · exact q
      · rw [List.getElem?_eq_none (by rw [hl]; exact q)] at hu; cases hu
    have := h.cells (g := g) (by rw [hv]; rfl) (j * sz + o) u (by rw [flat_at hl xs j x hx o ho]; exact hu)
    rwa [Addr.add_lit, ← Nat.add_assoc] at this
theorem row_form {w : World} {B sz n : Nat} {E : TypeId} {v : Value} {xs : List Value} (h : w.ownsRow B E sz v n xs) : ∃ a l c, v = .slice a l c := by
  rcases h.2 with ⟨rfl, _⟩ | ⟨_, _, _, rfl, _⟩ <;> exact ⟨_, _, _, rfl⟩
/-- append(v, x): x's cells in a row that the statement makes. -/
theorem row_app (E S : TypeId) (sz bytes : Nat) (z : Value) (hU : Try.prog.underlying S = some (.slice E)) (hi : (Try.prog.info? E).map (fun i => (i.zero, i.size, i.bytes)) = some (some z, sz, bytes)) (hzs : z.cells.size = sz) (hsz : 0 < sz)
    {w wx : World} {B n : Nat} {v : Value} {xs : List Value} (h : w.ownsRow B E sz v n xs) (hB : B ≤ w.heap.size) (c : List Value) (hc : c.length = sz) (h1 : ∀ u ∈ c, u.oneCell' = true) (hb : (n + 1) * bytes ≤ 140737488355328) (h63 : n + 1 ≤ maxLen) (hx : wx = w.alloc (.cells c.toArray E) ∨ wx = (w.alloc (.cells c.toArray E)).drew) :
    ∃ v' W, (Builtin.append_ #[S, S] S #[v, .slice (some ⟨w.heap.size, 0, none⟩) 1 1]).run Try.prog wx = .ok v' W ∧ W.ownsRow B E sz v' (n + 1) (xs ++ c) ∧ wx.grownBy W v.ownBlock ∧ Below w.heap.size w wx := by
  obtain ⟨i, hi, hz0, hz1, hz2⟩ := info_of hi
  have hbel : Below w.heap.size w wx := by
    rcases hx with rfl | rfl
    · exact (Below.refl _ _).alloc (Nat.le_refl _) _
    · exact ((Below.refl _ _).alloc (Nat.le_refl _) _).drew
  have hcell : ∀ j, wx.cell? ⟨w.heap.size, j, none⟩ = c[j]? := fun j => by
    have : (w.alloc (.cells c.toArray E)).cell? ⟨w.heap.size, j, none⟩ = c[j]? := by rw [World.cell?_alloc_new]; simp
    rcases hx with rfl | rfl
    · exact this
    · exact this
  obtain ⟨v', W, hr, ho, gr, _, _⟩ := run_append_own_at (P := Try.prog) wx B S S E i z sz bytes hU hi hz0 hz1 hz2 hzs hsz v n xs (row_up h hbel) ⟨w.heap.size, 0, none⟩ 1 1 c (by rw [hc, Nat.one_mul]) (fun j u hj => by rw [Addr.add_lit, Nat.zero_add, hcell, hj]) h1 h63 hb (by have := hbel.size; omega)
  exact ⟨v', W, hr, ho, gr, hbel⟩
set_option maxHeartbeats 1000000 in
theorem nums_any (v : Value) (xs : List Int) (w : World) (h : ListAt w icell 1 v xs) (hb : 8 * xs.length ≤ 140737488351232) :
    Calls Try.prog 24 #[v] w fun e w' => ∃ v', e = .returned v' ∧ w'.ownsRow w.heap.size 3 1 v' xs.length (flat icell xs) ∧ Below w.heap.size w w' := by
  obtain ⟨aa, cp, rfl, hlen⟩ := h.form
  have HL : Hid (ListAt w icell 1 (.slice aa xs.length cp) xs) := h
  unfold maxLen at hlen
  clear h
  go_enter Try.func24, Try.ntmps24
  go_wp2_with fail
  go_loopw [3, 4] (fun v u wr => ∃ j : Nat, j ≤ xs.length ∧ u = .int .i64 (j : Int) ∧ Hid (wr.ownsRow w.heap.size 3 1 v j (flat icell (xs.take j))) ∧ Hid (Below w.heap.size w wr)) (fun _ u _ => (xs.length - intOf u).toNat)
  case atStart => exact ⟨0, by omega, rfl, World.ownsRow_nil _ _ _ _, Below.refl _ _⟩
  case round =>
    obtain ⟨j, j1, rfl, own, bel⟩ := hrel
    have z := bel.out.size
    by_cases hj : j < xs.length
    · obtain ⟨y, hy⟩ : ∃ y, xs[j]? = some y := ⟨_, List.getElem?_eq_getElem (by omega)⟩
      obtain ⟨bb, oo, cap, hv, c1, c2, c3, c4⟩ := HL.out.resolve_left (by rintro ⟨_, _, _, h⟩; subst h; simp at hj)
      cases hv
      have d0 := (bel.out.cell (p := ⟨bb, oo + j * 1 + 0, none⟩) c3).trans (c4 j y hy 0 (.int .i64 y) rfl)
      rw [Nat.mul_one, Nat.add_zero] at d0
      have hft : flat icell (xs.take (j + 1)) = flat icell (xs.take j) ++ [.int .i64 y] := by unfold flat; rw [List.take_add_one, hy, List.flatMap_append]; rfl
      have hjj : (j : Int) < (xs.length : Int) := by omega
      obtain ⟨v', W, hr, ho, gr, hbx⟩ := row_app 3 25 1 8 _ Try.underlying25 inInt rfl (by decide) own.out z [.int .i64 y] rfl (by intro u hu; simp at hu; subst hu; rfl) (by omega) (by unfold maxLen; omega) (Or.inl rfl)
      rw [← hft] at ho
      have hb2 : Below w.heap.size w W := bel.out.trans ((hbx.mono z).trans ⟨gr.os, gr.tape, gr.output, gr.size, fun k hk => gr.block k (by have := hbx.size; omega) (by intro he; have := (row_block own.out he.symm).1; omega)⟩)
      have HR : Hid _ := hr
      have HO : Hid _ := ho
      have HB : Hid _ := hb2
      clear hr ho gr hbx hb2 c4 hy hft own bel
      go_wp2_with (first | (at_builtin; refine wpList_append_two _ rfl (.tmp 11) (.tmp 16) 25 25 rfl _ _ rfl rfl HR.out ?_))
      go_roundw
      case rel => exact ⟨j + 1, by omega, by go_num, HO.out, HB.out⟩
      case measure => simp [intOf]; omega
    · have hjl : j = xs.length := by omega
      have ho := own.out
      rw [hjl, List.take_length] at ho
      have HO : Hid _ := ho
      clear own ho
      go_wp2
      go_ret
      exact ⟨_, rfl, HO.out, bel.out⟩
end Go.Proofs.Ytmibbjjfijcgpac
