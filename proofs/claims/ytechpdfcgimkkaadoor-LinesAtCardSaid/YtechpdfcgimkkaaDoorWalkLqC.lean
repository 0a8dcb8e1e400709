/-
  image.LineAt and boltholeref.LineOf: both answer 'lineOf' of the lines.
-/
import Derived.Test.YtechpdfcgimkkaaDoorMCC
import Derived.Outline
namespace Go.Proofs.YtechpdfcgimkkaaDoor
open Go.RowKit Go.Joins
set_option maxHeartbeats 1000000 in
theorem lineAt_any (vT vF vB vD vL : Value) (en p : Int) (ls : List Ln) (w : World) (hL : ListAt w Ln.cells 2 vL ls) :
    Calls Tryd.prog 24 #[.agg #[vT, vF, vB, vD, vL, .int .i64 en], .int .i64 p] w fun e w' => e = .returned (.int .i64 (lineOf ls p)) ∧ w' = w.alloc (.cells #[vT, vF, vB, vD, vL, .int .i64 en] 29) := by
  obtain ⟨aa, cp, rfl, hlen⟩ := hL.form
  have HL : Hid (ListAt w Ln.cells 2 (.slice aa ls.length cp) ls) := hL
  unfold maxLen at hlen
  clear hL
  go_enter Tryd.func24, Tryd.ntmps24
  go_wp2_with fail
  go_loopw [5] (fun v wr => ∃ (j : Nat) (x : Int), j ≤ ls.length ∧ v = .int .i64 x ∧ x = (j : Int) - 1 ∧ Hid (lineOf (ls.take j) p = lineOf ls p) ∧ wr = w.alloc (.cells #[vT, vF, vB, vD, .slice aa ls.length cp, .int .i64 en] 29)) (fun v _ => (intOf v + 1).toNat)
  case atStart => exact ⟨ls.length, _, by omega, rfl, by go_num, by show _ = _; rw [List.take_length], rfl⟩
  case round =>
    obtain ⟨j, x, j1, rfl, hx, j2, rfl⟩ := hrel
    by_cases hj : 1 ≤ j
    · obtain ⟨i, rfl⟩ : ∃ i, j = i + 1 := ⟨j - 1, by omega⟩
      obtain rfl : x = (i : Int) := by omega
      clear hx
      obtain ⟨y, hy⟩ : ∃ y, ls[i]? = some y := ⟨_, List.getElem?_eq_getElem (by omega)⟩
      obtain ⟨bb, oo, cap, hv, c1, c2, c3, c4⟩ := HL.out.resolve_left (by rintro ⟨_, _, _, h⟩; subst h; simp at j1)
      cases hv
      have d0 : w.cell? ⟨bb, oo + i * 2, none⟩ = some (.int .i64 y.a) := c4 i y hy 0 _ rfl
      have d1 : w.cell? ⟨bb, oo + i * 2 + 1, none⟩ = some (.int .i64 y.n) := c4 i y hy 1 _ rfl
      have hb2 : bb < w.heap.size + 1 := by omega
      have HN : Hid _ := lineOf_next ls i y p hy
      clear c4 hy
      by_cases hc : y.a ≤ p
      · have hr : Hid (lineOf ls p = y.n) := by show _ = _; rw [← j2.out, HN.out, if_pos hc]
        go_wp2
        go_ret
        exact ⟨by rw [hr.out]; rfl, by first | rfl | trivial⟩
      · have hr : Hid (lineOf (ls.take i) p = lineOf ls p) := by show _ = _; rw [← j2.out, HN.out, if_neg hc]
        go_wp2
        go_roundw
        case rel => exact ⟨i, _, by omega, rfl, by go_num, hr, trivial⟩
        case measure => simp [intOf]
    · obtain rfl : j = 0 := by omega
      obtain rfl : x = -1 := by omega
      clear hx
      have hr : Hid (lineOf ls p = 0) := by show _ = _; rw [← j2.out]; rfl
      go_wp2
      go_ret
      exact ⟨by rw [hr.out]; rfl, by first | rfl | trivial⟩
end Go.Proofs.YtechpdfcgimkkaaDoor
