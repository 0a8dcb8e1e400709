/-
  slices.Equal: true at two slices of one content (edges).
-/
import Derived.Test.YtjcackcimofcmaaDoorMCC
import Derived.Test.YtjcackcimofcmaaDoorPureEdC
import Derived.Deep.QuietTactic
import Derived.BigQuiet
namespace Go.Proofs.YtjcackcimofcmaaDoor
open Go.RowKit Go.Joins
set_option maxHeartbeats 1000000 in
theorem eqed_any (v1 v2 : Value) (xs : List Ed) (w : World) (h1 : ListAt w Ed.cells 3 v1 xs) (h2 : ListAt w Ed.cells 3 v2 xs) :
    Calls Tryd.prog 10 #[v1, v2] w fun e w' => e = .returned (.bool true) ∧ ∃ n, w' = w.drewN n := by
  obtain ⟨a1, p1, rfl, hlen⟩ := h1.form
  obtain ⟨a2, p2, rfl, _⟩ := h2.form
  have H1 : Hid (ListAt w Ed.cells 3 (.slice a1 xs.length p1) xs) := h1
  have H2 : Hid (ListAt w Ed.cells 3 (.slice a2 xs.length p2) xs) := h2
  unfold maxLen at hlen
  clear h1 h2
  go_enter Tryd.func10, Tryd.ntmps10
  go_wp2_with fail
  go_loopw [13] (fun u wr => ∃ j n : Nat, j ≤ xs.length ∧ u = .int .i64 (j : Int) ∧ wr = w.drewN n) (fun u _ => (xs.length - intOf u).toNat)
  case atStart => exact ⟨0, 0, by omega, rfl, rfl⟩
  case round =>
    obtain ⟨j, n, j1, rfl, rfl⟩ := hrel
    by_cases hj : j < xs.length
    · obtain ⟨y, hy⟩ : ∃ y, xs[j]? = some y := ⟨_, List.getElem?_eq_getElem (by omega)⟩
      obtain ⟨bb, oo, cap, hv, c1, c2, c3, c4⟩ := H1.out.resolve_left (by rintro ⟨_, _, _, h⟩; subst h; simp at hj)
      cases hv
      obtain ⟨b2, o2, cap2, hv, _, _, d3, d4⟩ := H2.out.resolve_left (by rintro ⟨_, _, _, h⟩; subst h; simp at hj)
      cases hv
      have x0 : w.cell? ⟨bb, oo + j * 3, none⟩ = some (.int .i64 y.f) := c4 j y hy 0 _ rfl
      have x1 : w.cell? ⟨bb, oo + j * 3 + 1, none⟩ = some (.int .i64 y.t) := c4 j y hy 1 _ rfl
      have x2 : w.cell? ⟨bb, oo + j * 3 + 2, none⟩ = some (.int .i64 y.c) := c4 j y hy 2 _ rfl
      have y0 : w.cell? ⟨b2, o2 + j * 3, none⟩ = some (.int .i64 y.f) := d4 j y hy 0 _ rfl
      have y1 : w.cell? ⟨b2, o2 + j * 3 + 1, none⟩ = some (.int .i64 y.t) := d4 j y hy 1 _ rfl
      have y2 : w.cell? ⟨b2, o2 + j * 3 + 2, none⟩ = some (.int .i64 y.c) := d4 j y hy 2 _ rfl
      have hjj : (j : Int) < (xs.length : Int) := by omega
      clear c4 d4 hy
      go_wp2_with fail
      go_quiet (fail)
      go_wp2
      go_roundw
      case rel => exact ⟨j + 1, _, by omega, by go_num, rfl⟩
      case measure => simp [intOf]; omega
    · go_wp2
      go_ret
      exact ⟨rfl, _, rfl⟩
end Go.Proofs.YtjcackcimofcmaaDoor
