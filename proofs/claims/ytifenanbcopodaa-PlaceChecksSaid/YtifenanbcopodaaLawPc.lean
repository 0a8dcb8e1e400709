/-
  The call of boltholelaw.PlaceChecks returns true at all edges and numbers of blocks.
-/
import Derived.Test.YtifenanbcopodaaWalkPd
import Derived.Test.YtifenanbcopodaaAppList
namespace Go.Proofs.Ytifenanbcopodaa
open Go.RowKit Go.Joins
theorem inEdge : (Try.prog.info? 28).map (fun i => (i.zero, i.size, i.bytes)) = some (some (.agg #[.int .i64 0, .int .i64 0, .int .i64 0]), 3, 24) := by kernel_rfl
set_option maxHeartbeats 1000000 in
theorem placeChecks_whole (v : Value) (xs : List Ed) (n : Int) (w : World) (h : ListAt w Ed.cells 3 v xs) (hb : xs.length * 24 ≤ 140737488351232) :
    Calls Try.prog 3 #[v, .int .i64 n] w fun e w' => e = .returned (.bool true) ∧ Below w.heap.size w w' := by
  obtain ⟨a, cap, W, hr, hW, hB⟩ := app_list w Ed.cells 3 24 v _ xs 22 28 22 h (by decide) ecell_len Try.underlying22 inEdge (by omega)
  have HR : Hid _ := hr
  have h1 := check_edges _ n xs W hW
  have h2 := fun W2 (hB2 : Below w.heap.size w W2) => fault_edges _ n xs W2 (h.stays (Nat.le_refl _) hB2)
  have H1 : Hid _ := h1
  have H2 : Hid _ := h2
  obtain ⟨a0, c0, rfl, _⟩ := h.form
  have HB : Hid _ := hB
  clear hr hW h hB h1 h2
  generalize edChk n none xs = r at *
  go_enter Try.func3, Try.ntmps3
  go_wp2_with (first
    | (at_builtin; refine wpList_append_pair _ rfl (.const (.slice none 0 0)) (.tmp 7) 22 22 rfl _ _ rfl rfl HR.out ?_)
    | (go_at_call 4; refine Calls.mono H1.out ?_; rintro e w1 ⟨rfl, hw1⟩)
    | (go_at_call 5; refine (H2.out _ (HB.out.trans (hw1.mono HB.out.size))).mono ?_; rintro e w2 ⟨rfl, hw2⟩))
  go_ret
  exact ⟨by simp, (HB.out.trans (hw1.mono HB.out.size)).trans (hw2.mono (Nat.le_trans HB.out.size hw1.size))⟩
end Go.Proofs.Ytifenanbcopodaa
