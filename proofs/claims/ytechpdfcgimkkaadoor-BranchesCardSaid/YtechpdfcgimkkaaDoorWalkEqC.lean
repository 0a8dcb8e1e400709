/-
  slices.Equal at two slices of numbers.
-/
import Derived.Test.YtechpdfcgimkkaaDoorMCC
import Derived.Deep.QuietTactic
import Derived.BigQuiet
namespace Go.Proofs.YtechpdfcgimkkaaDoor
open Go.RowKit Go.Joins
set_option maxHeartbeats 1000000 in
theorem equal_any (v1 v2 : Value) (xs ys : List Int) (w : World) (h1 : ListAt w icell 1 v1 xs) (h2 : ListAt w icell 1 v2 ys) :
    Calls Tryd.prog 34 #[v1, v2] w fun e w' => e = .returned (.bool (decide (xs = ys))) ∧ ∃ n, w' = w.drewN n := by
  obtain ⟨a1, p1, rfl, hlen⟩ := h1.form
  obtain ⟨a2, p2, rfl, hlen2⟩ := h2.form
  have H1 : Hid (ListAt w icell 1 (.slice a1 xs.length p1) xs) := h1
  have H2 : Hid (ListAt w icell 1 (.slice a2 ys.length p2) ys) := h2
  unfold maxLen at hlen hlen2
  clear h1 h2
  by_cases hl : xs.length = ys.length
  · have HL : Hid (xs.length = ys.length) := hl
    clear hlen2
    rw [← hl] at H2 ⊢
    clear hl
    go_enter Tryd.func34, Tryd.ntmps34
    go_wp2_with fail
    go_loopw [13] (fun u wr => ∃ j n : Nat, j ≤ xs.length ∧ u = .int .i64 (j : Int) ∧ Hid (xs.take j = ys.take j) ∧ wr = w.drewN n) (fun u _ => (xs.length - intOf u).toNat)
    case atStart => exact ⟨0, 0, by omega, rfl, rfl, rfl⟩
    case round =>
      obtain ⟨j, n, j1, rfl, hjt, rfl⟩ := hrel
      by_cases hj : j < xs.length
      · obtain ⟨y, hy⟩ : ∃ y, xs[j]? = some y := ⟨_, List.getElem?_eq_getElem (by omega)⟩
        obtain ⟨z, hz⟩ : ∃ z, ys[j]? = some z := ⟨_, List.getElem?_eq_getElem (by have := HL.out; omega)⟩
        obtain ⟨bb, oo, cap, hv, c1, c2, c3, c4⟩ := H1.out.resolve_left (by rintro ⟨_, _, _, h⟩; subst h; simp at hj)
        cases hv
        have hyl : j < ys.length := by have := HL.out; omega
        have hh := H2.out
        rw [HL.out] at hh
        obtain ⟨b2, o2, cap2, hv, d1, d2, d3, d4⟩ := hh.resolve_left (by rintro ⟨_, _, _, h⟩; rw [h] at hyl; simp at hyl)
        cases hv
        have x0 := c4 j y hy 0 (.int .i64 y) rfl
        have x1 := d4 j z hz 0 (.int .i64 z) rfl
        rw [Nat.mul_one, Nat.add_zero] at x0 x1
        have hjj : (j : Int) < (xs.length : Int) := by omega
        have hcc : xs.length ≤ p2 := by have := HL.out; omega
        have HY : Hid _ := hy
        have HZ : Hid _ := hz
        clear c4 d4 hy hz d1 hyl
        by_cases hyz : y = z
        · subst hyz
          go_wp2_with fail
          go_quiet (fail)
          go_wp2
          go_roundw
          case rel => exact ⟨j + 1, _, by omega, by go_num, by show _ = _; rw [List.take_add_one, List.take_add_one, HY.out, HZ.out, hjt.out], rfl⟩
          case measure => simp [intOf]; omega
        · have hne : (y != z) = true := by simp [hyz]
          have HE : Hid (decide (xs = ys) = false) := by
            show _ = _
            rw [decide_eq_false_iff_not]
            rintro rfl
            have h1 := HY.out
            rw [HZ.out] at h1
            exact hyz (Option.some.inj h1).symm
          go_wp2_with fail
          go_quiet (fail)
          go_wp2
          go_ret
          exact ⟨by rw [HE.out]; rfl, n + nq, by rw [World.drewN_drewN]⟩
      · have HE : Hid (decide (xs = ys) = true) := by
          show _ = _
          rw [decide_eq_true_iff]
          have := hjt.out
          rwa [List.take_of_length_le (by omega), List.take_of_length_le (by have := HL.out; omega)] at this
        go_wp2_with fail
        go_ret
        exact ⟨by rw [HE.out]; rfl, _, rfl⟩
  · have hb : ((xs.length : Int) != (ys.length : Int)) = true := by simp; omega
    have HE : Hid (decide (xs = ys) = false) := by
      show _ = _
      rw [decide_eq_false_iff_not]
      rintro rfl
      exact hl rfl
    go_enter Tryd.func34, Tryd.ntmps34
    go_wp2_with fail
    go_ret
    exact ⟨by rw [HE.out]; rfl, 0, rfl⟩
end Go.Proofs.YtechpdfcgimkkaaDoor
