/-
  boltholeref.signedOf; boltholeref.InstrAt's search of the kind.
-/
import Derived.Test.YtkofnmeononlaaaDoorWalkB2
import Derived.Test.YtkofnmeononlaaaDoorWalkS2
import Derived.Test.YtkofnmeononlaaaDoorWalkDec2
namespace Go.Proofs.YtkofnmeononlaaaDoor
open Go.RowKit Go.Joins Isa
set_option maxHeartbeats 1000000 in
theorem rsigned1 (bb oo cap : Nat) (x : Int) (w : World) (hx : w.cell? ⟨bb, oo, none⟩ = some (.int .u8 x)) (_x0 : 0 ≤ x) (_x1 : x ≤ 255) :
    Calls Tryd.prog 34 #[.slice (some ⟨bb, oo, none⟩) 1 cap] w fun e w' => e = .returned (.int .i64 (sgn x 1)) ∧ w' = w := by
  by_cases h : 127 < x
  · have hs : Hid (sgn x 1 = x - 256) := by show _ = _; unfold sgn; rw [if_pos ⟨rfl, h⟩]
    go_enter Tryd.func34, Tryd.ntmps34
    go_wp2
    go_ret
    exact ⟨by rw [hs.out]; rfl, rfl⟩
  · have hs : Hid (sgn x 1 = x) := by show _ = _; unfold sgn; rw [if_neg (by omega), if_neg (by omega)]
    go_enter Tryd.func34, Tryd.ntmps34
    go_wp2
    go_ret
    exact ⟨by rw [hs.out]; rfl, rfl⟩
set_option maxHeartbeats 1000000 in
theorem rsigned2 (bb oo cap : Nat) (x y : Int) (w : World) (hx : w.cell? ⟨bb, oo, none⟩ = some (.int .u8 x)) (hy : w.cell? ⟨bb, oo + 1, none⟩ = some (.int .u8 y)) (_x0 : 0 ≤ x) (_x1 : x ≤ 255) (_y0 : 0 ≤ y) (_y1 : y ≤ 255) :
    Calls Tryd.prog 34 #[.slice (some ⟨bb, oo, none⟩) 2 cap] w fun e w' => e = .returned (.int .i64 (sgn (x + y * 256) 2)) ∧ w' = w.drew := by
  by_cases h : 32767 < x + 256 * y
  · have hs : Hid (sgn (x + y * 256) 2 = x + 256 * y - 65536) := by show _ = _; unfold sgn; rw [if_neg (by omega), if_pos (by omega)]; omega
    go_enter Tryd.func34, Tryd.ntmps34
    go_wp2_with fail
    go_region
    all_goals go_wp2
    all_goals go_ret
    all_goals exact ⟨by rw [hs.out]; rfl, rfl⟩
  · have hs : Hid (sgn (x + y * 256) 2 = x + 256 * y) := by show _ = _; unfold sgn; rw [if_neg (by omega), if_neg (by omega)]; omega
    go_enter Tryd.func34, Tryd.ntmps34
    go_wp2_with fail
    go_region
    all_goals go_wp2
    all_goals go_ret
    all_goals exact ⟨by rw [hs.out]; rfl, rfl⟩
set_option maxHeartbeats 1000000 in
theorem rsizeX (k d a b n : Int) (l : Bool) (w : World) (h1 : 1 ≤ k) (h2 : k ≤ 24) (hl : l = true → rL k = true) :
    Calls Tryd.prog 27 #[.agg #[.int .i64 k, .int .i64 d, .int .i64 a, .int .i64 b, .int .i64 n, .bool l]] w fun e w' => e = .returned (.int .i64 (siz k l)) ∧ w' = w.alloc (.cells #[.int .i64 k, .int .i64 d, .int .i64 a, .int .i64 b, .int .i64 n, .bool l] 23) := by
  cases l
  · clear hl
    rcases kinds h1 h2 with rfl | rfl | rfl | rfl | rfl | rfl | rfl | rfl | rfl | rfl | rfl | rfl | rfl | rfl | rfl | rfl | rfl | rfl | rfl | rfl | rfl | rfl | rfl | rfl
    all_goals
      clear h1 h2
      go_enter Tryd.func27, Tryd.ntmps27
      go_wp2
      go_ret
      exact ⟨rfl, rfl⟩
  · have hk : k = 18 ∨ k = 19 ∨ k = 20 ∨ k = 21 ∨ k = 22 := by
      have := hl rfl
      rcases kinds h1 h2 with rfl | rfl | rfl | rfl | rfl | rfl | rfl | rfl | rfl | rfl | rfl | rfl | rfl | rfl | rfl | rfl | rfl | rfl | rfl | rfl | rfl | rfl | rfl | rfl
      all_goals first | omega | (exact absurd this (by decide))
    clear hl
    rcases hk with rfl | rfl | rfl | rfl | rfl
    all_goals
      clear h1 h2
      go_enter Tryd.func27, Tryd.ntmps27
      go_wp2
      go_ret
      exact ⟨rfl, rfl⟩
/-- The search: the kinds up to m. -/
def scan (x : Int) : Nat → Int × Bool
  | 0 => (0, false)
  | m + 1 =>
    let k : Int := m + 1
    let s := if opF k = x then (k, (scan x m).2) else scan x m
    if 0 < opL k ∧ opL k = x then (k, true) else s
theorem scan_all : (List.range 256).all (fun x => decide (scan (x : Int) 24 = kindB (x : Int))) = true := by decide +kernel
theorem scan_kind (x : Int) (h0 : 0 ≤ x) (h1 : x ≤ 255) : scan x 24 = kindB x := by
  obtain ⟨n, rfl⟩ := Int.eq_ofNat_of_zero_le h0
  exact of_decide_eq_true (List.all_eq_true.1 scan_all n (List.mem_range.2 (by omega)))
end Go.Proofs.YtkofnmeononlaaaDoor
