/-
  isa.Decode: its small callees.
-/
import Derived.Test.YtechpdfcgimkkaaDoorMKC
import Derived.Outline
namespace Go.Proofs.YtechpdfcgimkkaaDoor
open Go.RowKit Go.Joins Isa
def sgn (x wd : Int) : Int := if wd = 1 ∧ 127 < x then x - 256 else if wd = 2 ∧ 32767 < x then x - 65536 else x
set_option maxHeartbeats 400000 in
theorem signed_any (x wd : Int) (w : World) (_h1 : 0 ≤ x) (_h2 : x ≤ 65535) : Calls Tryd.prog 118 #[.int .i64 x, .int .i64 wd] w fun e w' => e = .returned (.int .i64 (sgn x wd)) ∧ w' = w := by
  by_cases c1 : wd = 1
  · subst c1
    by_cases c2 : 127 < x
    · have hp : Hid (sgn x 1 = x - 256) := by show _ = _; simp [sgn, c2]
      go_enter Tryd.func118, Tryd.ntmps118
      go_wp2
      go_ret
      exact ⟨by rw [hp.out]; rfl, rfl⟩
    · have hp : Hid (sgn x 1 = x) := by show _ = _; simp [sgn, c2]
      go_enter Tryd.func118, Tryd.ntmps118
      go_wp2
      go_ret
      exact ⟨by rw [hp.out]; rfl, rfl⟩
  have d1 : (wd == 1) = false := by simp [c1]
  by_cases c3 : wd = 2
  · subst c3
    by_cases c2 : 32767 < x
    · have hp : Hid (sgn x 2 = x - 65536) := by show _ = _; simp [sgn, c2]
      go_enter Tryd.func118, Tryd.ntmps118
      go_wp2
      go_ret
      exact ⟨by rw [hp.out]; rfl, rfl⟩
    · have hp : Hid (sgn x 2 = x) := by show _ = _; simp [sgn, c2]
      go_enter Tryd.func118, Tryd.ntmps118
      go_wp2
      go_ret
      exact ⟨by rw [hp.out]; rfl, rfl⟩
  · have d3 : (wd == 2) = false := by simp [c3]
    have hp : Hid (sgn x wd = x) := by show _ = _; simp [sgn, c1, c3]
    clear c1 c3
    go_enter Tryd.func118, Tryd.ntmps118
    go_wp2
    go_ret
    exact ⟨by rw [hp.out]; rfl, rfl⟩
/-- An instruction's D, A or B, set. -/
def setD (u v x : Int) : Int := if u = 1 then v else x
def setA (u v x : Int) : Int := if u = 2 then v else x
def setB (u v x : Int) : Int := if u = 3 then v else x
set_option maxHeartbeats 1000000 in
theorem withreg_any (k d a b n : Int) (l : Bool) (u v : Int) (w : World) :
    Calls Tryd.prog 117 #[.agg #[.int .i64 k, .int .i64 d, .int .i64 a, .int .i64 b, .int .i64 n, .bool l], .int .i64 u, .int .i64 v] w fun e w' => e = .returned (.agg #[.int .i64 k, .int .i64 (setD u v d), .int .i64 (setA u v a), .int .i64 (setB u v b), .int .i64 n, .bool l]) ∧ w' = (w.alloc (.cells #[.int .i64 k, .int .i64 (setD u v d), .int .i64 (setA u v a), .int .i64 (setB u v b), .int .i64 n, .bool l] 61)).alloc (.cells #[.int .i64 k, .int .i64 (setD u v d), .int .i64 (setA u v a), .int .i64 (setB u v b), .int .i64 n, .bool l] 61) := by
  by_cases c1 : u = 1
  · have hp : Hid (setD u v d = v ∧ setA u v a = a ∧ setB u v b = b) := by show _ ∧ _; simp [setD, setA, setB, c1]
    subst c1
    go_enter Tryd.func117, Tryd.ntmps117
    go_wp2
    go_returns
    exact ⟨by rw [hp.out.1, hp.out.2.1, hp.out.2.2], by rw [hp.out.1, hp.out.2.1, hp.out.2.2]⟩
  have d1 : (u == 1) = false := by simp [c1]
  by_cases c2 : u = 2
  · have hp : Hid (setD u v d = d ∧ setA u v a = v ∧ setB u v b = b) := by show _ ∧ _; simp [setD, setA, setB, c2]
    subst c2
    go_enter Tryd.func117, Tryd.ntmps117
    go_wp2
    go_returns
    exact ⟨by rw [hp.out.1, hp.out.2.1, hp.out.2.2], by rw [hp.out.1, hp.out.2.1, hp.out.2.2]⟩
  have d2 : (u == 2) = false := by simp [c2]
  by_cases c3 : u = 3
  · have hp : Hid (setD u v d = d ∧ setA u v a = a ∧ setB u v b = v) := by show _ ∧ _; simp [setD, setA, setB, c3]
    subst c3
    go_enter Tryd.func117, Tryd.ntmps117
    go_wp2
    go_returns
    exact ⟨by rw [hp.out.1, hp.out.2.1, hp.out.2.2], by rw [hp.out.1, hp.out.2.1, hp.out.2.2]⟩
  · have d3 : (u == 3) = false := by simp [c3]
    have hp : Hid (setD u v d = d ∧ setA u v a = a ∧ setB u v b = b) := by show _ ∧ _; simp [setD, setA, setB, c1, c2, c3]
    clear c1 c2 c3
    go_enter Tryd.func117, Tryd.ntmps117
    go_wp2
    go_returns
    exact ⟨by rw [hp.out.1, hp.out.2.1, hp.out.2.2], by rw [hp.out.1, hp.out.2.1, hp.out.2.2]⟩
set_option maxHeartbeats 400000 in
theorem num0 (Br Ba : Nat) (w : World) : Calls Tryd.prog 116 #[.int .i64 0, .pointer (some ⟨Br, 0, none⟩), .pointer (some ⟨Ba, 0, none⟩)] w fun e w' => e = .returned (.int .i64 0) ∧ w' = w := by
  go_enter Tryd.func116, Tryd.ntmps116
  go_wp2
  go_rounds 1
  all_goals
    go_ret
    exact ⟨rfl, rfl⟩
set_option maxHeartbeats 400000 in
theorem num1 (Br Ba bb oo len cap t : Nat) (x : Int) (w : World) (hr : w.cell? ⟨Br, 0, none⟩ = some (.slice (some ⟨bb, oo, none⟩) len cap)) (ha : w.cell? ⟨Ba, 0, none⟩ = some (.int .i64 t)) (hf : w.frozen? ⟨Ba, 0, none⟩ = false)
    (_ht : t < len) (_hl : len ≤ 1000) (hx : w.cell? ⟨bb, oo + t, none⟩ = some (.int .u8 x)) (_x0 : 0 ≤ x) (_x1 : x ≤ 255) :
    Calls Tryd.prog 116 #[.int .i64 1, .pointer (some ⟨Br, 0, none⟩), .pointer (some ⟨Ba, 0, none⟩)] w fun e w' => e = .returned (.int .i64 x) ∧ w' = w.setCell ⟨Ba, 0, none⟩ (.int .i64 ((t : Int) + 1)) := by
  go_enter Tryd.func116, Tryd.ntmps116
  go_wp2
  go_rounds 2
  all_goals
    go_ret
    exact ⟨rfl, rfl⟩
set_option maxHeartbeats 400000 in
theorem num2 (Br Ba bb oo len cap t : Nat) (x y : Int) (w : World) (hr : w.cell? ⟨Br, 0, none⟩ = some (.slice (some ⟨bb, oo, none⟩) len cap)) (ha : w.cell? ⟨Ba, 0, none⟩ = some (.int .i64 t)) (hf : w.frozen? ⟨Ba, 0, none⟩ = false)
    (_ht : t + 1 < len) (_hl : len ≤ 1000) (hx : w.cell? ⟨bb, oo + t, none⟩ = some (.int .u8 x)) (hy : w.cell? ⟨bb, oo + (t + 1), none⟩ = some (.int .u8 y)) (_x0 : 0 ≤ x) (_x1 : x ≤ 255) (_y0 : 0 ≤ y) (_y1 : y ≤ 255) (n1 : Br ≠ Ba) (n2 : bb ≠ Ba) :
    Calls Tryd.prog 116 #[.int .i64 2, .pointer (some ⟨Br, 0, none⟩), .pointer (some ⟨Ba, 0, none⟩)] w fun e w' => e = .returned (.int .i64 (x + y * 256)) ∧ w' = (w.setCell ⟨Ba, 0, none⟩ (.int .i64 ((t : Int) + 1))).setCell ⟨Ba, 0, none⟩ (.int .i64 ((t : Int) + 1 + 1)) := by
  go_enter Tryd.func116, Tryd.ntmps116
  go_wp2
  go_rounds 3
  all_goals
    go_ret
    exact ⟨rfl, rfl⟩
end Go.Proofs.YtechpdfcgimkkaaDoor
