/-
  isa.Encode: small callees.
-/
import Derived.Test.YtechpdfcgimkkaaDoorWalkS
import Derived.Deep.DeepAppendRoom
import Derived.Deep.RegionHeld3
import Derived.Deep.DeepCutAuto
namespace Go.Proofs.YtechpdfcgimkkaaDoor
open Go.RowKit Isa
def firB (k : Int) (l : Bool) : Int := if l then opL k else opF k
def regOf (u d a b : Int) : Int := if u = 1 then d else if u = 2 then a else if u = 3 then b else 0
set_option maxHeartbeats 400000 in
theorem first_any (k d a b n : Int) (l : Bool) (w : World) (h1 : 1 ≤ k) (h2 : k ≤ 24) (ht : Tabs w) :
    Calls Tryd.prog 111 #[.agg #[.int .i64 k, .int .i64 d, .int .i64 a, .int .i64 b, .int .i64 n, .bool l]] w fun e w' => e = .returned (.int .u8 (firB k l)) ∧ w' = w.alloc (.cells #[.int .i64 k, .int .i64 d, .int .i64 a, .int .i64 b, .int .i64 n, .bool l] 61) := by
  obtain ⟨c1, c2, c3⟩ := ht.op k (by omega) h2
  have z1 := ht.sz
  have z0 : 0 < w.heap.size := by omega
  unfold firB
  cases l
  all_goals
    go_enter Tryd.func111, Tryd.ntmps111
    go_wp2
    go_ret
    exact ⟨by simp, rfl⟩
set_option maxHeartbeats 400000 in
theorem register_any (k d a b n : Int) (l : Bool) (u : Int) (w : World) :
    Calls Tryd.prog 112 #[.agg #[.int .i64 k, .int .i64 d, .int .i64 a, .int .i64 b, .int .i64 n, .bool l], .int .i64 u] w fun e w' => e = .returned (.int .i64 (regOf u d a b)) ∧ w' = w.alloc (.cells #[.int .i64 k, .int .i64 d, .int .i64 a, .int .i64 b, .int .i64 n, .bool l] 61) := by
  by_cases g1 : u = 1
  · have hr : Hid (regOf u d a b = d) := by show _ = _; simp [regOf, g1]
    subst g1
    go_enter Tryd.func112, Tryd.ntmps112
    go_wp2
    go_ret
    exact ⟨by rw [hr.out]; rfl, rfl⟩
  have b1 : (u == 1) = false := by simp [g1]
  by_cases g2 : u = 2
  · have hr : Hid (regOf u d a b = a) := by show _ = _; simp [regOf, g2]
    subst g2
    clear g1 b1
    go_enter Tryd.func112, Tryd.ntmps112
    go_wp2
    go_ret
    exact ⟨by rw [hr.out]; rfl, rfl⟩
  have b2 : (u == 2) = false := by simp [g2]
  by_cases g3 : u = 3
  · have hr : Hid (regOf u d a b = b) := by show _ = _; simp [regOf, g3]
    subst g3
    clear g1 b1 g2 b2
    go_enter Tryd.func112, Tryd.ntmps112
    go_wp2
    go_ret
    exact ⟨by rw [hr.out]; rfl, rfl⟩
  · have b3 : (u == 3) = false := by simp [g3]
    have hr : Hid (regOf u d a b = 0) := by show _ = _; simp [regOf, g1, g2, g3]
    clear g1 g2 g3
    go_enter Tryd.func112, Tryd.ntmps112
    go_wp2
    go_ret
    exact ⟨by rw [hr.out]; rfl, rfl⟩
theorem info5 : (Tryd.prog.info? 5).map (fun i => (i.zero, i.size, i.bytes)) = some (some (.int .u8 0), 1, 1) := by kernel_rfl
end Go.Proofs.YtechpdfcgimkkaaDoor
