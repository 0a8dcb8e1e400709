/-
  isa.withOperands, a way through a theorem.
-/
import Derived.Test.YtechpdfcgimkkaaDoorWalkDC
import Derived.Deep.DeepCutAuto
namespace Go.Proofs.YtechpdfcgimkkaaDoor
open Go.RowKit Go.Joins Isa
set_option maxHeartbeats 2000000 in
theorem wo_L1 (k : Int) (l : Bool) (w : World) (h1 : 1 ≤ k) (h2 : k ≤ 24) (ht : Tabs w) (bb oo cap : Nat) (hb : bb < w.heap.size) (p q : Int) (hp : w.cell? ⟨bb, oo, none⟩ = some (.int .u8 p)) (_p0 : 0 ≤ p) (_p1 : p ≤ 255) (hq : w.cell? ⟨bb, oo + 1, none⟩ = some (.int .u8 q)) (_q0 : 0 ≤ q) (_q1 : q ≤ 255) (hU : (kU k == 0) = true) (hL : (kL k == 0) = false) (hT : (kT k == 0) = true) (hw : wid k l = 1) :
    Calls Tryd.prog 95 #[.agg #[.int .i64 k, .int .i64 0, .int .i64 0, .int .i64 0, .int .i64 0, .bool l], .slice (some ⟨bb, oo, none⟩) 2 cap] w fun e w' =>
      e = .returned (.agg #[.int .i64 k, .int .i64 (setD (kL k) p 0), .int .i64 (setA (kL k) p 0), .int .i64 (setB (kL k) p 0), .int .i64 (sgn q 1), .bool l]) ∧ Below w.heap.size w w' := by
  obtain ⟨c1, c2, c3⟩ := ht.op k (by omega) h2
  obtain ⟨c4, c5, c6, c7⟩ := ht.sh k (by omega) h2
  have z1 := ht.sz
  have z0 : 0 < w.heap.size := by omega
  have s1 := opS_lo h1 h2
  have s2 := opS_hi h1 h2
  have hb1 : bb < w.heap.size + 1 := by omega
  have hb2 : bb < w.heap.size + 1 + 1 := by omega
  have hb3 : bb < w.heap.size + 1 + 1 + 1 := by omega
  have hb4 : bb < w.heap.size + 1 + 1 + 1 + 1 := by omega
  have hb5 : bb < w.heap.size + 1 + 1 + 1 + 1 + 1 := by omega
  have hb6 : bb < w.heap.size + 1 + 1 + 1 + 1 + 1 + 1 := by omega
  have hb7 : bb < w.heap.size + 1 + 1 + 1 + 1 + 1 + 1 + 1 := by omega
  have hb8 : bb < w.heap.size + 1 + 1 + 1 + 1 + 1 + 1 + 1 + 1 := by omega
  have hb9 : bb < w.heap.size + 1 + 1 + 1 + 1 + 1 + 1 + 1 + 1 + 1 := by omega
  have hb10 : bb < w.heap.size + 1 + 1 + 1 + 1 + 1 + 1 + 1 + 1 + 1 + 1 := by omega
  have hb11 : bb < w.heap.size + 1 + 1 + 1 + 1 + 1 + 1 + 1 + 1 + 1 + 1 + 1 := by omega
  have hb12 : bb < w.heap.size + 1 + 1 + 1 + 1 + 1 + 1 + 1 + 1 + 1 + 1 + 1 + 1 := by omega
  have hb13 : bb < w.heap.size + 1 + 1 + 1 + 1 + 1 + 1 + 1 + 1 + 1 + 1 + 1 + 1 + 1 := by omega
  go_enter Tryd.func95, Tryd.ntmps95
  go_wp2_with fail
  go_cut [] (fun wc => wc = (((((((w.alloc (.cells #[.int .i64 k, .int .i64 (setD (kL k) p 0), .int .i64 (setA (kL k) p 0), .int .i64 (setB (kL k) p 0), .int .i64 0, .bool l] 61)).alloc (.cells #[.slice (some ⟨bb, oo, none⟩) 2 cap] 23)).alloc (.cells #[.int .i64 0, .int .i64 0, .int .i64 0, .int .i64 0, .int .i64 0, .bool false] 61)).alloc (.cells #[.int .i64 1] 3)).alloc (.cells #[.int .i64 (kU k), .int .i64 (kL k), .int .i64 (kT k), .int .i64 (kW k)] 147)).alloc (.cells #[.int .i64 k, .int .i64 (setD (kL k) p 0), .int .i64 (setA (kL k) p 0), .int .i64 (setB (kL k) p 0), .int .i64 0, .bool l] 61)).alloc (.cells #[.int .i64 k, .int .i64 (setD (kL k) p 0), .int .i64 (setA (kL k) p 0), .int .i64 (setB (kL k) p 0), .int .i64 0, .bool l] 61)).drew)
  case first =>
    go_region_with (first | (go_at_call 116; refine (num1 _ _ bb oo 2 cap 0 p _ (by (go_light; first | (simp [go_sem]; done) | (simp [go_sem, *]; done))) (by (go_light; first | (simp [go_sem]; done) | (simp [go_sem, *]; done))) (by (go_light; first | (simp [go_sem]; done) | (simp [go_sem, *]; done))) (by omega) (by omega) (by (go_light; first | (simp [go_sem]; done) | (simp [go_sem, *]; done))) (by assumption) (by assumption)).mono ?_; rintro e w1 ⟨rfl, rfl⟩) | (go_at_call 117; refine (withreg_any _ _ _ _ _ _ _ _ _).mono ?_; rintro e w1 ⟨rfl, rfl⟩))
    all_goals
      go_wp2
      go_meet
      case rel => rfl
  obtain rfl := hcut
  go_wp2_with fail
  refine (width_any k _ _ _ _ l _ h1 h2 (ht.below ht.sz (by go_grown))).mono ?_
  rintro e w1 ⟨rfl, rfl⟩
  go_wp2_with fail
  refine (num1 _ _ bb oo 2 cap 1 q _ ?_ ?_ ?_ (by omega) (by omega) ?_ (by assumption) (by assumption)).mono ?_
  · (go_light; first | (simp [go_sem]; done) | (simp [go_sem, *]; done))
  · (go_light; first | (simp [go_sem]; done) | (simp [go_sem, *]; done))
  · (go_light; first | (simp [go_sem]; done) | (simp [go_sem, *]; done))
  · (go_light; first | (simp [go_sem]; done) | (simp [go_sem, *]; done))
  rintro e w1 ⟨rfl, rfl⟩
  go_wp2_with fail
  refine (signed_any _ _ _ (by omega) (by omega)).mono ?_
  rintro e w1 ⟨rfl, rfl⟩
  go_wp2
  go_returns
  exact ⟨rfl, by go_grown⟩
end Go.Proofs.YtechpdfcgimkkaaDoor
/-
  isa.withOperands, a way through a theorem.
-/
namespace Go.Proofs.YtechpdfcgimkkaaDoor
open Go.RowKit Go.Joins Isa
set_option maxHeartbeats 2000000 in
theorem wo_L2 (k : Int) (l : Bool) (w : World) (h1 : 1 ≤ k) (h2 : k ≤ 24) (ht : Tabs w) (bb oo cap : Nat) (hb : bb < w.heap.size) (p q r : Int) (hp : w.cell? ⟨bb, oo, none⟩ = some (.int .u8 p)) (_p0 : 0 ≤ p) (_p1 : p ≤ 255) (hq : w.cell? ⟨bb, oo + 1, none⟩ = some (.int .u8 q)) (_q0 : 0 ≤ q) (_q1 : q ≤ 255) (hr : w.cell? ⟨bb, oo + 2, none⟩ = some (.int .u8 r)) (_r0 : 0 ≤ r) (_r1 : r ≤ 255) (hU : (kU k == 0) = true) (hL : (kL k == 0) = false) (hT : (kT k == 0) = true) (hw : wid k l = 2) :
    Calls Tryd.prog 95 #[.agg #[.int .i64 k, .int .i64 0, .int .i64 0, .int .i64 0, .int .i64 0, .bool l], .slice (some ⟨bb, oo, none⟩) 3 cap] w fun e w' =>
      e = .returned (.agg #[.int .i64 k, .int .i64 (setD (kL k) p 0), .int .i64 (setA (kL k) p 0), .int .i64 (setB (kL k) p 0), .int .i64 (sgn (q + r * 256) 2), .bool l]) ∧ Below w.heap.size w w' := by
  obtain ⟨c1, c2, c3⟩ := ht.op k (by omega) h2
  obtain ⟨c4, c5, c6, c7⟩ := ht.sh k (by omega) h2
  have z1 := ht.sz
  have z0 : 0 < w.heap.size := by omega
  have s1 := opS_lo h1 h2
  have s2 := opS_hi h1 h2
  have hb1 : bb < w.heap.size + 1 := by omega
  have hb2 : bb < w.heap.size + 1 + 1 := by omega
  have hb3 : bb < w.heap.size + 1 + 1 + 1 := by omega
  have hb4 : bb < w.heap.size + 1 + 1 + 1 + 1 := by omega
  have hb5 : bb < w.heap.size + 1 + 1 + 1 + 1 + 1 := by omega
  have hb6 : bb < w.heap.size + 1 + 1 + 1 + 1 + 1 + 1 := by omega
  have hb7 : bb < w.heap.size + 1 + 1 + 1 + 1 + 1 + 1 + 1 := by omega
  have hb8 : bb < w.heap.size + 1 + 1 + 1 + 1 + 1 + 1 + 1 + 1 := by omega
  have hb9 : bb < w.heap.size + 1 + 1 + 1 + 1 + 1 + 1 + 1 + 1 + 1 := by omega
  have hb10 : bb < w.heap.size + 1 + 1 + 1 + 1 + 1 + 1 + 1 + 1 + 1 + 1 := by omega
  have hb11 : bb < w.heap.size + 1 + 1 + 1 + 1 + 1 + 1 + 1 + 1 + 1 + 1 + 1 := by omega
  have hb12 : bb < w.heap.size + 1 + 1 + 1 + 1 + 1 + 1 + 1 + 1 + 1 + 1 + 1 + 1 := by omega
  have hb13 : bb < w.heap.size + 1 + 1 + 1 + 1 + 1 + 1 + 1 + 1 + 1 + 1 + 1 + 1 + 1 := by omega
  go_enter Tryd.func95, Tryd.ntmps95
  go_wp2_with fail
  go_cut [] (fun wc => wc = (((((((w.alloc (.cells #[.int .i64 k, .int .i64 (setD (kL k) p 0), .int .i64 (setA (kL k) p 0), .int .i64 (setB (kL k) p 0), .int .i64 0, .bool l] 61)).alloc (.cells #[.slice (some ⟨bb, oo, none⟩) 3 cap] 23)).alloc (.cells #[.int .i64 0, .int .i64 0, .int .i64 0, .int .i64 0, .int .i64 0, .bool false] 61)).alloc (.cells #[.int .i64 1] 3)).alloc (.cells #[.int .i64 (kU k), .int .i64 (kL k), .int .i64 (kT k), .int .i64 (kW k)] 147)).alloc (.cells #[.int .i64 k, .int .i64 (setD (kL k) p 0), .int .i64 (setA (kL k) p 0), .int .i64 (setB (kL k) p 0), .int .i64 0, .bool l] 61)).alloc (.cells #[.int .i64 k, .int .i64 (setD (kL k) p 0), .int .i64 (setA (kL k) p 0), .int .i64 (setB (kL k) p 0), .int .i64 0, .bool l] 61)).drew)
  case first =>
    go_region_with (first | (go_at_call 116; refine (num1 _ _ bb oo 3 cap 0 p _ (by (go_light; first | (simp [go_sem]; done) | (simp [go_sem, *]; done))) (by (go_light; first | (simp [go_sem]; done) | (simp [go_sem, *]; done))) (by (go_light; first | (simp [go_sem]; done) | (simp [go_sem, *]; done))) (by omega) (by omega) (by (go_light; first | (simp [go_sem]; done) | (simp [go_sem, *]; done))) (by assumption) (by assumption)).mono ?_; rintro e w1 ⟨rfl, rfl⟩) | (go_at_call 117; refine (withreg_any _ _ _ _ _ _ _ _ _).mono ?_; rintro e w1 ⟨rfl, rfl⟩))
    all_goals
      go_wp2
      go_meet
      case rel => rfl
  obtain rfl := hcut
  go_wp2_with fail
  refine (width_any k _ _ _ _ l _ h1 h2 (ht.below ht.sz (by go_grown))).mono ?_
  rintro e w1 ⟨rfl, rfl⟩
  go_wp2_with fail
  refine (num2 _ _ bb oo 3 cap 1 q r _ ?_ ?_ ?_ (by omega) (by omega) ?_ ?_ (by assumption) (by assumption) (by assumption) (by assumption) (by omega) (by omega)).mono ?_
  · (go_light; first | (simp [go_sem]; done) | (simp [go_sem, *]; done))
  · (go_light; first | (simp [go_sem]; done) | (simp [go_sem, *]; done))
  · (go_light; first | (simp [go_sem]; done) | (simp [go_sem, *]; done))
  · (go_light; first | (simp [go_sem]; done) | (simp [go_sem, *]; done))
  · (go_light; first | (simp [go_sem]; done) | (simp [go_sem, *]; done))
  rintro e w1 ⟨rfl, rfl⟩
  go_wp2_with fail
  refine (signed_any _ _ _ (by omega) (by omega)).mono ?_
  rintro e w1 ⟨rfl, rfl⟩
  go_wp2
  go_returns
  exact ⟨rfl, by go_grown⟩
end Go.Proofs.YtechpdfcgimkkaaDoor
/-
  isa.withOperands, a way through a theorem.
-/
namespace Go.Proofs.YtechpdfcgimkkaaDoor
open Go.RowKit Go.Joins Isa
set_option maxHeartbeats 2000000 in
theorem wo_T0 (k : Int) (l : Bool) (w : World) (h1 : 1 ≤ k) (h2 : k ≤ 24) (ht : Tabs w) (bb oo cap : Nat) (hb : bb < w.heap.size) (p q : Int) (hp : w.cell? ⟨bb, oo, none⟩ = some (.int .u8 p)) (_p0 : 0 ≤ p) (_p1 : p ≤ 255) (hq : w.cell? ⟨bb, oo + 1, none⟩ = some (.int .u8 q)) (_q0 : 0 ≤ q) (_q1 : q ≤ 255) (hU : (kU k == 0) = false) (hT : (kT k == 0) = false) (hw : wid k l = 0) :
    Calls Tryd.prog 95 #[.agg #[.int .i64 k, .int .i64 0, .int .i64 0, .int .i64 0, .int .i64 0, .bool l], .slice (some ⟨bb, oo, none⟩) 2 cap] w fun e w' =>
      e = .returned (.agg #[.int .i64 k, .int .i64 (setD (kT k) q (setD (kL k) (p % 16) (setD (kU k) (p / 16) 0))), .int .i64 (setA (kT k) q (setA (kL k) (p % 16) (setA (kU k) (p / 16) 0))), .int .i64 (setB (kT k) q (setB (kL k) (p % 16) (setB (kU k) (p / 16) 0))), .int .i64 (sgn 0 0), .bool l]) ∧ Below w.heap.size w w' := by
  obtain ⟨c1, c2, c3⟩ := ht.op k (by omega) h2
  obtain ⟨c4, c5, c6, c7⟩ := ht.sh k (by omega) h2
  have z1 := ht.sz
  have z0 : 0 < w.heap.size := by omega
  have s1 := opS_lo h1 h2
  have s2 := opS_hi h1 h2
  have hb1 : bb < w.heap.size + 1 := by omega
  have hb2 : bb < w.heap.size + 1 + 1 := by omega
  have hb3 : bb < w.heap.size + 1 + 1 + 1 := by omega
  have hb4 : bb < w.heap.size + 1 + 1 + 1 + 1 := by omega
  have hb5 : bb < w.heap.size + 1 + 1 + 1 + 1 + 1 := by omega
  have hb6 : bb < w.heap.size + 1 + 1 + 1 + 1 + 1 + 1 := by omega
  have hb7 : bb < w.heap.size + 1 + 1 + 1 + 1 + 1 + 1 + 1 := by omega
  have hb8 : bb < w.heap.size + 1 + 1 + 1 + 1 + 1 + 1 + 1 + 1 := by omega
  have hb9 : bb < w.heap.size + 1 + 1 + 1 + 1 + 1 + 1 + 1 + 1 + 1 := by omega
  have hb10 : bb < w.heap.size + 1 + 1 + 1 + 1 + 1 + 1 + 1 + 1 + 1 + 1 := by omega
  have hb11 : bb < w.heap.size + 1 + 1 + 1 + 1 + 1 + 1 + 1 + 1 + 1 + 1 + 1 := by omega
  have hb12 : bb < w.heap.size + 1 + 1 + 1 + 1 + 1 + 1 + 1 + 1 + 1 + 1 + 1 + 1 := by omega
  have hb13 : bb < w.heap.size + 1 + 1 + 1 + 1 + 1 + 1 + 1 + 1 + 1 + 1 + 1 + 1 + 1 := by omega
  go_enter Tryd.func95, Tryd.ntmps95
  go_wp2_with fail
  refine (num1 _ _ bb oo 2 cap 0 p _ ?_ ?_ ?_ (by omega) (by omega) ?_ (by assumption) (by assumption)).mono ?_
  · (go_light; first | (simp [go_sem]; done) | (simp [go_sem, *]; done))
  · (go_light; first | (simp [go_sem]; done) | (simp [go_sem, *]; done))
  · (go_light; first | (simp [go_sem]; done) | (simp [go_sem, *]; done))
  · (go_light; first | (simp [go_sem]; done) | (simp [go_sem, *]; done))
  rintro e w1 ⟨rfl, rfl⟩
  go_wp2_with fail
  refine (withreg_any _ _ _ _ _ _ _ _ _).mono ?_
  rintro e w1 ⟨rfl, rfl⟩
  go_wp2_with fail
  refine (withreg_any _ _ _ _ _ _ _ _ _).mono ?_
  rintro e w1 ⟨rfl, rfl⟩
  go_wp2_with fail
  go_cut [] (fun wc => wc = (((((((((((w.alloc (.cells #[.int .i64 k, .int .i64 (setD (kT k) q (setD (kL k) (p % 16) (setD (kU k) (p / 16) 0))), .int .i64 (setA (kT k) q (setA (kL k) (p % 16) (setA (kU k) (p / 16) 0))), .int .i64 (setB (kT k) q (setB (kL k) (p % 16) (setB (kU k) (p / 16) 0))), .int .i64 0, .bool l] 61)).alloc (.cells #[.slice (some ⟨bb, oo, none⟩) 2 cap] 23)).alloc (.cells #[.int .i64 0, .int .i64 0, .int .i64 0, .int .i64 0, .int .i64 0, .bool false] 61)).alloc (.cells #[.int .i64 2] 3)).alloc (.cells #[.int .i64 (kU k), .int .i64 (kL k), .int .i64 (kT k), .int .i64 (kW k)] 147)).alloc (.cells #[.int .i64 k, .int .i64 (setD (kU k) (p / 16) 0), .int .i64 (setA (kU k) (p / 16) 0), .int .i64 (setB (kU k) (p / 16) 0), .int .i64 0, .bool l] 61)).alloc (.cells #[.int .i64 k, .int .i64 (setD (kU k) (p / 16) 0), .int .i64 (setA (kU k) (p / 16) 0), .int .i64 (setB (kU k) (p / 16) 0), .int .i64 0, .bool l] 61)).alloc (.cells #[.int .i64 k, .int .i64 (setD (kL k) (p % 16) (setD (kU k) (p / 16) 0)), .int .i64 (setA (kL k) (p % 16) (setA (kU k) (p / 16) 0)), .int .i64 (setB (kL k) (p % 16) (setB (kU k) (p / 16) 0)), .int .i64 0, .bool l] 61)).alloc (.cells #[.int .i64 k, .int .i64 (setD (kL k) (p % 16) (setD (kU k) (p / 16) 0)), .int .i64 (setA (kL k) (p % 16) (setA (kU k) (p / 16) 0)), .int .i64 (setB (kL k) (p % 16) (setB (kU k) (p / 16) 0)), .int .i64 0, .bool l] 61)).alloc (.cells #[.int .i64 k, .int .i64 (setD (kT k) q (setD (kL k) (p % 16) (setD (kU k) (p / 16) 0))), .int .i64 (setA (kT k) q (setA (kL k) (p % 16) (setA (kU k) (p / 16) 0))), .int .i64 (setB (kT k) q (setB (kL k) (p % 16) (setB (kU k) (p / 16) 0))), .int .i64 0, .bool l] 61)).alloc (.cells #[.int .i64 k, .int .i64 (setD (kT k) q (setD (kL k) (p % 16) (setD (kU k) (p / 16) 0))), .int .i64 (setA (kT k) q (setA (kL k) (p % 16) (setA (kU k) (p / 16) 0))), .int .i64 (setB (kT k) q (setB (kL k) (p % 16) (setB (kU k) (p / 16) 0))), .int .i64 0, .bool l] 61)).drew)
  case first =>
    go_region_with (first | (go_at_call 116; refine (num1 _ _ bb oo 2 cap 1 q _ (by (go_light; first | (simp [go_sem]; done) | (simp [go_sem, *]; done))) (by (go_light; first | (simp [go_sem]; done) | (simp [go_sem, *]; done))) (by (go_light; first | (simp [go_sem]; done) | (simp [go_sem, *]; done))) (by omega) (by omega) (by (go_light; first | (simp [go_sem]; done) | (simp [go_sem, *]; done))) (by assumption) (by assumption)).mono ?_; rintro e w1 ⟨rfl, rfl⟩) | (go_at_call 117; refine (withreg_any _ _ _ _ _ _ _ _ _).mono ?_; rintro e w1 ⟨rfl, rfl⟩))
    all_goals
      go_wp2
      go_meet
      case rel => rfl
  obtain rfl := hcut
  go_wp2_with fail
  refine (width_any k _ _ _ _ l _ h1 h2 (ht.below ht.sz (by go_grown))).mono ?_
  rintro e w1 ⟨rfl, rfl⟩
  go_wp2_with fail
  refine (num0 _ _ _).mono ?_
  rintro e w1 ⟨rfl, rfl⟩
  go_wp2_with fail
  refine (signed_any _ _ _ (by omega) (by omega)).mono ?_
  rintro e w1 ⟨rfl, rfl⟩
  go_wp2
  go_returns
  exact ⟨rfl, by go_grown⟩
end Go.Proofs.YtechpdfcgimkkaaDoor
