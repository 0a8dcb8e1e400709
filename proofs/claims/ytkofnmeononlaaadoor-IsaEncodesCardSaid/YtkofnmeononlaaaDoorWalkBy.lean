/-
  boltholeref.BytesOf: its helper, and its beginning.
-/
import Derived.Test.YtkofnmeononlaaaDoorWalkE2
import Derived.Test.YtkofnmeononlaaaDoorWalkB2
import Derived.Deep.AppendLies
namespace Go.Proofs.YtkofnmeononlaaaDoor
open Go.RowKit Go.Joins Isa
theorem tmod_twice (x m : Int) (h : 0 < m) : (x.tmod m + m).tmod m = x % m := by
  rcases Int.le_total 0 x with hx | hx
  · rw [Int.tmod_eq_emod_of_nonneg hx, Int.tmod_eq_emod_of_nonneg (by have := Int.emod_nonneg x (by omega : m ≠ 0); omega)]
    simp
  · obtain ⟨y, rfl⟩ : ∃ y, x = -y := ⟨-x, by omega⟩
    rw [Int.neg_tmod, Int.tmod_eq_emod_of_nonneg (by omega : 0 ≤ y)]
    have h1 := Int.emod_nonneg y (by omega : m ≠ 0)
    have h2 := Int.emod_lt_of_pos y h
    rw [Int.tmod_eq_emod_of_nonneg (by omega)]
    have e : -(y % m) + m = -y + m * (y / m + 1) := by
      have := Int.mul_ediv_add_emod y m
      rw [Int.mul_add, Int.mul_one]; omega
    rw [e, Int.add_mul_emod_self_left]
set_option maxHeartbeats 400000 in
theorem wrap_any (x m : Int) (w : World) (h0 : 0 < m) (h1 : m ≤ 65536) : Calls Tryd.prog 31 #[.int .i64 x, .int .i64 m] w fun e w' => e = .returned (.int .i64 (x % m)) ∧ w' = w := by
  have t1 : x.tmod m < m := by
    have := Int.tmod_lt_of_pos x h0; exact this
  have t2 : -m < x.tmod m := by
    have := Int.tmod_lt_of_pos (-x) h0
    rw [Int.neg_tmod] at this; omega
  have hm : (m == 0) = false := by simp; omega
  go_enter Tryd.func31, Tryd.ntmps31
  go_wp2
  go_ret
  refine ⟨congrArg (fun y => Ending.returned (Value.int .i64 y)) ?_, rfl⟩
  have h2 : 0 ≤ x.tmod m + m := by omega
  exact (Int.tmod_eq_emod_of_nonneg h2).symm.trans (tmod_twice x m h0)
theorem news_at (w : World) (vs : List Value) (t : TypeId) (B : Nat) (hB : B = w.heap.size) : ∀ j u, vs[j]? = some u → (w.alloc (.cells vs.toArray t)).cell? ((⟨B, 0, none⟩ : Addr).add j) = some u := by
  subst hB
  intro j u hj
  rw [Addr.add_lit, Nat.zero_add, World.cell?_alloc_new]
  simpa using hj
theorem long_far {w w' w5 : World} {I : Array Value} {t : TypeId} {o1 o2 : Obj} {g : Nat} (hb : Below (w.alloc (.cells I t)).heap.size (w.alloc (.cells I t)) w') (gr : ((w'.alloc o1).alloc o2).grownBy w5 (some g)) (hg : w'.heap.size ≤ g) (j : Nat) : w5.cell? ⟨w.heap.size, j, none⟩ = I[j]? := by
  have z1 : w.heap.size < w'.heap.size := by have := hb.size; simp at this; omega
  rw [gr.cell_far ⟨_, _, none⟩ (by show w.heap.size < _; simp; omega) (by simp; omega), World.cell?_alloc_past _ _ _ (by simp; omega), World.cell?_alloc_past _ _ _ z1, hb.cell (p := ⟨_, _, none⟩) (by show w.heap.size < _; simp)]
  exact World.cell?_alloc_new _ _ _ _
theorem bytes_one (ns : List Int) : ∀ u ∈ ns.map (Value.int .u8), u.oneCell' = true := ints_oneCell .u8 ns
theorem ints_eq {x y : List Int} (h : x = y) : x.map (Value.int .u8) = y.map (Value.int .u8) := by rw [h]
end Go.Proofs.YtkofnmeononlaaaDoor
