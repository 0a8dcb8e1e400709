/-
  package step: one step, plain.
-/
import Derived.Test.YtechpdfcgimkkaaDoorMcKit
import Derived.Test.YtechpdfcgimkkaaDoorPureEn
namespace Go.Proofs.YtechpdfcgimkkaaDoor
open Go.RowKit Go.Joins Isa
def RegsOk (rs : List Vl) : Prop := ∀ v ∈ rs, -1099511627776 ≤ v.n ∧ v.n ≤ 1099511627776
def BdOk (d a b n pc sz : Int) : Prop := 0 ≤ d ∧ d < 8 ∧ 0 ≤ a ∧ a < 8 ∧ 0 ≤ b ∧ b < 8 ∧ -32768 ≤ n ∧ n ≤ 32767 ∧ 0 ≤ pc ∧ pc ≤ 140737488355328 ∧ 0 ≤ sz ∧ sz ≤ 10
/-- One step: P3.3. -/
def doS (tabs : List (List Int)) (s : Mc) (k d a b n sz : Int) : Mc :=
  let va := (s.rs.getD a.toNat ⟨0, false⟩).n
  let vb := (s.rs.getD b.toNat ⟨0, false⟩).n
  if k = 5 then ⟨s.rs.set d.toNat ⟨n, false⟩, s.mem, s.ins, s.told, s.pc + sz⟩
  else if k = 6 then ⟨s.rs.set d.toNat ⟨foldN (va + n), false⟩, s.mem, s.ins, s.told, s.pc + sz⟩
  else if opB k then ⟨s.rs.set d.toNat ⟨operN k va vb, false⟩, s.mem, s.ins, s.told, s.pc + sz⟩
  else if k = 14 then ⟨s.rs.set d.toNat (s.mem.getD (va + n).toNat ⟨0, false⟩), s.mem, s.ins, s.told, s.pc + sz⟩
  else if k = 15 then ⟨s.rs, s.mem.set (va + n).toNat (s.rs.getD b.toNat ⟨0, false⟩), s.ins, s.told, s.pc + sz⟩
  else if k = 16 then ⟨s.rs.set d.toNat ⟨s.ins.headD 0, false⟩, s.mem, s.ins.tail, s.told, s.pc + sz⟩
  else if k = 17 then ⟨s.rs, s.mem, s.ins, s.told ++ [va], s.pc + sz⟩
  else if brB k && !takenB k va vb then ⟨s.rs, s.mem, s.ins, s.told, s.pc + sz⟩
  else if brB k || k == 22 then ⟨s.rs, s.mem, s.ins, s.told, s.pc + n⟩
  else if k = 23 then ⟨s.rs.set 7 ⟨s.pc + sz, true⟩, s.mem, s.ins, s.told, s.pc + n⟩
  else if k = 3 then ⟨s.rs, s.mem, s.ins, s.told, (s.rs.getD 7 ⟨0, false⟩).n⟩
  else if k = 24 then ⟨s.rs, s.mem, s.ins, s.told, (tabs.getD n.toNat []).getD va.toNat 0⟩
  else ⟨s.rs, s.mem, s.ins, s.told, s.pc + sz⟩
set_option maxHeartbeats 400000 in
theorem number_x (n : Int) (w : World) : Calls Tryd.prog 92 #[.int .i64 n] w fun e w' => e = .returned (.agg #[.int .i64 n, .bool false]) ∧ w' = w.alloc (.cells #[.int .i64 n, .bool false] 101) := by
  go_enter Tryd.func92, Tryd.ntmps92
  go_wp2
  go_returns
  exact ⟨rfl, rfl⟩
set_option maxHeartbeats 400000 in
theorem address_x (n : Int) (w : World) : Calls Tryd.prog 105 #[.int .i64 n] w fun e w' => e = .returned (.agg #[.int .i64 n, .bool true]) ∧ w' = w.alloc (.cells #[.int .i64 n, .bool true] 101) := by
  go_enter Tryd.func105, Tryd.ntmps105
  go_wp2
  go_returns
  exact ⟨rfl, rfl⟩
set_option maxHeartbeats 400000 in
theorem next_none (gm : Nat) (vI : Value) (w : World) (h : w.cell? ⟨gm, 18, none⟩ = some vI) (hv : ∃ a c, vI = .slice a 0 c) : Calls Tryd.prog 102 #[.pointer (some ⟨gm, 0, none⟩)] w fun e w' => e = .returned (.int .i64 0) ∧ w' = w := by
  obtain ⟨a, c, rfl⟩ := hv
  go_enter Tryd.func102, Tryd.ntmps102
  go_wp2
  go_ret
  exact ⟨rfl, rfl⟩
set_option maxHeartbeats 400000 in
theorem next_some (gm bb oo len cap : Nat) (x : Int) (w : World) (h : w.cell? ⟨gm, 18, none⟩ = some (.slice (some ⟨bb, oo, none⟩) (len + 1) cap)) (hx : w.cell? ⟨bb, oo, none⟩ = some (.int .i64 x)) (hf : ∀ o, w.frozen? ⟨gm, o, none⟩ = false) (_hc : len + 1 ≤ cap) (_hg : gm < w.heap.size) : Calls Tryd.prog 102 #[.pointer (some ⟨gm, 0, none⟩)] w fun e w' => e = .returned (.int .i64 x) ∧ w' = w.setCell ⟨gm, 18, none⟩ (.slice (if cap = 1 then some ⟨bb, oo, none⟩ else some ⟨bb, oo + 1, none⟩) len (cap - 1)) := by
  have h0 : (((len + 1 : Nat) : Int) == 0) = false := by simp; omega
  have h1 : ((len : Int) + 1 == 0) = false := by simp; omega
  have h2 : (1 : Int) ≤ ((len + 1 : Nat) : Int) := by omega
  have hf' := hf 18
  clear hf
  go_enter Tryd.func102, Tryd.ntmps102
  go_wp2
  all_goals
    go_ret
    exact ⟨rfl, rfl⟩
theorem ins_tail {w0 : World} {vI : Value} {x : Int} {xs : List Int} {bb oo cap : Nat} (h : ListAt w0 icell 1 vI (x :: xs)) (hv : vI = .slice (some ⟨bb, oo, none⟩) (xs.length + 1) cap) : ListAt w0 icell 1 (.slice (if cap = 1 then some ⟨bb, oo, none⟩ else some ⟨bb, oo + 1, none⟩) xs.length (cap - 1)) xs := by
  subst hv
  rcases h with ⟨_, _, _, h0⟩ | ⟨b2, o2, c2, hv, h1, h2, h3, h4⟩
  · cases h0
  · cases hv
    cases xs with
    | nil => exact Or.inl ⟨_, _, rfl, rfl⟩
    | cons y ys =>
      simp only [List.length_cons] at *
      rw [if_neg (by omega)]
      refine Or.inr ⟨bb, oo + 1, cap - 1, rfl, by simp only [List.length_cons]; omega, by omega, h3, fun j z hz o u hu => ?_⟩
      have := h4 (j + 1) z (by simpa using hz) o u hu
      rw [Nat.mul_one] at *
      rw [show oo + 1 + j + o = oo + (j + 1) + o by omega]
      exact this
end Go.Proofs.YtechpdfcgimkkaaDoor
