/-
  The call of boltholelaw.FlowNexts returns true at every flow and every number.
-/
import Derived.Test.YtebjfgbjmhhccaaWalkNoC
import Derived.Test.YtebjfgbjmhhccaaWalkSiC
namespace Go.Proofs.Ytebjfgbjmhhccaa
open Go.RowKit Go.Joins
set_option maxRecDepth 100000 in
set_option maxHeartbeats 2000000 in
theorem nexts_law (f : Fl) (vB vT vF : Value) (n : Int) (w : World) (hF : FlAt w vB vT vF f) (hs : f.small) (n1 : -9223372036854775808 ≤ n) (n2 : n ≤ 9223372036854775807) :
    Calls Try.prog 3 #[.agg #[vB, vT, vF], .int .i64 n] w fun e w' => e = .returned (.bool true) ∧ Below w.heap.size w w' := by
  have NX : Hid (∀ W, Below w.heap.size w W → Calls Try.prog 6 #[.agg #[vB, vT, vF], .int .i64 n] W fun e w' => ∃ v, e = .returned (.tuple #[v, .int .i64 (nxE f n)]) ∧ w'.ownsRow W.heap.size 3 1 v (nxL f n).length (flat icell (nxL f n)) ∧ Below W.heap.size W w') := fun W hb => nexts_any f vB vT vF n W (hF.stays (Nat.le_refl _) hb) hs
  have NO : Hid (∀ W, Below w.heap.size w W → Calls Try.prog 7 #[.agg #[vB, vT, vF], .int .i64 n] W fun e w' => ∃ v, e = .returned (.tuple #[v, .int .i64 (nxE f n)]) ∧ w'.ownsRow W.heap.size 3 1 v (nxL f n).length (flat icell (nxL f n)) ∧ Below W.heap.size W w') := fun W hb => nextsOf_any f vB vT vF n W (hF.stays (Nat.le_refl _) hb) hs n1 n2
  obtain ⟨us, hBx, -, -⟩ := hF.blocks
  obtain ⟨aB, cB, rfl, -⟩ := hBx.form
  obtain ⟨vs, hTx, -, -⟩ := hF.tables
  obtain ⟨aT, cT, rfl, -⟩ := hTx.form
  obtain ⟨aF, cF, rfl, -⟩ := hF.firsts.form
  clear hF hs hBx hTx
  generalize nxL f n = L at *
  generalize nxE f n = E at *
  go_enter Try.func3, Try.ntmps3
  go_wp2_with fail
  refine Calls.mono (NX.out _ ((Below.refl _ _).alloc (Nat.le_refl _) _)) ?_
  rintro e w2 ⟨v2, rfl, ho2, hb2⟩
  have HB2 : Hid (Below w.heap.size w w2) := ((Below.refl _ _).alloc (Nat.le_refl _) _).trans (hb2.mono (by simp))
  have hc2 : ∀ o, w2.cell? ⟨w.heap.size, o, none⟩ = _ := fun o => hb2.cell (p := ⟨w.heap.size, o, none⟩) (by simp)
  have x0 := hc2 0
  have x1 := hc2 1
  have x2 := hc2 2
  simp at x0 x1 x2
  have H2 : Hid (ListAt w2 icell 1 v2 L) := row_list (fun _ => rfl) ho2
  obtain ⟨a2, n2', c2, rfl⟩ := row_form ho2
  have hz2 : w.heap.size < w2.heap.size := by have := hb2.size; simp at this; omega
  clear hb2 hc2 ho2
  go_wp2_with fail
  refine Calls.mono (NO.out _ HB2.out) ?_
  rintro e w3 ⟨v3, rfl, ho3, hb3⟩
  have H3 : Hid (ListAt w3 icell 1 v3 L) := row_list (fun _ => rfl) ho3
  have H23 : Hid (ListAt w3 icell 1 (.slice a2 n2' c2) L) := ListAt.stays H2.out (Nat.le_refl _) hb3
  have HB3 : Hid (Below w.heap.size w w3) := HB2.out.trans (hb3.mono HB2.out.size)
  obtain ⟨a3, n3, c3, rfl⟩ := row_form ho3
  clear hb3 ho3
  go_wp2_with fail
  refine Calls.mono (sints_any _ _ L w3 H23.out H3.out) ?_
  rintro e w4 ⟨rfl, m, rfl⟩
  go_wp2_with fail
  go_ret
  exact ⟨rfl, below_drewN' HB3.out m⟩
end Go.Proofs.Ytebjfgbjmhhccaa
