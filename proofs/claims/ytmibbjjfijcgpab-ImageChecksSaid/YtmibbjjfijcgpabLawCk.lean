/-
  The call of boltholelaw.ImageChecks returns true at every image.
-/
import Derived.Test.YtmibbjjfijcgpabWalkFt
namespace Go.Proofs.Ytmibbjjfijcgpab
open Go.RowKit Go.Joins
set_option maxHeartbeats 1000000 in
theorem checks_whole (vT vF vB vD vL : Value) (m : Img) (w : World) (hI : ImgAt w vT vF vB vD vL m) (hok : m.ok) :
    Calls Try.prog 3 #[.agg #[vT, vF, vB, vD, vL, .int .i64 m.entry]] w fun e w' => e = .returned (.bool true) ∧ Below w.heap.size w w' := by
  obtain ⟨W1, hW1⟩ : ∃ W1, w.alloc (.cells #[vT, vF, vB, vD, vL, .int .i64 m.entry] 28) = W1 := ⟨_, rfl⟩
  have b0 : Below w.heap.size w W1 := by rw [← hW1]; exact (Below.refl _ _).alloc (Nat.le_refl _) _
  have B0 : Hid (Below w.heap.size w W1) := b0
  have hz : W1.heap.size = w.heap.size + 1 := by rw [← hW1]; simp
  have X : ∀ o, o < 6 → W1.cell? ⟨w.heap.size, o, none⟩ = #[vT, vF, vB, vD, vL, .int .i64 m.entry][o]? := fun o ho => by rw [← hW1]; exact World.cell?_alloc_new _ _ _ _
  have x0 := X 0 (by omega); have x1 := X 1 (by omega); have x2 := X 2 (by omega); have x3 := X 3 (by omega); have x4 := X 4 (by omega); have x5 := X 5 (by omega)
  simp at x0 x1 x2 x3 x4 x5
  have X0 : Hid _ := x0; have X1 : Hid _ := x1; have X2 : Hid _ := x2; have X3 : Hid _ := x3; have X4 : Hid _ := x4; have X5 : Hid _ := x5
  have HI : Hid (ImgAt w vT vF vB vD vL m) := hI
  have HO : Hid m.ok := hok
  have HW : Hid _ := hW1
  clear b0 hW1 hI hok X x0 x1 x2 x3 x4 x5
  go_enter Try.func3, Try.ntmps3
  go_wp2_with fail
  rw [HW.out]
  refine (check_any vT vF vB vD vL m W1 (HI.out.stays (Nat.le_refl _) B0.out) HO.out).mono ?_
  rintro e w1 ⟨rfl, hb1⟩
  have y := belc hb1 w.heap.size
  have y0 := (y 0 (by omega)).trans X0.out; have y1 := (y 1 (by omega)).trans X1.out; have y2 := (y 2 (by omega)).trans X2.out; have y3 := (y 3 (by omega)).trans X3.out; have y4 := (y 4 (by omega)).trans X4.out; have y5 := (y 5 (by omega)).trans X5.out
  clear y
  have B1 : Hid (Below w.heap.size w w1) := B0.out.trans (hb1.mono (by omega))
  have z1 : w.heap.size < w1.heap.size := by have := hb1.size; omega
  clear hb1
  go_wp2_with (go_at_call 5; refine (fault_any vT vF vB vD vL m w1 (HI.out.stays (Nat.le_refl _) B1.out) HO.out).mono ?_; rintro e w2 ⟨rfl, hb2⟩)
  go_ret
  exact ⟨by simp, B1.out.trans (hb2.mono (by omega))⟩
end Go.Proofs.Ytmibbjjfijcgpab
