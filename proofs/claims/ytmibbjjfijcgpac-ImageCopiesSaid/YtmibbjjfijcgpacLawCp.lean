/-
  The call of boltholelaw.ImageCopies returns true at every image.
-/
import Derived.Test.YtmibbjjfijcgpacWalkCp
import Derived.Test.YtmibbjjfijcgpacWalkSm
namespace Go.Proofs.Ytmibbjjfijcgpac
open Go.RowKit Go.Joins
set_option maxHeartbeats 1000000 in
theorem copies_whole (vT vF vB vD vL : Value) (m : Img) (w : World) (hI : ImgAt w vT vF vB vD vL m) (_hok : m.ok) (hs : m.small) :
    Calls Try.prog 4 #[.agg #[vT, vF, vB, vD, vL, .int .i64 m.entry]] w fun e w' => e = .returned (.bool true) ∧ Below w.heap.size w w' := by
  have HI : Hid (ImgAt w vT vF vB vD vL m) := hI
  have HS : Hid m.small := hs
  clear hI hs _hok
  go_enter Try.func4, Try.ntmps4
  go_wp2_with fail
  have b0 : Below w.heap.size w (w.alloc (.cells #[vT, vF, vB, vD, vL, .int .i64 m.entry] 28)) := (Below.refl _ _).alloc (Nat.le_refl _) _
  refine (copy_any vT vF vB vD vL m _ (HI.out.stays (Nat.le_refl _) b0) HS.out).mono ?_
  rintro e w1 ⟨aT, aF, aB, aD, aL, rfl, hA, hb1⟩
  have x := belc2 hb1 w.heap.size
  have x0 := x 0 (by simp); have x1 := x 1 (by simp); have x2 := x 2 (by simp); have x3 := x 3 (by simp); have x4 := x 4 (by simp); have x5 := x 5 (by simp)
  simp at x0 x1 x2 x3 x4 x5
  have z1 : w.heap.size < w1.heap.size := by have := hb1.size; simp at this; omega
  have B1 : Hid (Below w.heap.size w w1) := b0.trans (hb1.mono (by simp))
  obtain ⟨_, _, rfl, _⟩ := hA.text.form
  obtain ⟨_, _, rfl, _⟩ := hA.funcs.form
  obtain ⟨_, _, rfl, _⟩ := hA.data.form
  obtain ⟨_, _, rfl, _⟩ := hA.lines.form
  obtain ⟨vs, hB, hBl, _⟩ := hA.tables
  obtain ⟨_, _, rfl, _⟩ := hB.form
  clear hB hBl
  have HA : Hid (ImgAt w1 _ _ _ _ _ m) := hA
  clear x hb1 b0 hA
  go_wp2_with (go_at_call 11; refine (sameImage_any _ _ _ _ _ _ _ _ _ _ m _ (HA.out.stays (Nat.le_refl _) ((Below.refl _ _).alloc (Nat.le_refl _) _)) ((HI.out.stays (Nat.le_refl _) B1.out).stays (Nat.le_refl _) ((Below.refl _ _).alloc (Nat.le_refl _) _))).mono ?_; rintro e w2 ⟨rfl, hb2⟩)
  go_ret
  exact ⟨rfl, (B1.out.alloc (by omega) _).trans (hb2.mono (by simp; omega))⟩
end Go.Proofs.Ytmibbjjfijcgpac
