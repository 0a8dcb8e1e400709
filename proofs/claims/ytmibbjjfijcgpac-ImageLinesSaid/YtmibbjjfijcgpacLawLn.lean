/-
  The call of boltholelaw.ImageLines returns true at every image and address.
-/
import Derived.Test.YtmibbjjfijcgpacWalkLn
namespace Go.Proofs.Ytmibbjjfijcgpac
open Go.RowKit Go.Joins
set_option maxHeartbeats 1000000 in
theorem lines_law (vT vF vB vD vL : Value) (en p : Int) (ls : List Ln) (w : World) (hL : ListAt w Ln.cells 2 vL ls) :
    Calls Try.prog 3 #[.agg #[vT, vF, vB, vD, vL, .int .i64 en], .int .i64 p] w fun e w' => e = .returned (.bool true) ∧ Below w.heap.size w w' := by
  have h1 := fun o => lineAt_any vT vF vB vD vL en p ls (w.alloc o) (hL.stays (Nat.le_refl _) ((Below.refl _ _).alloc (Nat.le_refl _) o))
  have h2 := fun o o2 => lineOf_any vT vF vB vD vL en p ls ((w.alloc o).alloc o2) (hL.stays (Nat.le_refl _) (((Below.refl _ _).alloc (Nat.le_refl _) o).alloc (by simp) o2))
  have H1 : Hid _ := h1
  have H2 : Hid _ := h2
  clear h1 h2 hL
  generalize lineOf ls p = r at *
  go_enter Try.func3, Try.ntmps3
  go_wp2_with (first
    | (go_at_call 8; refine (H1.out _).mono ?_; rintro e w1 ⟨rfl, hw1⟩; obtain rfl := hw1.symm)
    | (go_at_call 9; refine (H2.out _ _).mono ?_; rintro e w2 ⟨rfl, hw2⟩; obtain rfl := hw2.symm))
  go_ret
  exact ⟨by simp, by go_grown⟩
theorem lines_whole (vT vF vB vD vL : Value) (m : Img) (p : Int) (w : World) (hI : ImgAt w vT vF vB vD vL m) (_hok : m.ok) (_hp : i64 p) :
    Calls Try.prog 3 #[.agg #[vT, vF, vB, vD, vL, .int .i64 m.entry], .int .i64 p] w fun e w' => e = .returned (.bool true) ∧ Below w.heap.size w w' :=
  lines_law vT vF vB vD vL m.entry p m.lines w hI.lines
end Go.Proofs.Ytmibbjjfijcgpac
