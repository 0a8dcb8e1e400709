/-
  The reader's lines: its closure that takes one.
-/
import Derived.Test.YtmibbjjfijcgpacWalkTb
namespace Go.Proofs.Ytmibbjjfijcgpac
open Go.RowKit Go.Joins
def Rd.line (r : Rd) : Ln × Rd := (⟨(r.num 2).1, ((r.num 2).2.num 2).1⟩, ((r.num 2).2.num 2).2)
set_option maxHeartbeats 1000000 in
theorem line_any (B g gp : Nat) (r : Rd) (w : World) (h : RdAt w B g r) (hp : w.cell? ⟨gp, 0, none⟩ = some (.pointer (some ⟨g, 0, none⟩))) (hgp : gp < w.heap.size) (hne : gp ≠ g) :
    Calls Try.prog 51 #[.pointer (some ⟨gp, 0, none⟩)] w fun e w' =>
      e = .returned (.agg #[.int .i64 r.line.1.a, .int .i64 r.line.1.n]) ∧ RdAt w' B g r.line.2 ∧ FrG g w w' := by
  have HR : Hid (RdAt w B g r) := h
  have hgl := h.lt
  have hge := h.ge
  clear h
  go_enter Try.func51, Try.ntmps51
  go_wp2_with fail
  refine (number_any B g r 2 _ (HR.out.alloc _) (by decide)).mono ?_
  rintro e w1 ⟨rfl, hr1, ho1⟩
  have hp1 : w1.cell? ⟨gp, 0, none⟩ = some (.pointer (some ⟨g, 0, none⟩)) := ((World.cell?_of_block (a := ⟨gp, 0, none⟩) (ho1.block gp hne)).trans (World.cell?_alloc_past _ _ _ hgp)).trans hp
  have hb1 : w1.heap[w.heap.size]? = some (.cells #[.int .i64 0, .int .i64 0] 42) := (ho1.block w.heap.size (by omega)).trans (by show (w.heap.push _)[w.heap.size]? = _; simp)
  have hs1 : w1.heap.size = w.heap.size + 1 := by rw [ho1.size]; simp
  have F1 : Hid (FrG g w w1) := ((FrG.refl g w).alloc _).trans ho1.fr
  obtain ⟨x, hx⟩ : ∃ x, (r.num 2).1 = x := ⟨_, rfl⟩
  have HX : Hid ((r.num 2).1 = x) := hx
  rw [hx]
  have HR1 : Hid (RdAt w1 B g (r.num 2).2) := hr1
  have HB1 : Hid _ := hb1
  have HS1 : Hid (w1.heap.size = w.heap.size + 1) := hs1
  clear hr1 ho1 hx hb1 hs1
  go_wp2_with fail
  refine (number_any B g _ 2 w1 HR1.out (by decide)).mono ?_
  rintro e w2 ⟨rfl, hr2, ho2⟩
  have hb2 := (ho2.block w.heap.size (by omega)).trans HB1.out
  have c0 : w2.cell? ⟨w.heap.size, 0, none⟩ = some (.int .i64 0) := by simp [World.cell?, hb2]
  have c1 : w2.cell? ⟨w.heap.size, 1, none⟩ = some (.int .i64 0) := by simp [World.cell?, hb2]
  have f0 : w2.frozen? ⟨w.heap.size, 0, none⟩ = false := by simp [World.frozen?, hb2]
  have f1 : w2.frozen? ⟨w.heap.size, 1, none⟩ = false := by simp [World.frozen?, hb2]
  obtain ⟨y, hy⟩ : ∃ y, ((r.num 2).2.num 2).1 = y := ⟨_, rfl⟩
  have HY : Hid (((r.num 2).2.num 2).1 = y) := hy
  rw [hy]
  have hgw : w.heap.size ≠ g := by omega
  have R2 : Hid (RdAt ((w2.setCell ⟨w.heap.size, 0, none⟩ (.int .i64 x)).setCell ⟨w.heap.size, 1, none⟩ (.int .i64 y)) B g r.line.2) := (hr2.set (by omega) hgw _).set (by omega) hgw _
  have F2 : Hid (FrG g w ((w2.setCell ⟨w.heap.size, 0, none⟩ (.int .i64 x)).setCell ⟨w.heap.size, 1, none⟩ (.int .i64 y))) := ((F1.out.trans ho2.fr).set (Nat.le_refl _) _).set (Nat.le_refl _) _
  have HL : Hid (r.line.1 = ⟨x, y⟩) := by show _ = _; unfold Rd.line; rw [HX.out, HY.out]
  clear hb2 hr2 ho2 hy
  go_wp2
  exact bodyPost_ret (v := .agg #[.int .i64 x, .int .i64 y]) (by simp [results, Try.results51, go_sem, c0, c1]) rfl ⟨by rw [HL.out], R2.out, F2.out⟩
end Go.Proofs.Ytmibbjjfijcgpac
