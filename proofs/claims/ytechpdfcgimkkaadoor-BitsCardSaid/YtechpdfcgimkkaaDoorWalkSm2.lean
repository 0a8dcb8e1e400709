/-
  package step: the machine in memory; its tests ahead of a step.
-/
import Derived.Test.YtechpdfcgimkkaaDoorWalkSt
import Derived.Test.YtechpdfcgimkkaaDoorCopyKit
import Derived.BigQuiet
import Derived.Deep.QuietTactic
namespace Go.Proofs.YtechpdfcgimkkaaDoor
open Go.RowKit Go.Joins Isa
/-- A value: a number, or an address of code. -/
structure Vl where
  n : Int
  c : Bool
def Vl.cells (v : Vl) : List Value := [.int .i64 v.n, .bool v.c]
theorem vlcell_len (v : Vl) : (Vl.cells v).length = 2 := rfl
/-- A machine's box. -/
structure MachAt (w : World) (gm : Nat) (rs : List Vl) (vM vT vI vO : Value) (pc : Int) : Prop where
  len : rs.length = 8
  box : w.heap[gm]? = some (.cells (flat Vl.cells rs ++ [vM, vT, vI, vO, .int .i64 pc]).toArray 105)
theorem MachAt.lt {w : World} {gm : Nat} {rs : List Vl} {vM vT vI vO : Value} {pc : Int} (h : MachAt w gm rs vM vT vI vO pc) : gm < w.heap.size := (Array.getElem?_eq_some_iff.1 h.box).1
theorem MachAt.up {w w' : World} {gm : Nat} {rs : List Vl} {vM vT vI vO : Value} {pc : Int} (h : MachAt w gm rs vM vT vI vO pc) (hb : Below w.heap.size w w') : MachAt w' gm rs vM vT vI vO pc := ⟨h.len, (hb.block gm h.lt).trans h.box⟩
theorem MachAt.reg {w : World} {gm : Nat} {rs : List Vl} {vM vT vI vO : Value} {pc : Int} (h : MachAt w gm rs vM vT vI vO pc) (i : Nat) (hi : i < 8) : ∃ v, rs[i]? = some v ∧ w.cell? ⟨gm, i * 2, none⟩ = some (.int .i64 v.n) ∧ w.cell? ⟨gm, i * 2 + 1, none⟩ = some (.bool v.c) ∧ w.frozen? ⟨gm, i * 2, none⟩ = false ∧ w.frozen? ⟨gm, i * 2 + 1, none⟩ = false := by
  have hl := h.len
  refine ⟨rs[i], List.getElem?_eq_getElem (by omega), ?_, ?_, by simp [World.frozen?, h.box], by simp [World.frozen?, h.box]⟩
  all_goals
    simp only [World.cell?, h.box]
    rw [List.getElem?_toArray, List.getElem?_append_left (by rw [flat_len vlcell_len, hl]; omega)]
  · rw [show i * 2 = i * 2 + 0 by omega, flat_at vlcell_len rs i rs[i] (List.getElem?_eq_getElem (by omega)) 0 (by decide)]; rfl
  · rw [flat_at vlcell_len rs i rs[i] (List.getElem?_eq_getElem (by omega)) 1 (by decide)]; rfl
theorem MachAt.rest {w : World} {gm : Nat} {rs : List Vl} {vM vT vI vO : Value} {pc : Int} (h : MachAt w gm rs vM vT vI vO pc) : w.cell? ⟨gm, 16, none⟩ = some vM ∧ w.cell? ⟨gm, 17, none⟩ = some vT ∧ w.cell? ⟨gm, 18, none⟩ = some vI ∧ w.cell? ⟨gm, 19, none⟩ = some vO ∧ w.cell? ⟨gm, 20, none⟩ = some (.int .i64 pc) ∧ ∀ o, w.frozen? ⟨gm, o, none⟩ = false := by
  have hl := h.len
  have hf := flat_len vlcell_len rs
  rw [hl] at hf
  refine ⟨?_, ?_, ?_, ?_, ?_, fun o => by simp [World.frozen?, h.box]⟩
  all_goals
    simp only [World.cell?, h.box]
    rw [List.getElem?_toArray, List.getElem?_append_right (by omega), hf]
    rfl
theorem below_drewN {B : Nat} {W w1 : World} (h : Below B W w1) (n : Nat) : Below B W (w1.drewN n) := ⟨h.os, h.tape, h.output, h.size, h.block⟩
/-- isGuarded: P3.4. -/
def guardB (rs : List Vl) (k a b : Int) : Bool := if k = 3 then !((rs.getD 7 ⟨0, false⟩).c) else (needA k && (rs.getD a.toNat ⟨0, false⟩).c) || (needB k && (rs.getD b.toNat ⟨0, false⟩).c)
set_option maxRecDepth 100000 in
set_option maxHeartbeats 2000000 in
theorem guarded_any (gm : Nat) (rs : List Vl) (vM vT vI vO : Value) (pc k d a b n : Int) (l : Bool) (w : World) (h : MachAt w gm rs vM vT vI vO pc) (a0 : 0 ≤ a) (a1 : a < 8) (b0 : 0 ≤ b) (b1 : b < 8) :
    Calls Tryd.prog 97 #[.pointer (some ⟨gm, 0, none⟩), .agg #[.int .i64 k, .int .i64 d, .int .i64 a, .int .i64 b, .int .i64 n, .bool l]] w fun e w' => e = .returned (.bool (guardB rs k a b)) ∧ Below w.heap.size w w' := by
  obtain ⟨A, rfl⟩ := Int.eq_ofNat_of_zero_le a0
  obtain ⟨B, rfl⟩ := Int.eq_ofNat_of_zero_le b0
  obtain ⟨va, ra, p1, p2, _, _⟩ := h.reg A (by omega)
  obtain ⟨vb, rb, q1, q2, _, _⟩ := h.reg B (by omega)
  obtain ⟨vl, rl, t1, t2, _, _⟩ := h.reg 7 (by omega)
  have hg := h.lt
  have ga : rs.getD ((A : Int)).toNat ⟨0, false⟩ = va := by rw [Int.toNat_natCast, List.getD_eq_getElem?_getD, ra]; rfl
  have gb : rs.getD ((B : Int)).toNat ⟨0, false⟩ = vb := by rw [Int.toNat_natCast, List.getD_eq_getElem?_getD, rb]; rfl
  have gl : rs.getD 7 ⟨0, false⟩ = vl := by rw [List.getD_eq_getElem?_getD, rl]; rfl
  have HG : Hid (guardB rs k A B = if k = 3 then !vl.c else (needA k && va.c) || (needB k && vb.c)) := by show _ = _; unfold guardB; rw [ga, gb, gl]
  clear ga gb gl ra rb rl h
  by_cases hk : k = 3
  · rw [if_pos hk] at HG
    have HG' : Hid (guardB rs 3 A B = !vl.c) := by show _ = _; rw [← hk]; exact HG.out
    subst hk
    go_enter Tryd.func97, Tryd.ntmps97
    go_wp2
    go_ret
    exact ⟨by rw [HG'.out]; rfl, by go_grown⟩
  · rw [if_neg hk] at HG
    have hk' : (k == 3) = false := by simp [hk]
    clear hk
    obtain ⟨na, hna⟩ : ∃ x, needA k = x := ⟨_, rfl⟩
    obtain ⟨nb, hnb⟩ : ∃ x, needB k = x := ⟨_, rfl⟩
    obtain ⟨an, ac⟩ := va
    obtain ⟨bn, bc⟩ := vb
    have NA : ∀ w, Calls Tryd.prog 122 #[.int .i64 k] w fun e w' => e = .returned (.bool na) ∧ w' = w := fun w => by rw [← hna]; exact needa_any k w
    have NB : ∀ w, Calls Tryd.prog 123 #[.int .i64 k] w fun e w' => e = .returned (.bool nb) ∧ w' = w := fun w => by rw [← hnb]; exact needb_any k w
    rw [hna, hnb] at HG
    have HNA : Hid _ := NA
    have HNB : Hid _ := NB
    clear hna hnb NA NB
    simp only at p1 p2 q1 q2
    cases na <;> cases ac <;> cases nb <;> cases bc
    all_goals
      go_enter Tryd.func97, Tryd.ntmps97
      go_wp2_with fail
      go_quiet (first | (go_at_call 122; exact Calls.quiet_of_same (HNA.out _)) | (go_at_call 123; exact Calls.quiet_of_same (HNB.out _)))
      go_wp2
      go_ret
      exact ⟨by rw [HG.out]; rfl, below_drewN ((Below.refl _ _).alloc (Nat.le_refl _) _) _⟩
end Go.Proofs.YtechpdfcgimkkaaDoor
