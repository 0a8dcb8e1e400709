/-
  The fourteen wrong instructions of boltholekeep.InstrBad: what is wrong with each; a byte from 112 to 127 is no first byte.
-/
import Derived.Test.YtkofnmeononlaabDoorTextMore
namespace Go.Proofs.YtkofnmeononlaabDoor
open Go.RowKit Go.Joins Isa
def oddV (k : Int) : Array Value := #[.int .i64 0, .int .i64 0, .int .i64 0, .int .i64 0, .int .i64 0, .bool false,
  .int .i64 (25 + k), .int .i64 0, .int .i64 0, .int .i64 0, .int .i64 0, .bool false,
  .int .i64 1, .int .i64 (1 + k), .int .i64 0, .int .i64 0, .int .i64 0, .bool false,
  .int .i64 5, .int .i64 0, .int .i64 (1 + k), .int .i64 0, .int .i64 0, .bool false,
  .int .i64 4, .int .i64 0, .int .i64 0, .int .i64 0, .int .i64 0, .bool true,
  .int .i64 23, .int .i64 0, .int .i64 0, .int .i64 0, .int .i64 0, .bool true,
  .int .i64 7, .int .i64 (8 + k), .int .i64 0, .int .i64 0, .int .i64 0, .bool false,
  .int .i64 17, .int .i64 0, .int .i64 (-1 - k), .int .i64 0, .int .i64 0, .bool false,
  .int .i64 6, .int .i64 0, .int .i64 0, .int .i64 0, .int .i64 (128 + k), .bool false,
  .int .i64 5, .int .i64 0, .int .i64 0, .int .i64 0, .int .i64 (32768 + k), .bool false,
  .int .i64 22, .int .i64 0, .int .i64 0, .int .i64 0, .int .i64 (-129 - k), .bool false,
  .int .i64 22, .int .i64 0, .int .i64 0, .int .i64 0, .int .i64 (-32769 - k), .bool true,
  .int .i64 24, .int .i64 0, .int .i64 0, .int .i64 0, .int .i64 (20 + k), .bool false,
  .int .i64 24, .int .i64 0, .int .i64 0, .int .i64 0, .int .i64 (-1 - k), .bool false]
def errV : Array Value := #[.int .i64 3, .int .i64 3, .int .i64 4, .int .i64 4, .int .i64 4, .int .i64 4, .int .i64 2, .int .i64 2, .int .i64 2, .int .i64 2, .int .i64 2, .int .i64 2, .int .i64 2, .int .i64 2]
theorem odd_row (k : Int) (k0 : 0 ≤ k) (k1 : k < 100) (m : Nat) (hm : m < 14) : ∃ K D A B N L E, Isa.chk K D A B N L = E ∧ 0 < E ∧ E < 5 ∧
    (oddV k)[m * 6]? = some (.int .i64 K) ∧ (oddV k)[m * 6 + 1]? = some (.int .i64 D) ∧ (oddV k)[m * 6 + 2]? = some (.int .i64 A) ∧ (oddV k)[m * 6 + 3]? = some (.int .i64 B) ∧ (oddV k)[m * 6 + 4]? = some (.int .i64 N) ∧ (oddV k)[m * 6 + 5]? = some (.bool L) ∧ errV[m]? = some (.int .i64 E) := by
  rcases (show m = 0 ∨ m = 1 ∨ m = 2 ∨ m = 3 ∨ m = 4 ∨ m = 5 ∨ m = 6 ∨ m = 7 ∨ m = 8 ∨ m = 9 ∨ m = 10 ∨ m = 11 ∨ m = 12 ∨ m = 13 by omega) with rfl | rfl | rfl | rfl | rfl | rfl | rfl | rfl | rfl | rfl | rfl | rfl | rfl | rfl
  · exact ⟨0, 0, 0, 0, 0, false, 3, by decide, by decide, by decide, rfl, rfl, rfl, rfl, rfl, rfl, rfl⟩
  · exact ⟨25 + k, 0, 0, 0, 0, false, 3, if_pos (by omega), by decide, by decide, rfl, rfl, rfl, rfl, rfl, rfl, rfl⟩
  · exact ⟨1, 1 + k, 0, 0, 0, false, 4, by simp [Isa.chk, formB, regB, rD, rA, rB, rN, rL, hasB, kU, kL, kT, kW, opS, shU, shL, shT, shW, opL, lo, hi, wid] <;> omega, by decide, by decide, rfl, rfl, rfl, rfl, rfl, rfl, rfl⟩
  · exact ⟨5, 0, 1 + k, 0, 0, false, 4, by simp [Isa.chk, formB, regB, rD, rA, rB, rN, rL, hasB, kU, kL, kT, kW, opS, shU, shL, shT, shW, opL, lo, hi, wid] <;> omega, by decide, by decide, rfl, rfl, rfl, rfl, rfl, rfl, rfl⟩
  · exact ⟨4, 0, 0, 0, 0, true, 4, by decide, by decide, by decide, rfl, rfl, rfl, rfl, rfl, rfl, rfl⟩
  · exact ⟨23, 0, 0, 0, 0, true, 4, by decide, by decide, by decide, rfl, rfl, rfl, rfl, rfl, rfl, rfl⟩
  · exact ⟨7, 8 + k, 0, 0, 0, false, 2, by simp [Isa.chk, formB, regB, rD, rA, rB, rN, rL, hasB, kU, kL, kT, kW, opS, shU, shL, shT, shW, opL, lo, hi, wid] <;> omega, by decide, by decide, rfl, rfl, rfl, rfl, rfl, rfl, rfl⟩
  · exact ⟨17, 0, -1 - k, 0, 0, false, 2, by simp [Isa.chk, formB, regB, rD, rA, rB, rN, rL, hasB, kU, kL, kT, kW, opS, shU, shL, shT, shW, opL, lo, hi, wid] <;> omega, by decide, by decide, rfl, rfl, rfl, rfl, rfl, rfl, rfl⟩
  · exact ⟨6, 0, 0, 0, 128 + k, false, 2, by simp [Isa.chk, formB, regB, rD, rA, rB, rN, rL, hasB, kU, kL, kT, kW, opS, shU, shL, shT, shW, opL, lo, hi, wid] <;> omega, by decide, by decide, rfl, rfl, rfl, rfl, rfl, rfl, rfl⟩
  · exact ⟨5, 0, 0, 0, 32768 + k, false, 2, by simp [Isa.chk, formB, regB, rD, rA, rB, rN, rL, hasB, kU, kL, kT, kW, opS, shU, shL, shT, shW, opL, lo, hi, wid] <;> omega, by decide, by decide, rfl, rfl, rfl, rfl, rfl, rfl, rfl⟩
  · exact ⟨22, 0, 0, 0, -129 - k, false, 2, by simp [Isa.chk, formB, regB, rD, rA, rB, rN, rL, hasB, kU, kL, kT, kW, opS, shU, shL, shT, shW, opL, lo, hi, wid] <;> omega, by decide, by decide, rfl, rfl, rfl, rfl, rfl, rfl, rfl⟩
  · exact ⟨22, 0, 0, 0, -32769 - k, true, 2, by simp [Isa.chk, formB, regB, rD, rA, rB, rN, rL, hasB, kU, kL, kT, kW, opS, shU, shL, shT, shW, opL, lo, hi, wid] <;> omega, by decide, by decide, rfl, rfl, rfl, rfl, rfl, rfl, rfl⟩
  · exact ⟨24, 0, 0, 0, 20 + k, false, 2, by simp [Isa.chk, formB, regB, rD, rA, rB, rN, rL, hasB, kU, kL, kT, kW, opS, shU, shL, shT, shW, opL, lo, hi] <;> omega, by decide, by decide, rfl, rfl, rfl, rfl, rfl, rfl, rfl⟩
  · exact ⟨24, 0, 0, 0, -1 - k, false, 2, by simp [Isa.chk, formB, regB, rD, rA, rB, rN, rL, hasB, kU, kL, kT, kW, opS, shU, shL, shT, shW, opL, lo, hi] <;> omega, by decide, by decide, rfl, rfl, rfl, rfl, rfl, rfl, rfl⟩
theorem odd_byte (r : Int) (h0 : 0 ≤ r) (h1 : r < 16) : decOut [112 + r] 0 = (zeroI, 0, 3) := by
  rcases (show r = 0 ∨ r = 1 ∨ r = 2 ∨ r = 3 ∨ r = 4 ∨ r = 5 ∨ r = 6 ∨ r = 7 ∨ r = 8 ∨ r = 9 ∨ r = 10 ∨ r = 11 ∨ r = 12 ∨ r = 13 ∨ r = 14 ∨ r = 15 by omega) with rfl | rfl | rfl | rfl | rfl | rfl | rfl | rfl | rfl | rfl | rfl | rfl | rfl | rfl | rfl | rfl <;> rfl
/-- The m-th wrong instruction, with its error, in the two slices. -/
def OddAt (w : World) (h m : Nat) (K D A B N : Int) (L : Bool) (E : Int) : Prop :=
  w.cell? ⟨h, m * 6, none⟩ = some (.int .i64 K) ∧ w.cell? ⟨h, m * 6 + 1, none⟩ = some (.int .i64 D) ∧ w.cell? ⟨h, m * 6 + 2, none⟩ = some (.int .i64 A) ∧ w.cell? ⟨h, m * 6 + 3, none⟩ = some (.int .i64 B) ∧ w.cell? ⟨h, m * 6 + 4, none⟩ = some (.int .i64 N) ∧ w.cell? ⟨h, m * 6 + 5, none⟩ = some (.bool L) ∧ w.cell? ⟨h + 1, m, none⟩ = some (.int .i64 E)
theorem OddAt.below {w w' : World} {h m S : Nat} {K D A B N E : Int} {L : Bool} (H : OddAt w h m K D A B N L E) (hS : h + 1 < S) (hb : Below S w w') : OddAt w' h m K D A B N L E := by
  obtain ⟨c, _⟩ := bcell hb
  obtain ⟨f0, f1, f2, f3, f4, f5, f6⟩ := H
  exact ⟨(c _ _ (by omega)).trans f0, (c _ _ (by omega)).trans f1, (c _ _ (by omega)).trans f2, (c _ _ (by omega)).trans f3, (c _ _ (by omega)).trans f4, (c _ _ (by omega)).trans f5, (c _ _ (by omega)).trans f6⟩
theorem odd_world {w w2 : World} {k : Int} {m : Nat} (hw : w2 = (w.alloc (.cells (oddV k) 29)).alloc (.cells errV 25)) (k0 : 0 ≤ k) (k1 : k < 100) (hm : m < 14) :
    ∃ K D A B N L E, Isa.chk K D A B N L = E ∧ 0 < E ∧ E < 5 ∧ OddAt w2 w.heap.size m K D A B N L E ∧ w2.heap.size = w.heap.size + 2 ∧ Below w.heap.size w w2 := by
  obtain ⟨K, D, A, B, N, L, E, e1, e2, e3, f0, f1, f2, f3, f4, f5, f6⟩ := odd_row k k0 k1 m hm
  subst hw
  have hn : ∀ o, ((w.alloc (.cells (oddV k) 29)).alloc (.cells errV 25)).cell? ⟨w.heap.size, o, none⟩ = (oddV k)[o]? := fun o => by simp
  have hE : ∀ o, ((w.alloc (.cells (oddV k) 29)).alloc (.cells errV 25)).cell? ⟨w.heap.size + 1, o, none⟩ = errV[o]? := fun o => by simp
  exact ⟨K, D, A, B, N, L, E, e1, e2, e3, ⟨(hn _).trans f0, (hn _).trans f1, (hn _).trans f2, (hn _).trans f3, (hn _).trans f4, (hn _).trans f5, (hE _).trans f6⟩, by simp, ((Below.refl _ _).alloc (Nat.le_refl _) _).alloc (by simp) _⟩
end Go.Proofs.YtkofnmeononlaabDoor
