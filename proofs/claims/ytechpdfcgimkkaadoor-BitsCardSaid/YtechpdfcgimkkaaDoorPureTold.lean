/-
  What the programs of boltholekeep's Sums, Bits, Memory, Branches, Calls and Loops tell.
-/
import Derived.Test.YtechpdfcgimkkaaDoorWalkTold
import Derived.Test.YtechpdfcgimkkaaDoorPureSums
namespace Go.Proofs.YtechpdfcgimkkaaDoor
open Go.RowKit Go.Joins Isa
theorem halt_chk {l : List Ins} (hok : ∀ i ∈ l, i.chk = 0) : ∀ i ∈ l ++ [haltI], i.chk = 0 := by
  intro i hi
  rcases List.mem_append.1 hi with q | q
  · exact hok i q
  · have : i = haltI := by simpa using q
    subst this; decide
theorem alone_chk {l : List Ins} (hok : ∀ i ∈ l, i.chk = 0) (hl : l.length ≤ 1000) : imgChk (aloneI l) = 0 := by
  have h1 := encAll_len _ (halt_chk hok)
  rw [List.length_append, List.length_singleton] at h1
  have h2 : 1 ≤ (encAll (l ++ [haltI])).length := by
    rw [encAll_append, List.length_append]
    have : (encAll [haltI]).length = 1 := by decide
    omega
  have hf : fchk (aloneI l).text.length [] (aloneI l).funcs 0 = 0 := by
    show fchk ((encAll (l ++ [haltI])).length : Int) [] [fFn (encAll (l ++ [haltI])).length] 0 = 0
    generalize (encAll (l ++ [haltI])).length = n at *
    unfold fchk fFn
    have hn : nameMay ⟨#[102]⟩ = true := by decide
    rw [if_neg (by show ¬ nameMay ⟨#[102]⟩ = false; rw [hn]; simp), if_neg (by simp), if_neg (by simp; omega)]
    unfold fchk
    simp
  have hd : ¬ ∃ x ∈ (aloneI l).data, x < -1099511627776 ∨ 1099511627776 < x := by
    show ¬ ∃ x ∈ ([5, -3, 0, 7, 1, 2] : List Int), x < -1099511627776 ∨ 1099511627776 < x
    decide
  unfold imgChk
  rw [if_neg (by show ¬ (8000 < (encAll (l ++ [haltI])).length ∨ 40 < 1); omega), if_neg (by rw [hf]; simp), if_neg (by show ¬ ((0 : Int) < 0 ∨ ((1 : Nat) : Int) ≤ 0); omega), if_neg (by show ¬ (20 < 0 ∨ 64 < 6); omega)]
  rw [if_neg (by show ¬ tchk _ [] ≠ 0; simp [tchk]), if_neg hd, if_neg (by show ¬ 4000 < 0; omega)]
  rfl
theorem told_chk {l : List Ins} (hok : ∀ i ∈ l, i.chk = 0) (hl : l.length ≤ 1000) {ins : List Int} (h1 : ins.length ≤ 100) (h2 : ∀ x ∈ ins, -1099511627776 ≤ x ∧ x ≤ 1099511627776) {fuel : Int} (f0 : 0 ≤ fuel) (f1 : fuel ≤ 100000) : runChk (aloneI l) ins fuel = 0 := by
  unfold runChk
  rw [if_neg (by rw [alone_chk hok hl]; simp), if_neg (by omega), if_neg (by omega), if_neg ?_]
  simp only [Bool.not_eq_true, List.any_eq_false]
  intro x hx
  have := h2 x hx
  simp [farB]; omega
def mem0 : List Vl := [⟨5, false⟩, ⟨-3, false⟩, ⟨0, false⟩, ⟨7, false⟩, ⟨1, false⟩, ⟨2, false⟩]
def regs0 : List Vl := [⟨0, false⟩, ⟨0, false⟩, ⟨0, false⟩, ⟨0, false⟩, ⟨0, false⟩, ⟨0, false⟩, ⟨0, false⟩, ⟨0, false⟩]
theorem told_out {l : List Ins} {ins : List Int} {fuel : Nat} (h : runChk (aloneI l) ins fuel = 0) {s : Mc} {e st : Int} (hr : runN (encAll (l ++ [haltI])) [] fuel 0 ⟨regs0, mem0, ins, [], 0⟩ = (s, e, st)) : runOut (aloneI l) ins fuel = ⟨s.told, e, st, s.pc⟩ := by
  unfold runOut
  rw [if_pos h, Int.toNat_natCast]
  show runOf (runN (encAll (l ++ [haltI])) [] fuel 0 ⟨regs0, mem0, ins, [], 0⟩) = _
  rw [hr]; rfl
def bitsL : List Ins := [⟨16, 1, 0, 0, 0, false⟩, ⟨16, 2, 0, 0, 0, false⟩, ⟨10, 3, 1, 2, 0, false⟩, ⟨11, 4, 1, 2, 0, false⟩, ⟨12, 5, 1, 2, 0, false⟩, ⟨17, 0, 3, 0, 0, false⟩, ⟨17, 0, 4, 0, 0, false⟩, ⟨17, 0, 5, 0, 0, false⟩, ⟨13, 6, 1, 2, 0, false⟩, ⟨17, 0, 6, 0, 0, false⟩]
theorem bits_ok : ∀ i ∈ bitsL, i.chk = 0 := by decide
theorem bits_run (x : Int) (y : Int) : ∃ s : Mc, runN (encAll (bitsL ++ [haltI])) [] 100 0 ⟨regs0, mem0, [x, y], [], 0⟩ = (s, 1, 10) ∧ s.told = [operN 10 x y, operN 11 x y, operN 12 x y, operN 13 x y] := by
  have hc := halt_chk (bits_ok)
  refine ⟨?s, ?h1, ?h2⟩
  case h1 =>
    refine run_step hc (j := 0) (s' := ⟨[⟨0, false⟩, ⟨x, false⟩, ⟨0, false⟩, ⟨0, false⟩, ⟨0, false⟩, ⟨0, false⟩, ⟨0, false⟩, ⟨0, false⟩], [⟨5, false⟩, ⟨-3, false⟩, ⟨0, false⟩, ⟨7, false⟩, ⟨1, false⟩, ⟨2, false⟩], [y], [], 2⟩) rfl rfl rfl rfl ?_
    refine run_step hc (j := 1) (s' := ⟨[⟨0, false⟩, ⟨x, false⟩, ⟨y, false⟩, ⟨0, false⟩, ⟨0, false⟩, ⟨0, false⟩, ⟨0, false⟩, ⟨0, false⟩], [⟨5, false⟩, ⟨-3, false⟩, ⟨0, false⟩, ⟨7, false⟩, ⟨1, false⟩, ⟨2, false⟩], [], [], 4⟩) rfl rfl rfl rfl ?_
    refine run_step hc (j := 2) (s' := ⟨[⟨0, false⟩, ⟨x, false⟩, ⟨y, false⟩, ⟨operN 10 x y, false⟩, ⟨0, false⟩, ⟨0, false⟩, ⟨0, false⟩, ⟨0, false⟩], [⟨5, false⟩, ⟨-3, false⟩, ⟨0, false⟩, ⟨7, false⟩, ⟨1, false⟩, ⟨2, false⟩], [], [], 7⟩) rfl rfl rfl rfl ?_
    refine run_step hc (j := 3) (s' := ⟨[⟨0, false⟩, ⟨x, false⟩, ⟨y, false⟩, ⟨operN 10 x y, false⟩, ⟨operN 11 x y, false⟩, ⟨0, false⟩, ⟨0, false⟩, ⟨0, false⟩], [⟨5, false⟩, ⟨-3, false⟩, ⟨0, false⟩, ⟨7, false⟩, ⟨1, false⟩, ⟨2, false⟩], [], [], 10⟩) rfl rfl rfl rfl ?_
    refine run_step hc (j := 4) (s' := ⟨[⟨0, false⟩, ⟨x, false⟩, ⟨y, false⟩, ⟨operN 10 x y, false⟩, ⟨operN 11 x y, false⟩, ⟨operN 12 x y, false⟩, ⟨0, false⟩, ⟨0, false⟩], [⟨5, false⟩, ⟨-3, false⟩, ⟨0, false⟩, ⟨7, false⟩, ⟨1, false⟩, ⟨2, false⟩], [], [], 13⟩) rfl rfl rfl rfl ?_
    refine run_step hc (j := 5) (s' := ⟨[⟨0, false⟩, ⟨x, false⟩, ⟨y, false⟩, ⟨operN 10 x y, false⟩, ⟨operN 11 x y, false⟩, ⟨operN 12 x y, false⟩, ⟨0, false⟩, ⟨0, false⟩], [⟨5, false⟩, ⟨-3, false⟩, ⟨0, false⟩, ⟨7, false⟩, ⟨1, false⟩, ⟨2, false⟩], [], [operN 10 x y], 15⟩) rfl rfl rfl rfl ?_
    refine run_step hc (j := 6) (s' := ⟨[⟨0, false⟩, ⟨x, false⟩, ⟨y, false⟩, ⟨operN 10 x y, false⟩, ⟨operN 11 x y, false⟩, ⟨operN 12 x y, false⟩, ⟨0, false⟩, ⟨0, false⟩], [⟨5, false⟩, ⟨-3, false⟩, ⟨0, false⟩, ⟨7, false⟩, ⟨1, false⟩, ⟨2, false⟩], [], [operN 10 x y, operN 11 x y], 17⟩) rfl rfl rfl rfl ?_
    refine run_step hc (j := 7) (s' := ⟨[⟨0, false⟩, ⟨x, false⟩, ⟨y, false⟩, ⟨operN 10 x y, false⟩, ⟨operN 11 x y, false⟩, ⟨operN 12 x y, false⟩, ⟨0, false⟩, ⟨0, false⟩], [⟨5, false⟩, ⟨-3, false⟩, ⟨0, false⟩, ⟨7, false⟩, ⟨1, false⟩, ⟨2, false⟩], [], [operN 10 x y, operN 11 x y, operN 12 x y], 19⟩) rfl rfl rfl rfl ?_
    refine run_step hc (j := 8) (s' := ⟨[⟨0, false⟩, ⟨x, false⟩, ⟨y, false⟩, ⟨operN 10 x y, false⟩, ⟨operN 11 x y, false⟩, ⟨operN 12 x y, false⟩, ⟨operN 13 x y, false⟩, ⟨0, false⟩], [⟨5, false⟩, ⟨-3, false⟩, ⟨0, false⟩, ⟨7, false⟩, ⟨1, false⟩, ⟨2, false⟩], [], [operN 10 x y, operN 11 x y, operN 12 x y], 22⟩) rfl rfl rfl rfl ?_
    refine run_step hc (j := 9) (s' := ⟨[⟨0, false⟩, ⟨x, false⟩, ⟨y, false⟩, ⟨operN 10 x y, false⟩, ⟨operN 11 x y, false⟩, ⟨operN 12 x y, false⟩, ⟨operN 13 x y, false⟩, ⟨0, false⟩], [⟨5, false⟩, ⟨-3, false⟩, ⟨0, false⟩, ⟨7, false⟩, ⟨1, false⟩, ⟨2, false⟩], [], [operN 10 x y, operN 11 x y, operN 12 x y, operN 13 x y], 24⟩) rfl rfl rfl rfl ?_
    refine run_stop hc (j := 10) rfl ?_ ?_ ?_
    · rfl
    · rfl
    · decide
  case h2 => rfl
def sumsAL : List Ins := [⟨16, 1, 0, 0, 0, false⟩, ⟨16, 2, 0, 0, 0, false⟩, ⟨7, 3, 1, 2, 0, false⟩, ⟨8, 4, 3, 2, 0, false⟩, ⟨17, 0, 4, 0, 0, false⟩, ⟨9, 5, 1, 2, 0, false⟩, ⟨9, 6, 2, 1, 0, false⟩, ⟨17, 0, 5, 0, 0, false⟩, ⟨17, 0, 6, 0, 0, false⟩, ⟨17, 0, 3, 0, 0, false⟩]
theorem sumsA_ok : ∀ i ∈ sumsAL, i.chk = 0 := by decide
theorem sumsA_run (x : Int) (y : Int) : ∃ s : Mc, runN (encAll (sumsAL ++ [haltI])) [] 100 0 ⟨regs0, mem0, [x, y], [], 0⟩ = (s, 1, 10) ∧ s.told = [operN 8 (operN 7 x y) y, operN 9 x y, operN 9 y x, operN 7 x y] := by
  have hc := halt_chk (sumsA_ok)
  refine ⟨?s, ?h1, ?h2⟩
  case h1 =>
    refine run_step hc (j := 0) (s' := ⟨[⟨0, false⟩, ⟨x, false⟩, ⟨0, false⟩, ⟨0, false⟩, ⟨0, false⟩, ⟨0, false⟩, ⟨0, false⟩, ⟨0, false⟩], [⟨5, false⟩, ⟨-3, false⟩, ⟨0, false⟩, ⟨7, false⟩, ⟨1, false⟩, ⟨2, false⟩], [y], [], 2⟩) rfl rfl rfl rfl ?_
    refine run_step hc (j := 1) (s' := ⟨[⟨0, false⟩, ⟨x, false⟩, ⟨y, false⟩, ⟨0, false⟩, ⟨0, false⟩, ⟨0, false⟩, ⟨0, false⟩, ⟨0, false⟩], [⟨5, false⟩, ⟨-3, false⟩, ⟨0, false⟩, ⟨7, false⟩, ⟨1, false⟩, ⟨2, false⟩], [], [], 4⟩) rfl rfl rfl rfl ?_
    refine run_step hc (j := 2) (s' := ⟨[⟨0, false⟩, ⟨x, false⟩, ⟨y, false⟩, ⟨operN 7 x y, false⟩, ⟨0, false⟩, ⟨0, false⟩, ⟨0, false⟩, ⟨0, false⟩], [⟨5, false⟩, ⟨-3, false⟩, ⟨0, false⟩, ⟨7, false⟩, ⟨1, false⟩, ⟨2, false⟩], [], [], 7⟩) rfl rfl rfl rfl ?_
    refine run_step hc (j := 3) (s' := ⟨[⟨0, false⟩, ⟨x, false⟩, ⟨y, false⟩, ⟨operN 7 x y, false⟩, ⟨operN 8 (operN 7 x y) y, false⟩, ⟨0, false⟩, ⟨0, false⟩, ⟨0, false⟩], [⟨5, false⟩, ⟨-3, false⟩, ⟨0, false⟩, ⟨7, false⟩, ⟨1, false⟩, ⟨2, false⟩], [], [], 10⟩) rfl rfl rfl rfl ?_
    refine run_step hc (j := 4) (s' := ⟨[⟨0, false⟩, ⟨x, false⟩, ⟨y, false⟩, ⟨operN 7 x y, false⟩, ⟨operN 8 (operN 7 x y) y, false⟩, ⟨0, false⟩, ⟨0, false⟩, ⟨0, false⟩], [⟨5, false⟩, ⟨-3, false⟩, ⟨0, false⟩, ⟨7, false⟩, ⟨1, false⟩, ⟨2, false⟩], [], [operN 8 (operN 7 x y) y], 12⟩) rfl rfl rfl rfl ?_
    refine run_step hc (j := 5) (s' := ⟨[⟨0, false⟩, ⟨x, false⟩, ⟨y, false⟩, ⟨operN 7 x y, false⟩, ⟨operN 8 (operN 7 x y) y, false⟩, ⟨operN 9 x y, false⟩, ⟨0, false⟩, ⟨0, false⟩], [⟨5, false⟩, ⟨-3, false⟩, ⟨0, false⟩, ⟨7, false⟩, ⟨1, false⟩, ⟨2, false⟩], [], [operN 8 (operN 7 x y) y], 15⟩) rfl rfl rfl rfl ?_
    refine run_step hc (j := 6) (s' := ⟨[⟨0, false⟩, ⟨x, false⟩, ⟨y, false⟩, ⟨operN 7 x y, false⟩, ⟨operN 8 (operN 7 x y) y, false⟩, ⟨operN 9 x y, false⟩, ⟨operN 9 y x, false⟩, ⟨0, false⟩], [⟨5, false⟩, ⟨-3, false⟩, ⟨0, false⟩, ⟨7, false⟩, ⟨1, false⟩, ⟨2, false⟩], [], [operN 8 (operN 7 x y) y], 18⟩) rfl rfl rfl rfl ?_
    refine run_step hc (j := 7) (s' := ⟨[⟨0, false⟩, ⟨x, false⟩, ⟨y, false⟩, ⟨operN 7 x y, false⟩, ⟨operN 8 (operN 7 x y) y, false⟩, ⟨operN 9 x y, false⟩, ⟨operN 9 y x, false⟩, ⟨0, false⟩], [⟨5, false⟩, ⟨-3, false⟩, ⟨0, false⟩, ⟨7, false⟩, ⟨1, false⟩, ⟨2, false⟩], [], [operN 8 (operN 7 x y) y, operN 9 x y], 20⟩) rfl rfl rfl rfl ?_
    refine run_step hc (j := 8) (s' := ⟨[⟨0, false⟩, ⟨x, false⟩, ⟨y, false⟩, ⟨operN 7 x y, false⟩, ⟨operN 8 (operN 7 x y) y, false⟩, ⟨operN 9 x y, false⟩, ⟨operN 9 y x, false⟩, ⟨0, false⟩], [⟨5, false⟩, ⟨-3, false⟩, ⟨0, false⟩, ⟨7, false⟩, ⟨1, false⟩, ⟨2, false⟩], [], [operN 8 (operN 7 x y) y, operN 9 x y, operN 9 y x], 22⟩) rfl rfl rfl rfl ?_
    refine run_step hc (j := 9) (s' := ⟨[⟨0, false⟩, ⟨x, false⟩, ⟨y, false⟩, ⟨operN 7 x y, false⟩, ⟨operN 8 (operN 7 x y) y, false⟩, ⟨operN 9 x y, false⟩, ⟨operN 9 y x, false⟩, ⟨0, false⟩], [⟨5, false⟩, ⟨-3, false⟩, ⟨0, false⟩, ⟨7, false⟩, ⟨1, false⟩, ⟨2, false⟩], [], [operN 8 (operN 7 x y) y, operN 9 x y, operN 9 y x, operN 7 x y], 24⟩) rfl rfl rfl rfl ?_
    refine run_stop hc (j := 10) rfl ?_ ?_ ?_
    · rfl
    · rfl
    · decide
  case h2 => rfl
def sumsBL : List Ins := [⟨16, 1, 0, 0, 0, false⟩, ⟨16, 2, 0, 0, 0, false⟩, ⟨9, 3, 1, 2, 0, false⟩, ⟨17, 0, 3, 0, 0, false⟩, ⟨16, 3, 0, 0, 0, false⟩, ⟨17, 0, 3, 0, 0, false⟩]
theorem sumsB_ok : ∀ i ∈ sumsBL, i.chk = 0 := by decide
theorem sumsB_run (p : Int) (q : Int) : ∃ s : Mc, runN (encAll (sumsBL ++ [haltI])) [] 100 0 ⟨regs0, mem0, [p, q], [], 0⟩ = (s, 1, 6) ∧ s.told = [operN 9 p q, 0] := by
  have hc := halt_chk (sumsB_ok)
  refine ⟨?s, ?h1, ?h2⟩
  case h1 =>
    refine run_step hc (j := 0) (s' := ⟨[⟨0, false⟩, ⟨p, false⟩, ⟨0, false⟩, ⟨0, false⟩, ⟨0, false⟩, ⟨0, false⟩, ⟨0, false⟩, ⟨0, false⟩], [⟨5, false⟩, ⟨-3, false⟩, ⟨0, false⟩, ⟨7, false⟩, ⟨1, false⟩, ⟨2, false⟩], [q], [], 2⟩) rfl rfl rfl rfl ?_
    refine run_step hc (j := 1) (s' := ⟨[⟨0, false⟩, ⟨p, false⟩, ⟨q, false⟩, ⟨0, false⟩, ⟨0, false⟩, ⟨0, false⟩, ⟨0, false⟩, ⟨0, false⟩], [⟨5, false⟩, ⟨-3, false⟩, ⟨0, false⟩, ⟨7, false⟩, ⟨1, false⟩, ⟨2, false⟩], [], [], 4⟩) rfl rfl rfl rfl ?_
    refine run_step hc (j := 2) (s' := ⟨[⟨0, false⟩, ⟨p, false⟩, ⟨q, false⟩, ⟨operN 9 p q, false⟩, ⟨0, false⟩, ⟨0, false⟩, ⟨0, false⟩, ⟨0, false⟩], [⟨5, false⟩, ⟨-3, false⟩, ⟨0, false⟩, ⟨7, false⟩, ⟨1, false⟩, ⟨2, false⟩], [], [], 7⟩) rfl rfl rfl rfl ?_
    refine run_step hc (j := 3) (s' := ⟨[⟨0, false⟩, ⟨p, false⟩, ⟨q, false⟩, ⟨operN 9 p q, false⟩, ⟨0, false⟩, ⟨0, false⟩, ⟨0, false⟩, ⟨0, false⟩], [⟨5, false⟩, ⟨-3, false⟩, ⟨0, false⟩, ⟨7, false⟩, ⟨1, false⟩, ⟨2, false⟩], [], [operN 9 p q], 9⟩) rfl rfl rfl rfl ?_
    refine run_step hc (j := 4) (s' := ⟨[⟨0, false⟩, ⟨p, false⟩, ⟨q, false⟩, ⟨0, false⟩, ⟨0, false⟩, ⟨0, false⟩, ⟨0, false⟩, ⟨0, false⟩], [⟨5, false⟩, ⟨-3, false⟩, ⟨0, false⟩, ⟨7, false⟩, ⟨1, false⟩, ⟨2, false⟩], [], [operN 9 p q], 11⟩) rfl rfl rfl rfl ?_
    refine run_step hc (j := 5) (s' := ⟨[⟨0, false⟩, ⟨p, false⟩, ⟨q, false⟩, ⟨0, false⟩, ⟨0, false⟩, ⟨0, false⟩, ⟨0, false⟩, ⟨0, false⟩], [⟨5, false⟩, ⟨-3, false⟩, ⟨0, false⟩, ⟨7, false⟩, ⟨1, false⟩, ⟨2, false⟩], [], [operN 9 p q, 0], 13⟩) rfl rfl rfl rfl ?_
    refine run_stop hc (j := 6) rfl ?_ ?_ ?_
    · rfl
    · rfl
    · decide
  case h2 => rfl
def callsAL (v : Int) : List Ins := [⟨23, 0, 0, 0, 6, false⟩, ⟨17, 0, 1, 0, 0, false⟩, ⟨1, 0, 0, 0, 0, false⟩, ⟨5, 1, 0, 0, v, false⟩, ⟨3, 0, 0, 0, 0, false⟩]
theorem callsA_ok {v : Int} (h0 : 0 ≤ v) (h1 : v ≤ 32767) : ∀ i ∈ (callsAL v), i.chk = 0 := by
  intro i hi
  simp [callsAL] at hi
  rcases hi with rfl | rfl | rfl | rfl | rfl
  all_goals first | decide | exact (ok5 (d := 1) (n := v) (by decide) (by decide) (by omega) (by omega) : Isa.chk 5 1 0 0 v false = 0)
theorem callsA_run (v : Int) (h0 : 0 ≤ v) (h1 : v ≤ 32767) : ∃ s : Mc, runN (encAll ((callsAL v) ++ [haltI])) [] 100 0 ⟨regs0, mem0, [], [], 0⟩ = (s, 1, 4) ∧ s.told = [v] := by
  have hc := halt_chk (callsA_ok (v := v) h0 h1)
  refine ⟨?s, ?h1, ?h2⟩
  case h1 =>
    refine run_step hc (j := 0) (s' := ⟨[⟨0, false⟩, ⟨0, false⟩, ⟨0, false⟩, ⟨0, false⟩, ⟨0, false⟩, ⟨0, false⟩, ⟨0, false⟩, ⟨3, true⟩], [⟨5, false⟩, ⟨-3, false⟩, ⟨0, false⟩, ⟨7, false⟩, ⟨1, false⟩, ⟨2, false⟩], [], [], 6⟩) rfl rfl rfl rfl ?_
    refine run_step hc (j := 3) (s' := ⟨[⟨0, false⟩, ⟨v, false⟩, ⟨0, false⟩, ⟨0, false⟩, ⟨0, false⟩, ⟨0, false⟩, ⟨0, false⟩, ⟨3, true⟩], [⟨5, false⟩, ⟨-3, false⟩, ⟨0, false⟩, ⟨7, false⟩, ⟨1, false⟩, ⟨2, false⟩], [], [], 10⟩) rfl rfl rfl rfl ?_
    refine run_step hc (j := 4) (s' := ⟨[⟨0, false⟩, ⟨v, false⟩, ⟨0, false⟩, ⟨0, false⟩, ⟨0, false⟩, ⟨0, false⟩, ⟨0, false⟩, ⟨3, true⟩], [⟨5, false⟩, ⟨-3, false⟩, ⟨0, false⟩, ⟨7, false⟩, ⟨1, false⟩, ⟨2, false⟩], [], [], 3⟩) rfl rfl rfl rfl ?_
    refine run_step hc (j := 1) (s' := ⟨[⟨0, false⟩, ⟨v, false⟩, ⟨0, false⟩, ⟨0, false⟩, ⟨0, false⟩, ⟨0, false⟩, ⟨0, false⟩, ⟨3, true⟩], [⟨5, false⟩, ⟨-3, false⟩, ⟨0, false⟩, ⟨7, false⟩, ⟨1, false⟩, ⟨2, false⟩], [], [v], 5⟩) rfl rfl rfl rfl ?_
    refine run_stop hc (j := 2) rfl ?_ ?_ ?_
    · rfl
    · rfl
    · decide
  case h2 => rfl
def callsBL : List Ins := [⟨23, 0, 0, 0, 3, false⟩, ⟨17, 0, 7, 0, 0, false⟩]
theorem callsB_ok : ∀ i ∈ callsBL, i.chk = 0 := by decide
theorem callsB_run : ∃ s : Mc, runN (encAll (callsBL ++ [haltI])) [] 100 0 ⟨regs0, mem0, [], [], 0⟩ = (s, 4, 1) ∧ s.told = [] := by
  have hc := halt_chk (callsB_ok)
  refine ⟨?s, ?h1, ?h2⟩
  case h1 =>
    refine run_step hc (j := 0) (s' := ⟨[⟨0, false⟩, ⟨0, false⟩, ⟨0, false⟩, ⟨0, false⟩, ⟨0, false⟩, ⟨0, false⟩, ⟨0, false⟩, ⟨3, true⟩], [⟨5, false⟩, ⟨-3, false⟩, ⟨0, false⟩, ⟨7, false⟩, ⟨1, false⟩, ⟨2, false⟩], [], [], 3⟩) rfl rfl rfl rfl ?_
    refine run_stop hc (j := 1) rfl ?_ ?_ ?_
    · rfl
    · rfl
    · decide
  case h2 => rfl
def callsCL (v : Int) : List Ins := [⟨5, 7, 0, 0, v, false⟩, ⟨3, 0, 0, 0, 0, false⟩]
theorem callsC_ok {v : Int} (h0 : 0 ≤ v) (h1 : v ≤ 32767) : ∀ i ∈ (callsCL v), i.chk = 0 := by
  intro i hi
  simp [callsCL] at hi
  rcases hi with rfl | rfl
  all_goals first | decide | exact (ok5 (d := 7) (n := v) (by decide) (by decide) (by omega) (by omega) : Isa.chk 5 7 0 0 v false = 0)
theorem callsC_run (v : Int) (h0 : 0 ≤ v) (h1 : v ≤ 32767) : ∃ s : Mc, runN (encAll ((callsCL v) ++ [haltI])) [] 100 0 ⟨regs0, mem0, [], [], 0⟩ = (s, 4, 1) ∧ s.told = [] := by
  have hc := halt_chk (callsC_ok (v := v) h0 h1)
  refine ⟨?s, ?h1, ?h2⟩
  case h1 =>
    refine run_step hc (j := 0) (s' := ⟨[⟨0, false⟩, ⟨0, false⟩, ⟨0, false⟩, ⟨0, false⟩, ⟨0, false⟩, ⟨0, false⟩, ⟨0, false⟩, ⟨v, false⟩], [⟨5, false⟩, ⟨-3, false⟩, ⟨0, false⟩, ⟨7, false⟩, ⟨1, false⟩, ⟨2, false⟩], [], [], 4⟩) rfl rfl rfl rfl ?_
    refine run_stop hc (j := 1) rfl ?_ ?_ ?_
    · rfl
    · rfl
    · decide
  case h2 => rfl
def callsDL : List Ins := [⟨23, 0, 0, 0, 3, false⟩, ⟨15, 0, 0, 7, 2, false⟩, ⟨14, 1, 0, 0, 2, false⟩, ⟨6, 1, 1, 0, 1, false⟩]
theorem callsD_ok : ∀ i ∈ callsDL, i.chk = 0 := by decide
theorem callsD_run : ∃ s : Mc, runN (encAll (callsDL ++ [haltI])) [] 100 0 ⟨regs0, mem0, [], [], 0⟩ = (s, 4, 3) ∧ s.told = [] := by
  have hc := halt_chk (callsD_ok)
  refine ⟨?s, ?h1, ?h2⟩
  case h1 =>
    refine run_step hc (j := 0) (s' := ⟨[⟨0, false⟩, ⟨0, false⟩, ⟨0, false⟩, ⟨0, false⟩, ⟨0, false⟩, ⟨0, false⟩, ⟨0, false⟩, ⟨3, true⟩], [⟨5, false⟩, ⟨-3, false⟩, ⟨0, false⟩, ⟨7, false⟩, ⟨1, false⟩, ⟨2, false⟩], [], [], 3⟩) rfl rfl rfl rfl ?_
    refine run_step hc (j := 1) (s' := ⟨[⟨0, false⟩, ⟨0, false⟩, ⟨0, false⟩, ⟨0, false⟩, ⟨0, false⟩, ⟨0, false⟩, ⟨0, false⟩, ⟨3, true⟩], [⟨5, false⟩, ⟨-3, false⟩, ⟨3, true⟩, ⟨7, false⟩, ⟨1, false⟩, ⟨2, false⟩], [], [], 6⟩) rfl rfl rfl rfl ?_
    refine run_step hc (j := 2) (s' := ⟨[⟨0, false⟩, ⟨3, true⟩, ⟨0, false⟩, ⟨0, false⟩, ⟨0, false⟩, ⟨0, false⟩, ⟨0, false⟩, ⟨3, true⟩], [⟨5, false⟩, ⟨-3, false⟩, ⟨3, true⟩, ⟨7, false⟩, ⟨1, false⟩, ⟨2, false⟩], [], [], 9⟩) rfl rfl rfl rfl ?_
    refine run_stop hc (j := 3) rfl ?_ ?_ ?_
    · rfl
    · rfl
    · decide
  case h2 => rfl
end Go.Proofs.YtechpdfcgimkkaaDoor
