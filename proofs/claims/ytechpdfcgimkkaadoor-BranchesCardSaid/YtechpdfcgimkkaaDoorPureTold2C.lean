/-
  What the programs of boltholekeep's Branches, Memory and Loops tell.
-/
import Derived.Test.YtechpdfcgimkkaaDoorMSC
namespace Go.Proofs.YtechpdfcgimkkaaDoor
open Go.RowKit Go.Joins Isa
theorem doS_br {tabs : List (List Int)} {s : Mc} {k d a b n sz : Int} (h1 : 18 ≤ k) (h2 : k ≤ 21) : doS tabs s k d a b n sz = if takenB k (s.rs.getD a.toNat ⟨0, false⟩).n (s.rs.getD b.toNat ⟨0, false⟩).n = true then ⟨s.rs, s.mem, s.ins, s.told, s.pc + n⟩ else ⟨s.rs, s.mem, s.ins, s.told, s.pc + sz⟩ := by
  have e1 : opB k = false := by simp [opB]; omega
  have e2 : brB k = true := by simp [brB]; omega
  unfold doS
  rw [if_neg (by omega), if_neg (by omega), if_neg (by rw [e1]; simp), if_neg (by omega), if_neg (by omega), if_neg (by omega), if_neg (by omega)]
  cases h : takenB k (s.rs.getD a.toNat ⟨0, false⟩).n (s.rs.getD b.toNat ⟨0, false⟩).n
  · rw [if_pos (by rw [e2]; rfl), if_neg (by simp)]
  · rw [if_neg (by rw [e2]; decide), if_pos (by rw [e2]; rfl), if_pos rfl]
def branchL (k n : Int) (l : Bool) : List Ins := [⟨16, 1, 0, 0, 0, false⟩, ⟨16, 2, 0, 0, 0, false⟩, ⟨k, 0, 1, 2, n, l⟩, ⟨17, 0, 1, 0, 0, false⟩, ⟨17, 0, 2, 0, 0, false⟩]
theorem branch_ok {k : Int} {l : Bool} (h1 : 18 ≤ k) (h2 : k ≤ 21) : ∀ i ∈ branchL k (if l then 6 else 5) l, i.chk = 0 := by
  have hk : k = 18 ∨ k = 19 ∨ k = 20 ∨ k = 21 := by omega
  cases l <;> rcases hk with rfl | rfl | rfl | rfl <;> decide

theorem branch_run18f (x y : Int) : ∃ (s : Mc) (st : Int), runN (encAll (branchL 18 5 false ++ [haltI])) [] 100 0 ⟨regs0, mem0, [x, y], [], 0⟩ = (s, 1, st) ∧ s.told = if takenB 18 x y = true then [y] else [x, y] := by
  cases h : takenB 18 x y
  · rw [if_neg (by simp)]
    have hc := halt_chk (show ∀ i ∈ branchL 18 5 false, i.chk = 0 by decide)
    refine ⟨?s, ?st, ?h1, ?h2⟩
    case h1 =>
      refine run_step hc (j := 0) (s' := ⟨[⟨0, false⟩, ⟨x, false⟩, ⟨0, false⟩, ⟨0, false⟩, ⟨0, false⟩, ⟨0, false⟩, ⟨0, false⟩, ⟨0, false⟩], mem0, [y], [], 2⟩) rfl rfl rfl rfl ?_
      refine run_step hc (j := 1) (s' := ⟨[⟨0, false⟩, ⟨x, false⟩, ⟨y, false⟩, ⟨0, false⟩, ⟨0, false⟩, ⟨0, false⟩, ⟨0, false⟩, ⟨0, false⟩], mem0, [], [], 4⟩) rfl rfl rfl rfl ?_
      refine run_step hc (j := 2) (s' := ⟨[⟨0, false⟩, ⟨x, false⟩, ⟨y, false⟩, ⟨0, false⟩, ⟨0, false⟩, ⟨0, false⟩, ⟨0, false⟩, ⟨0, false⟩], mem0, [], [], 7⟩) rfl rfl rfl ((doS_br (by decide) (by decide)).trans (if_neg (fun hh => by have := h.symm.trans (show takenB 18 x y = true from hh); cases this))) ?_
      refine run_step hc (j := 3) (s' := ⟨[⟨0, false⟩, ⟨x, false⟩, ⟨y, false⟩, ⟨0, false⟩, ⟨0, false⟩, ⟨0, false⟩, ⟨0, false⟩, ⟨0, false⟩], mem0, [], [x], 9⟩) rfl rfl rfl rfl ?_
      refine run_step hc (j := 4) (s' := ⟨[⟨0, false⟩, ⟨x, false⟩, ⟨y, false⟩, ⟨0, false⟩, ⟨0, false⟩, ⟨0, false⟩, ⟨0, false⟩, ⟨0, false⟩], mem0, [], [x, y], 11⟩) rfl rfl rfl rfl ?_
      refine run_stop hc (j := 5) rfl ?_ ?_ ?_
      · rfl
      · rfl
      · decide
    case h2 => rfl
  · rw [if_pos rfl]
    have hc := halt_chk (show ∀ i ∈ branchL 18 5 false, i.chk = 0 by decide)
    refine ⟨?sb, ?stb, ?h1b, ?h2b⟩
    case h1b =>
      refine run_step hc (j := 0) (s' := ⟨[⟨0, false⟩, ⟨x, false⟩, ⟨0, false⟩, ⟨0, false⟩, ⟨0, false⟩, ⟨0, false⟩, ⟨0, false⟩, ⟨0, false⟩], mem0, [y], [], 2⟩) rfl rfl rfl rfl ?_
      refine run_step hc (j := 1) (s' := ⟨[⟨0, false⟩, ⟨x, false⟩, ⟨y, false⟩, ⟨0, false⟩, ⟨0, false⟩, ⟨0, false⟩, ⟨0, false⟩, ⟨0, false⟩], mem0, [], [], 4⟩) rfl rfl rfl rfl ?_
      refine run_step hc (j := 2) (s' := ⟨[⟨0, false⟩, ⟨x, false⟩, ⟨y, false⟩, ⟨0, false⟩, ⟨0, false⟩, ⟨0, false⟩, ⟨0, false⟩, ⟨0, false⟩], mem0, [], [], 9⟩) rfl rfl rfl ((doS_br (by decide) (by decide)).trans (if_pos h)) ?_
      refine run_step hc (j := 4) (s' := ⟨[⟨0, false⟩, ⟨x, false⟩, ⟨y, false⟩, ⟨0, false⟩, ⟨0, false⟩, ⟨0, false⟩, ⟨0, false⟩, ⟨0, false⟩], mem0, [], [y], 11⟩) rfl rfl rfl rfl ?_
      refine run_stop hc (j := 5) rfl ?_ ?_ ?_
      · rfl
      · rfl
      · decide
    case h2b => rfl
theorem branch_run18t (x y : Int) : ∃ (s : Mc) (st : Int), runN (encAll (branchL 18 6 true ++ [haltI])) [] 100 0 ⟨regs0, mem0, [x, y], [], 0⟩ = (s, 1, st) ∧ s.told = if takenB 18 x y = true then [y] else [x, y] := by
  cases h : takenB 18 x y
  · rw [if_neg (by simp)]
    have hc := halt_chk (show ∀ i ∈ branchL 18 6 true, i.chk = 0 by decide)
    refine ⟨?s, ?st, ?h1, ?h2⟩
    case h1 =>
      refine run_step hc (j := 0) (s' := ⟨[⟨0, false⟩, ⟨x, false⟩, ⟨0, false⟩, ⟨0, false⟩, ⟨0, false⟩, ⟨0, false⟩, ⟨0, false⟩, ⟨0, false⟩], mem0, [y], [], 2⟩) rfl rfl rfl rfl ?_
      refine run_step hc (j := 1) (s' := ⟨[⟨0, false⟩, ⟨x, false⟩, ⟨y, false⟩, ⟨0, false⟩, ⟨0, false⟩, ⟨0, false⟩, ⟨0, false⟩, ⟨0, false⟩], mem0, [], [], 4⟩) rfl rfl rfl rfl ?_
      refine run_step hc (j := 2) (s' := ⟨[⟨0, false⟩, ⟨x, false⟩, ⟨y, false⟩, ⟨0, false⟩, ⟨0, false⟩, ⟨0, false⟩, ⟨0, false⟩, ⟨0, false⟩], mem0, [], [], 8⟩) rfl rfl rfl ((doS_br (by decide) (by decide)).trans (if_neg (fun hh => by have := h.symm.trans (show takenB 18 x y = true from hh); cases this))) ?_
      refine run_step hc (j := 3) (s' := ⟨[⟨0, false⟩, ⟨x, false⟩, ⟨y, false⟩, ⟨0, false⟩, ⟨0, false⟩, ⟨0, false⟩, ⟨0, false⟩, ⟨0, false⟩], mem0, [], [x], 10⟩) rfl rfl rfl rfl ?_
      refine run_step hc (j := 4) (s' := ⟨[⟨0, false⟩, ⟨x, false⟩, ⟨y, false⟩, ⟨0, false⟩, ⟨0, false⟩, ⟨0, false⟩, ⟨0, false⟩, ⟨0, false⟩], mem0, [], [x, y], 12⟩) rfl rfl rfl rfl ?_
      refine run_stop hc (j := 5) rfl ?_ ?_ ?_
      · rfl
      · rfl
      · decide
    case h2 => rfl
  · rw [if_pos rfl]
    have hc := halt_chk (show ∀ i ∈ branchL 18 6 true, i.chk = 0 by decide)
    refine ⟨?sb, ?stb, ?h1b, ?h2b⟩
    case h1b =>
      refine run_step hc (j := 0) (s' := ⟨[⟨0, false⟩, ⟨x, false⟩, ⟨0, false⟩, ⟨0, false⟩, ⟨0, false⟩, ⟨0, false⟩, ⟨0, false⟩, ⟨0, false⟩], mem0, [y], [], 2⟩) rfl rfl rfl rfl ?_
      refine run_step hc (j := 1) (s' := ⟨[⟨0, false⟩, ⟨x, false⟩, ⟨y, false⟩, ⟨0, false⟩, ⟨0, false⟩, ⟨0, false⟩, ⟨0, false⟩, ⟨0, false⟩], mem0, [], [], 4⟩) rfl rfl rfl rfl ?_
      refine run_step hc (j := 2) (s' := ⟨[⟨0, false⟩, ⟨x, false⟩, ⟨y, false⟩, ⟨0, false⟩, ⟨0, false⟩, ⟨0, false⟩, ⟨0, false⟩, ⟨0, false⟩], mem0, [], [], 10⟩) rfl rfl rfl ((doS_br (by decide) (by decide)).trans (if_pos h)) ?_
      refine run_step hc (j := 4) (s' := ⟨[⟨0, false⟩, ⟨x, false⟩, ⟨y, false⟩, ⟨0, false⟩, ⟨0, false⟩, ⟨0, false⟩, ⟨0, false⟩, ⟨0, false⟩], mem0, [], [y], 12⟩) rfl rfl rfl rfl ?_
      refine run_stop hc (j := 5) rfl ?_ ?_ ?_
      · rfl
      · rfl
      · decide
    case h2b => rfl
theorem branch_run19f (x y : Int) : ∃ (s : Mc) (st : Int), runN (encAll (branchL 19 5 false ++ [haltI])) [] 100 0 ⟨regs0, mem0, [x, y], [], 0⟩ = (s, 1, st) ∧ s.told = if takenB 19 x y = true then [y] else [x, y] := by
  cases h : takenB 19 x y
  · rw [if_neg (by simp)]
    have hc := halt_chk (show ∀ i ∈ branchL 19 5 false, i.chk = 0 by decide)
    refine ⟨?s, ?st, ?h1, ?h2⟩
    case h1 =>
      refine run_step hc (j := 0) (s' := ⟨[⟨0, false⟩, ⟨x, false⟩, ⟨0, false⟩, ⟨0, false⟩, ⟨0, false⟩, ⟨0, false⟩, ⟨0, false⟩, ⟨0, false⟩], mem0, [y], [], 2⟩) rfl rfl rfl rfl ?_
      refine run_step hc (j := 1) (s' := ⟨[⟨0, false⟩, ⟨x, false⟩, ⟨y, false⟩, ⟨0, false⟩, ⟨0, false⟩, ⟨0, false⟩, ⟨0, false⟩, ⟨0, false⟩], mem0, [], [], 4⟩) rfl rfl rfl rfl ?_
      refine run_step hc (j := 2) (s' := ⟨[⟨0, false⟩, ⟨x, false⟩, ⟨y, false⟩, ⟨0, false⟩, ⟨0, false⟩, ⟨0, false⟩, ⟨0, false⟩, ⟨0, false⟩], mem0, [], [], 7⟩) rfl rfl rfl ((doS_br (by decide) (by decide)).trans (if_neg (fun hh => by have := h.symm.trans (show takenB 19 x y = true from hh); cases this))) ?_
      refine run_step hc (j := 3) (s' := ⟨[⟨0, false⟩, ⟨x, false⟩, ⟨y, false⟩, ⟨0, false⟩, ⟨0, false⟩, ⟨0, false⟩, ⟨0, false⟩, ⟨0, false⟩], mem0, [], [x], 9⟩) rfl rfl rfl rfl ?_
      refine run_step hc (j := 4) (s' := ⟨[⟨0, false⟩, ⟨x, false⟩, ⟨y, false⟩, ⟨0, false⟩, ⟨0, false⟩, ⟨0, false⟩, ⟨0, false⟩, ⟨0, false⟩], mem0, [], [x, y], 11⟩) rfl rfl rfl rfl ?_
      refine run_stop hc (j := 5) rfl ?_ ?_ ?_
      · rfl
      · rfl
      · decide
    case h2 => rfl
  · rw [if_pos rfl]
    have hc := halt_chk (show ∀ i ∈ branchL 19 5 false, i.chk = 0 by decide)
    refine ⟨?sb, ?stb, ?h1b, ?h2b⟩
    case h1b =>
      refine run_step hc (j := 0) (s' := ⟨[⟨0, false⟩, ⟨x, false⟩, ⟨0, false⟩, ⟨0, false⟩, ⟨0, false⟩, ⟨0, false⟩, ⟨0, false⟩, ⟨0, false⟩], mem0, [y], [], 2⟩) rfl rfl rfl rfl ?_
      refine run_step hc (j := 1) (s' := ⟨[⟨0, false⟩, ⟨x, false⟩, ⟨y, false⟩, ⟨0, false⟩, ⟨0, false⟩, ⟨0, false⟩, ⟨0, false⟩, ⟨0, false⟩], mem0, [], [], 4⟩) rfl rfl rfl rfl ?_
      refine run_step hc (j := 2) (s' := ⟨[⟨0, false⟩, ⟨x, false⟩, ⟨y, false⟩, ⟨0, false⟩, ⟨0, false⟩, ⟨0, false⟩, ⟨0, false⟩, ⟨0, false⟩], mem0, [], [], 9⟩) rfl rfl rfl ((doS_br (by decide) (by decide)).trans (if_pos h)) ?_
      refine run_step hc (j := 4) (s' := ⟨[⟨0, false⟩, ⟨x, false⟩, ⟨y, false⟩, ⟨0, false⟩, ⟨0, false⟩, ⟨0, false⟩, ⟨0, false⟩, ⟨0, false⟩], mem0, [], [y], 11⟩) rfl rfl rfl rfl ?_
      refine run_stop hc (j := 5) rfl ?_ ?_ ?_
      · rfl
      · rfl
      · decide
    case h2b => rfl
theorem branch_run19t (x y : Int) : ∃ (s : Mc) (st : Int), runN (encAll (branchL 19 6 true ++ [haltI])) [] 100 0 ⟨regs0, mem0, [x, y], [], 0⟩ = (s, 1, st) ∧ s.told = if takenB 19 x y = true then [y] else [x, y] := by
  cases h : takenB 19 x y
  · rw [if_neg (by simp)]
    have hc := halt_chk (show ∀ i ∈ branchL 19 6 true, i.chk = 0 by decide)
    refine ⟨?s, ?st, ?h1, ?h2⟩
    case h1 =>
      refine run_step hc (j := 0) (s' := ⟨[⟨0, false⟩, ⟨x, false⟩, ⟨0, false⟩, ⟨0, false⟩, ⟨0, false⟩, ⟨0, false⟩, ⟨0, false⟩, ⟨0, false⟩], mem0, [y], [], 2⟩) rfl rfl rfl rfl ?_
      refine run_step hc (j := 1) (s' := ⟨[⟨0, false⟩, ⟨x, false⟩, ⟨y, false⟩, ⟨0, false⟩, ⟨0, false⟩, ⟨0, false⟩, ⟨0, false⟩, ⟨0, false⟩], mem0, [], [], 4⟩) rfl rfl rfl rfl ?_
      refine run_step hc (j := 2) (s' := ⟨[⟨0, false⟩, ⟨x, false⟩, ⟨y, false⟩, ⟨0, false⟩, ⟨0, false⟩, ⟨0, false⟩, ⟨0, false⟩, ⟨0, false⟩], mem0, [], [], 8⟩) rfl rfl rfl ((doS_br (by decide) (by decide)).trans (if_neg (fun hh => by have := h.symm.trans (show takenB 19 x y = true from hh); cases this))) ?_
      refine run_step hc (j := 3) (s' := ⟨[⟨0, false⟩, ⟨x, false⟩, ⟨y, false⟩, ⟨0, false⟩, ⟨0, false⟩, ⟨0, false⟩, ⟨0, false⟩, ⟨0, false⟩], mem0, [], [x], 10⟩) rfl rfl rfl rfl ?_
      refine run_step hc (j := 4) (s' := ⟨[⟨0, false⟩, ⟨x, false⟩, ⟨y, false⟩, ⟨0, false⟩, ⟨0, false⟩, ⟨0, false⟩, ⟨0, false⟩, ⟨0, false⟩], mem0, [], [x, y], 12⟩) rfl rfl rfl rfl ?_
      refine run_stop hc (j := 5) rfl ?_ ?_ ?_
      · rfl
      · rfl
      · decide
    case h2 => rfl
  · rw [if_pos rfl]
    have hc := halt_chk (show ∀ i ∈ branchL 19 6 true, i.chk = 0 by decide)
    refine ⟨?sb, ?stb, ?h1b, ?h2b⟩
    case h1b =>
      refine run_step hc (j := 0) (s' := ⟨[⟨0, false⟩, ⟨x, false⟩, ⟨0, false⟩, ⟨0, false⟩, ⟨0, false⟩, ⟨0, false⟩, ⟨0, false⟩, ⟨0, false⟩], mem0, [y], [], 2⟩) rfl rfl rfl rfl ?_
      refine run_step hc (j := 1) (s' := ⟨[⟨0, false⟩, ⟨x, false⟩, ⟨y, false⟩, ⟨0, false⟩, ⟨0, false⟩, ⟨0, false⟩, ⟨0, false⟩, ⟨0, false⟩], mem0, [], [], 4⟩) rfl rfl rfl rfl ?_
      refine run_step hc (j := 2) (s' := ⟨[⟨0, false⟩, ⟨x, false⟩, ⟨y, false⟩, ⟨0, false⟩, ⟨0, false⟩, ⟨0, false⟩, ⟨0, false⟩, ⟨0, false⟩], mem0, [], [], 10⟩) rfl rfl rfl ((doS_br (by decide) (by decide)).trans (if_pos h)) ?_
      refine run_step hc (j := 4) (s' := ⟨[⟨0, false⟩, ⟨x, false⟩, ⟨y, false⟩, ⟨0, false⟩, ⟨0, false⟩, ⟨0, false⟩, ⟨0, false⟩, ⟨0, false⟩], mem0, [], [y], 12⟩) rfl rfl rfl rfl ?_
      refine run_stop hc (j := 5) rfl ?_ ?_ ?_
      · rfl
      · rfl
      · decide
    case h2b => rfl
theorem branch_run20f (x y : Int) : ∃ (s : Mc) (st : Int), runN (encAll (branchL 20 5 false ++ [haltI])) [] 100 0 ⟨regs0, mem0, [x, y], [], 0⟩ = (s, 1, st) ∧ s.told = if takenB 20 x y = true then [y] else [x, y] := by
  cases h : takenB 20 x y
  · rw [if_neg (by simp)]
    have hc := halt_chk (show ∀ i ∈ branchL 20 5 false, i.chk = 0 by decide)
    refine ⟨?s, ?st, ?h1, ?h2⟩
    case h1 =>
      refine run_step hc (j := 0) (s' := ⟨[⟨0, false⟩, ⟨x, false⟩, ⟨0, false⟩, ⟨0, false⟩, ⟨0, false⟩, ⟨0, false⟩, ⟨0, false⟩, ⟨0, false⟩], mem0, [y], [], 2⟩) rfl rfl rfl rfl ?_
      refine run_step hc (j := 1) (s' := ⟨[⟨0, false⟩, ⟨x, false⟩, ⟨y, false⟩, ⟨0, false⟩, ⟨0, false⟩, ⟨0, false⟩, ⟨0, false⟩, ⟨0, false⟩], mem0, [], [], 4⟩) rfl rfl rfl rfl ?_
      refine run_step hc (j := 2) (s' := ⟨[⟨0, false⟩, ⟨x, false⟩, ⟨y, false⟩, ⟨0, false⟩, ⟨0, false⟩, ⟨0, false⟩, ⟨0, false⟩, ⟨0, false⟩], mem0, [], [], 7⟩) rfl rfl rfl ((doS_br (by decide) (by decide)).trans (if_neg (fun hh => by have := h.symm.trans (show takenB 20 x y = true from hh); cases this))) ?_
      refine run_step hc (j := 3) (s' := ⟨[⟨0, false⟩, ⟨x, false⟩, ⟨y, false⟩, ⟨0, false⟩, ⟨0, false⟩, ⟨0, false⟩, ⟨0, false⟩, ⟨0, false⟩], mem0, [], [x], 9⟩) rfl rfl rfl rfl ?_
      refine run_step hc (j := 4) (s' := ⟨[⟨0, false⟩, ⟨x, false⟩, ⟨y, false⟩, ⟨0, false⟩, ⟨0, false⟩, ⟨0, false⟩, ⟨0, false⟩, ⟨0, false⟩], mem0, [], [x, y], 11⟩) rfl rfl rfl rfl ?_
      refine run_stop hc (j := 5) rfl ?_ ?_ ?_
      · rfl
      · rfl
      · decide
    case h2 => rfl
  · rw [if_pos rfl]
    have hc := halt_chk (show ∀ i ∈ branchL 20 5 false, i.chk = 0 by decide)
    refine ⟨?sb, ?stb, ?h1b, ?h2b⟩
    case h1b =>
      refine run_step hc (j := 0) (s' := ⟨[⟨0, false⟩, ⟨x, false⟩, ⟨0, false⟩, ⟨0, false⟩, ⟨0, false⟩, ⟨0, false⟩, ⟨0, false⟩, ⟨0, false⟩], mem0, [y], [], 2⟩) rfl rfl rfl rfl ?_
      refine run_step hc (j := 1) (s' := ⟨[⟨0, false⟩, ⟨x, false⟩, ⟨y, false⟩, ⟨0, false⟩, ⟨0, false⟩, ⟨0, false⟩, ⟨0, false⟩, ⟨0, false⟩], mem0, [], [], 4⟩) rfl rfl rfl rfl ?_
      refine run_step hc (j := 2) (s' := ⟨[⟨0, false⟩, ⟨x, false⟩, ⟨y, false⟩, ⟨0, false⟩, ⟨0, false⟩, ⟨0, false⟩, ⟨0, false⟩, ⟨0, false⟩], mem0, [], [], 9⟩) rfl rfl rfl ((doS_br (by decide) (by decide)).trans (if_pos h)) ?_
      refine run_step hc (j := 4) (s' := ⟨[⟨0, false⟩, ⟨x, false⟩, ⟨y, false⟩, ⟨0, false⟩, ⟨0, false⟩, ⟨0, false⟩, ⟨0, false⟩, ⟨0, false⟩], mem0, [], [y], 11⟩) rfl rfl rfl rfl ?_
      refine run_stop hc (j := 5) rfl ?_ ?_ ?_
      · rfl
      · rfl
      · decide
    case h2b => rfl
theorem branch_run20t (x y : Int) : ∃ (s : Mc) (st : Int), runN (encAll (branchL 20 6 true ++ [haltI])) [] 100 0 ⟨regs0, mem0, [x, y], [], 0⟩ = (s, 1, st) ∧ s.told = if takenB 20 x y = true then [y] else [x, y] := by
  cases h : takenB 20 x y
  · rw [if_neg (by simp)]
    have hc := halt_chk (show ∀ i ∈ branchL 20 6 true, i.chk = 0 by decide)
    refine ⟨?s, ?st, ?h1, ?h2⟩
    case h1 =>
      refine run_step hc (j := 0) (s' := ⟨[⟨0, false⟩, ⟨x, false⟩, ⟨0, false⟩, ⟨0, false⟩, ⟨0, false⟩, ⟨0, false⟩, ⟨0, false⟩, ⟨0, false⟩], mem0, [y], [], 2⟩) rfl rfl rfl rfl ?_
      refine run_step hc (j := 1) (s' := ⟨[⟨0, false⟩, ⟨x, false⟩, ⟨y, false⟩, ⟨0, false⟩, ⟨0, false⟩, ⟨0, false⟩, ⟨0, false⟩, ⟨0, false⟩], mem0, [], [], 4⟩) rfl rfl rfl rfl ?_
      refine run_step hc (j := 2) (s' := ⟨[⟨0, false⟩, ⟨x, false⟩, ⟨y, false⟩, ⟨0, false⟩, ⟨0, false⟩, ⟨0, false⟩, ⟨0, false⟩, ⟨0, false⟩], mem0, [], [], 8⟩) rfl rfl rfl ((doS_br (by decide) (by decide)).trans (if_neg (fun hh => by have := h.symm.trans (show takenB 20 x y = true from hh); cases this))) ?_
      refine run_step hc (j := 3) (s' := ⟨[⟨0, false⟩, ⟨x, false⟩, ⟨y, false⟩, ⟨0, false⟩, ⟨0, false⟩, ⟨0, false⟩, ⟨0, false⟩, ⟨0, false⟩], mem0, [], [x], 10⟩) rfl rfl rfl rfl ?_
      refine run_step hc (j := 4) (s' := ⟨[⟨0, false⟩, ⟨x, false⟩, ⟨y, false⟩, ⟨0, false⟩, ⟨0, false⟩, ⟨0, false⟩, ⟨0, false⟩, ⟨0, false⟩], mem0, [], [x, y], 12⟩) rfl rfl rfl rfl ?_
      refine run_stop hc (j := 5) rfl ?_ ?_ ?_
      · rfl
      · rfl
      · decide
    case h2 => rfl
  · rw [if_pos rfl]
    have hc := halt_chk (show ∀ i ∈ branchL 20 6 true, i.chk = 0 by decide)
    refine ⟨?sb, ?stb, ?h1b, ?h2b⟩
    case h1b =>
      refine run_step hc (j := 0) (s' := ⟨[⟨0, false⟩, ⟨x, false⟩, ⟨0, false⟩, ⟨0, false⟩, ⟨0, false⟩, ⟨0, false⟩, ⟨0, false⟩, ⟨0, false⟩], mem0, [y], [], 2⟩) rfl rfl rfl rfl ?_
      refine run_step hc (j := 1) (s' := ⟨[⟨0, false⟩, ⟨x, false⟩, ⟨y, false⟩, ⟨0, false⟩, ⟨0, false⟩, ⟨0, false⟩, ⟨0, false⟩, ⟨0, false⟩], mem0, [], [], 4⟩) rfl rfl rfl rfl ?_
      refine run_step hc (j := 2) (s' := ⟨[⟨0, false⟩, ⟨x, false⟩, ⟨y, false⟩, ⟨0, false⟩, ⟨0, false⟩, ⟨0, false⟩, ⟨0, false⟩, ⟨0, false⟩], mem0, [], [], 10⟩) rfl rfl rfl ((doS_br (by decide) (by decide)).trans (if_pos h)) ?_
      refine run_step hc (j := 4) (s' := ⟨[⟨0, false⟩, ⟨x, false⟩, ⟨y, false⟩, ⟨0, false⟩, ⟨0, false⟩, ⟨0, false⟩, ⟨0, false⟩, ⟨0, false⟩], mem0, [], [y], 12⟩) rfl rfl rfl rfl ?_
      refine run_stop hc (j := 5) rfl ?_ ?_ ?_
      · rfl
      · rfl
      · decide
    case h2b => rfl
theorem branch_run21f (x y : Int) : ∃ (s : Mc) (st : Int), runN (encAll (branchL 21 5 false ++ [haltI])) [] 100 0 ⟨regs0, mem0, [x, y], [], 0⟩ = (s, 1, st) ∧ s.told = if takenB 21 x y = true then [y] else [x, y] := by
  cases h : takenB 21 x y
  · rw [if_neg (by simp)]
    have hc := halt_chk (show ∀ i ∈ branchL 21 5 false, i.chk = 0 by decide)
    refine ⟨?s, ?st, ?h1, ?h2⟩
    case h1 =>
      refine run_step hc (j := 0) (s' := ⟨[⟨0, false⟩, ⟨x, false⟩, ⟨0, false⟩, ⟨0, false⟩, ⟨0, false⟩, ⟨0, false⟩, ⟨0, false⟩, ⟨0, false⟩], mem0, [y], [], 2⟩) rfl rfl rfl rfl ?_
      refine run_step hc (j := 1) (s' := ⟨[⟨0, false⟩, ⟨x, false⟩, ⟨y, false⟩, ⟨0, false⟩, ⟨0, false⟩, ⟨0, false⟩, ⟨0, false⟩, ⟨0, false⟩], mem0, [], [], 4⟩) rfl rfl rfl rfl ?_
      refine run_step hc (j := 2) (s' := ⟨[⟨0, false⟩, ⟨x, false⟩, ⟨y, false⟩, ⟨0, false⟩, ⟨0, false⟩, ⟨0, false⟩, ⟨0, false⟩, ⟨0, false⟩], mem0, [], [], 7⟩) rfl rfl rfl ((doS_br (by decide) (by decide)).trans (if_neg (fun hh => by have := h.symm.trans (show takenB 21 x y = true from hh); cases this))) ?_
      refine run_step hc (j := 3) (s' := ⟨[⟨0, false⟩, ⟨x, false⟩, ⟨y, false⟩, ⟨0, false⟩, ⟨0, false⟩, ⟨0, false⟩, ⟨0, false⟩, ⟨0, false⟩], mem0, [], [x], 9⟩) rfl rfl rfl rfl ?_
      refine run_step hc (j := 4) (s' := ⟨[⟨0, false⟩, ⟨x, false⟩, ⟨y, false⟩, ⟨0, false⟩, ⟨0, false⟩, ⟨0, false⟩, ⟨0, false⟩, ⟨0, false⟩], mem0, [], [x, y], 11⟩) rfl rfl rfl rfl ?_
      refine run_stop hc (j := 5) rfl ?_ ?_ ?_
      · rfl
      · rfl
      · decide
    case h2 => rfl
  · rw [if_pos rfl]
    have hc := halt_chk (show ∀ i ∈ branchL 21 5 false, i.chk = 0 by decide)
    refine ⟨?sb, ?stb, ?h1b, ?h2b⟩
    case h1b =>
      refine run_step hc (j := 0) (s' := ⟨[⟨0, false⟩, ⟨x, false⟩, ⟨0, false⟩, ⟨0, false⟩, ⟨0, false⟩, ⟨0, false⟩, ⟨0, false⟩, ⟨0, false⟩], mem0, [y], [], 2⟩) rfl rfl rfl rfl ?_
      refine run_step hc (j := 1) (s' := ⟨[⟨0, false⟩, ⟨x, false⟩, ⟨y, false⟩, ⟨0, false⟩, ⟨0, false⟩, ⟨0, false⟩, ⟨0, false⟩, ⟨0, false⟩], mem0, [], [], 4⟩) rfl rfl rfl rfl ?_
      refine run_step hc (j := 2) (s' := ⟨[⟨0, false⟩, ⟨x, false⟩, ⟨y, false⟩, ⟨0, false⟩, ⟨0, false⟩, ⟨0, false⟩, ⟨0, false⟩, ⟨0, false⟩], mem0, [], [], 9⟩) rfl rfl rfl ((doS_br (by decide) (by decide)).trans (if_pos h)) ?_
      refine run_step hc (j := 4) (s' := ⟨[⟨0, false⟩, ⟨x, false⟩, ⟨y, false⟩, ⟨0, false⟩, ⟨0, false⟩, ⟨0, false⟩, ⟨0, false⟩, ⟨0, false⟩], mem0, [], [y], 11⟩) rfl rfl rfl rfl ?_
      refine run_stop hc (j := 5) rfl ?_ ?_ ?_
      · rfl
      · rfl
      · decide
    case h2b => rfl
theorem branch_run21t (x y : Int) : ∃ (s : Mc) (st : Int), runN (encAll (branchL 21 6 true ++ [haltI])) [] 100 0 ⟨regs0, mem0, [x, y], [], 0⟩ = (s, 1, st) ∧ s.told = if takenB 21 x y = true then [y] else [x, y] := by
  cases h : takenB 21 x y
  · rw [if_neg (by simp)]
    have hc := halt_chk (show ∀ i ∈ branchL 21 6 true, i.chk = 0 by decide)
    refine ⟨?s, ?st, ?h1, ?h2⟩
    case h1 =>
      refine run_step hc (j := 0) (s' := ⟨[⟨0, false⟩, ⟨x, false⟩, ⟨0, false⟩, ⟨0, false⟩, ⟨0, false⟩, ⟨0, false⟩, ⟨0, false⟩, ⟨0, false⟩], mem0, [y], [], 2⟩) rfl rfl rfl rfl ?_
      refine run_step hc (j := 1) (s' := ⟨[⟨0, false⟩, ⟨x, false⟩, ⟨y, false⟩, ⟨0, false⟩, ⟨0, false⟩, ⟨0, false⟩, ⟨0, false⟩, ⟨0, false⟩], mem0, [], [], 4⟩) rfl rfl rfl rfl ?_
      refine run_step hc (j := 2) (s' := ⟨[⟨0, false⟩, ⟨x, false⟩, ⟨y, false⟩, ⟨0, false⟩, ⟨0, false⟩, ⟨0, false⟩, ⟨0, false⟩, ⟨0, false⟩], mem0, [], [], 8⟩) rfl rfl rfl ((doS_br (by decide) (by decide)).trans (if_neg (fun hh => by have := h.symm.trans (show takenB 21 x y = true from hh); cases this))) ?_
      refine run_step hc (j := 3) (s' := ⟨[⟨0, false⟩, ⟨x, false⟩, ⟨y, false⟩, ⟨0, false⟩, ⟨0, false⟩, ⟨0, false⟩, ⟨0, false⟩, ⟨0, false⟩], mem0, [], [x], 10⟩) rfl rfl rfl rfl ?_
      refine run_step hc (j := 4) (s' := ⟨[⟨0, false⟩, ⟨x, false⟩, ⟨y, false⟩, ⟨0, false⟩, ⟨0, false⟩, ⟨0, false⟩, ⟨0, false⟩, ⟨0, false⟩], mem0, [], [x, y], 12⟩) rfl rfl rfl rfl ?_
      refine run_stop hc (j := 5) rfl ?_ ?_ ?_
      · rfl
      · rfl
      · decide
    case h2 => rfl
  · rw [if_pos rfl]
    have hc := halt_chk (show ∀ i ∈ branchL 21 6 true, i.chk = 0 by decide)
    refine ⟨?sb, ?stb, ?h1b, ?h2b⟩
    case h1b =>
      refine run_step hc (j := 0) (s' := ⟨[⟨0, false⟩, ⟨x, false⟩, ⟨0, false⟩, ⟨0, false⟩, ⟨0, false⟩, ⟨0, false⟩, ⟨0, false⟩, ⟨0, false⟩], mem0, [y], [], 2⟩) rfl rfl rfl rfl ?_
      refine run_step hc (j := 1) (s' := ⟨[⟨0, false⟩, ⟨x, false⟩, ⟨y, false⟩, ⟨0, false⟩, ⟨0, false⟩, ⟨0, false⟩, ⟨0, false⟩, ⟨0, false⟩], mem0, [], [], 4⟩) rfl rfl rfl rfl ?_
      refine run_step hc (j := 2) (s' := ⟨[⟨0, false⟩, ⟨x, false⟩, ⟨y, false⟩, ⟨0, false⟩, ⟨0, false⟩, ⟨0, false⟩, ⟨0, false⟩, ⟨0, false⟩], mem0, [], [], 10⟩) rfl rfl rfl ((doS_br (by decide) (by decide)).trans (if_pos h)) ?_
      refine run_step hc (j := 4) (s' := ⟨[⟨0, false⟩, ⟨x, false⟩, ⟨y, false⟩, ⟨0, false⟩, ⟨0, false⟩, ⟨0, false⟩, ⟨0, false⟩, ⟨0, false⟩], mem0, [], [y], 12⟩) rfl rfl rfl rfl ?_
      refine run_stop hc (j := 5) rfl ?_ ?_ ?_
      · rfl
      · rfl
      · decide
    case h2b => rfl
theorem branch_run (k x y : Int) (l : Bool) (h1 : 18 ≤ k) (h2 : k ≤ 21) : ∃ (s : Mc) (st : Int), runN (encAll (branchL k (if l then 6 else 5) l ++ [haltI])) [] 100 0 ⟨regs0, mem0, [x, y], [], 0⟩ = (s, 1, st) ∧ s.told = if takenB k x y = true then [y] else [x, y] := by
  have hk : k = 18 ∨ k = 19 ∨ k = 20 ∨ k = 21 := by omega
  cases l
  · rcases hk with rfl | rfl | rfl | rfl
    · exact branch_run18f x y
    · exact branch_run19f x y
    · exact branch_run20f x y
    · exact branch_run21f x y
  · rcases hk with rfl | rfl | rfl | rfl
    · exact branch_run18t x y
    · exact branch_run19t x y
    · exact branch_run20t x y
    · exact branch_run21t x y
def memN : List Int := [5, -3, 0, 7, 1, 2]
def memAL (a b v : Int) : List Ins := [⟨5, 1, 0, 0, v, false⟩, ⟨15, 0, 0, 1, a, false⟩, ⟨14, 2, 0, 0, a, false⟩, ⟨17, 0, 2, 0, 0, false⟩, ⟨14, 3, 0, 0, b, false⟩, ⟨17, 0, 3, 0, 0, false⟩]
def wasN (a b v : Int) : Int := if a = b then v else memN.getD b.toNat 0
theorem memA_ok {a b v : Int} (a0 : 0 ≤ a) (a1 : a < 6) (b0 : 0 ≤ b) (b1 : b < 6) (v0 : 0 ≤ v) (v1 : v < 1000) : ∀ i ∈ memAL a b v, i.chk = 0 := by
  intro i hi
  simp only [memAL, List.mem_cons, List.not_mem_nil, or_false] at hi
  rcases hi with rfl | rfl | rfl | rfl | rfl | rfl
  · exact (ok5 (by decide) (by decide) (by omega) (by omega) : Isa.chk 5 1 0 0 v false = 0)
  · exact (ok15 (by decide) (by decide) (by decide) (by decide) (by omega) (by omega) : Isa.chk 15 0 0 1 a false = 0)
  · exact (ok14 (by decide) (by decide) (by decide) (by decide) (by omega) (by omega) : Isa.chk 14 2 0 0 a false = 0)
  · decide
  · exact (ok14 (by decide) (by decide) (by decide) (by decide) (by omega) (by omega) : Isa.chk 14 3 0 0 b false = 0)
  · decide
theorem memA_run (a b v : Int) (a0 : 0 ≤ a) (a1 : a < 6) (b0 : 0 ≤ b) (b1 : b < 6) (v0 : 0 ≤ v) (v1 : v < 1000) : runN (encAll (memAL a b v ++ [haltI])) [] 100 0 ⟨regs0, mem0, [], [], 0⟩ = (⟨[⟨0, false⟩, ⟨v, false⟩, ⟨v, false⟩, ⟨wasN a b v, false⟩, ⟨0, false⟩, ⟨0, false⟩, ⟨0, false⟩, ⟨0, false⟩], mem0.set a.toNat ⟨v, false⟩, [], [v, wasN a b v], 17⟩, 1, 6) := by
  have hc := halt_chk (memA_ok a0 a1 b0 b1 v0 v1)
  have ha : a = 0 ∨ a = 1 ∨ a = 2 ∨ a = 3 ∨ a = 4 ∨ a = 5 := by omega
  have hb : b = 0 ∨ b = 1 ∨ b = 2 ∨ b = 3 ∨ b = 4 ∨ b = 5 := by omega
  rcases ha with rfl | rfl | rfl | rfl | rfl | rfl
  all_goals
    rcases hb with rfl | rfl | rfl | rfl | rfl | rfl
    all_goals
      refine run_step hc (j := 0) rfl rfl rfl rfl ?_
      refine run_step hc (j := 1) rfl rfl rfl rfl ?_
      refine run_step hc (j := 2) rfl rfl rfl rfl ?_
      refine run_step hc (j := 3) rfl rfl rfl rfl ?_
      refine run_step hc (j := 4) rfl rfl rfl rfl ?_
      refine run_step hc (j := 5) rfl rfl rfl rfl ?_
      exact run_stop hc (j := 6) rfl rfl rfl (by decide)
def memBL (a : Int) : List Ins := [⟨14, 2, 0, 0, 6 + a, false⟩]
theorem memB_ok {a : Int} (a0 : 0 ≤ a) (a1 : a < 6) : ∀ i ∈ memBL a, i.chk = 0 := by
  intro i hi
  have : i = ⟨14, 2, 0, 0, 6 + a, false⟩ := by simpa [memBL] using hi
  subst this
  exact (ok14 (by decide) (by decide) (by decide) (by decide) (by omega) (by omega) : Isa.chk 14 2 0 0 (6 + a) false = 0)
theorem memB_run (a : Int) (a0 : 0 ≤ a) (a1 : a < 6) : runN (encAll (memBL a ++ [haltI])) [] 100 0 ⟨regs0, mem0, [], [], 0⟩ = (⟨regs0, mem0, [], [], 0⟩, 2, 0) := by
  have hc := halt_chk (memB_ok a0 a1)
  have ha : a = 0 ∨ a = 1 ∨ a = 2 ∨ a = 3 ∨ a = 4 ∨ a = 5 := by omega
  rcases ha with rfl | rfl | rfl | rfl | rfl | rfl
  all_goals exact run_stop hc (j := 0) rfl rfl rfl (by decide)
def memCL (a : Int) : List Ins := [⟨15, 0, 0, 0, -1 - a, false⟩]
theorem memC_ok {a : Int} (a0 : 0 ≤ a) (a1 : a < 6) : ∀ i ∈ memCL a, i.chk = 0 := by
  intro i hi
  have : i = ⟨15, 0, 0, 0, -1 - a, false⟩ := by simpa [memCL] using hi
  subst this
  exact (ok15 (by decide) (by decide) (by decide) (by decide) (by omega) (by omega) : Isa.chk 15 0 0 0 (-1 - a) false = 0)
theorem memC_run (a : Int) (a0 : 0 ≤ a) (a1 : a < 6) : runN (encAll (memCL a ++ [haltI])) [] 100 0 ⟨regs0, mem0, [], [], 0⟩ = (⟨regs0, mem0, [], [], 0⟩, 2, 0) := by
  have hc := halt_chk (memC_ok a0 a1)
  have ha : a = 0 ∨ a = 1 ∨ a = 2 ∨ a = 3 ∨ a = 4 ∨ a = 5 := by omega
  rcases ha with rfl | rfl | rfl | rfl | rfl | rfl
  all_goals exact run_stop hc (j := 0) rfl rfl rfl (by decide)
def loopL (k : Int) : List Ins := [⟨5, 1, 0, 0, k, false⟩, ⟨17, 0, 1, 0, 0, false⟩, ⟨6, 1, 1, 0, -1, false⟩, ⟨19, 0, 1, 0, -5, false⟩]
theorem loop_ok {k : Int} (k0 : 1 ≤ k) (k1 : k ≤ 60) : ∀ i ∈ loopL k, i.chk = 0 := by
  intro i hi
  simp only [loopL, List.mem_cons, List.not_mem_nil, or_false] at hi
  rcases hi with rfl | rfl | rfl | rfl
  · exact (ok5 (by decide) (by decide) (by omega) (by omega) : Isa.chk 5 1 0 0 k false = 0)
  all_goals decide
def loopS (r : Int) (t : List Int) (pc : Int) : Mc := ⟨[⟨0, false⟩, ⟨r, false⟩, ⟨0, false⟩, ⟨0, false⟩, ⟨0, false⟩, ⟨0, false⟩, ⟨0, false⟩, ⟨0, false⟩], mem0, [], t, pc⟩
/-- One round of three steps. -/
theorem loop_round {k : Int} (k0 : 1 ≤ k) (k1 : k ≤ 60) (j : Int) (h1 : 1 ≤ j) (h2 : j ≤ 60) (t : List Int) (n : Nat) (st : Int) : runN (encAll (loopL k ++ [haltI])) [] (n + 3) st (loopS j t 4) = runN (encAll (loopL k ++ [haltI])) [] n (st + 1 + 1 + 1) (loopS (j - 1) (t ++ [j]) (if j = 1 then 12 else 4)) := by
  have hc := halt_chk (loop_ok k0 k1)
  have hf : foldN (j + -1) = j - 1 := foldN_one ⟨0, by omega⟩ (by omega) (by omega)
  refine run_step hc (j := 1) (s' := loopS j (t ++ [j]) 6) rfl rfl rfl rfl ?_
  refine run_step hc (j := 2) (s' := loopS (j - 1) (t ++ [j]) 9) rfl rfl rfl ?_ ?_
  · rw [← hf]; rfl
  refine run_step hc (j := 3) (s' := loopS (j - 1) (t ++ [j]) (if j = 1 then 12 else 4)) rfl rfl rfl ((doS_br (by decide) (by decide)).trans ?_) rfl
  by_cases h : j = 1
  · subst h; rfl
  · have hz : takenB 19 (j - 1) 0 = true := by simp [takenB]; omega
    refine (if_pos (show takenB 19 (j - 1) 0 = true from hz)).trans ?_
    rw [if_neg h]; rfl
/-- From j down to 1. -/
def downN : Nat → List Int
  | 0 => []
  | n + 1 => ((n : Int) + 1) :: downN n
theorem downN_len : ∀ n, (downN n).length = n
  | 0 => rfl
  | n + 1 => by rw [downN, List.length_cons, downN_len n]
theorem downN_last : ∀ n, (downN (n + 1)).getD n 0 = 1
  | 0 => rfl
  | n + 1 => by rw [downN, List.getD_cons_succ]; exact downN_last n
theorem loop_rounds {k : Int} (k0 : 1 ≤ k) (k1 : k ≤ 60) : ∀ (j : Nat) (_h2 : j ≤ 59) (t : List Int) (n : Nat) (st : Int), runN (encAll (loopL k ++ [haltI])) [] (n + 3 * (j + 1)) st (loopS ((j : Int) + 1) t 4) = runN (encAll (loopL k ++ [haltI])) [] n (st + 3 * ((j : Int) + 1)) (loopS 0 (t ++ downN (j + 1)) 12)
  | 0, _, t, n, st => by
    have := loop_round k0 k1 ((0 : Nat) + 1 : Int) (by decide) (by decide) t n st
    rw [show n + 3 * (0 + 1) = n + 3 by omega, this]
    rw [show st + 1 + 1 + 1 = st + 3 * (((0 : Nat) : Int) + 1) by omega]; rfl
  | j + 1, h2, t, n, st => by
    have := loop_round k0 k1 (((j + 1 : Nat) : Int) + 1) (by omega) (by omega) t (n + 3 * (j + 1)) st
    rw [show n + 3 * (j + 1 + 1) = n + 3 * (j + 1) + 3 by omega, this, if_neg (by omega)]
    rw [show ((j + 1 : Nat) : Int) + 1 - 1 = (j : Int) + 1 by omega, loop_rounds k0 k1 j (by omega)]
    rw [show st + 1 + 1 + 1 + 3 * ((j : Int) + 1) = st + 3 * (((j + 1 : Nat) : Int) + 1) by omega, List.append_assoc]; rfl
theorem loop_run (j : Nat) (h : j ≤ 59) : runN (encAll (loopL ((j : Int) + 1) ++ [haltI])) [] 1000 0 ⟨regs0, mem0, [], [], 0⟩ = (loopS 0 (downN (j + 1)) 12, 1, 1 + 3 * ((j : Int) + 1)) := by
  have hc := halt_chk (loop_ok (k := (j : Int) + 1) (by omega) (by omega))
  refine run_step hc (j := 0) (s' := loopS ((j : Int) + 1) [] 4) rfl rfl rfl rfl ?_
  rw [show 999 = (998 - 3 * (j + 1)) + 1 + 3 * (j + 1) by omega, loop_rounds (by omega) (by omega) j h, List.nil_append]
  exact run_stop hc (j := 4) rfl rfl rfl (by decide)
theorem loop_part {k : Int} (k0 : 1 ≤ k) (k1 : k ≤ 60) : ∀ (j : Nat) (_h2 : j ≤ 59) (t : List Int) (st : Int), ∃ s, runN (encAll (loopL k ++ [haltI])) [] (3 * j + 2) st (loopS ((j : Int) + 1) t 4) = (s, 3, st + 3 * (j : Int) + 2)
  | 0, _, t, st => by
    have hc := halt_chk (loop_ok k0 k1)
    refine ⟨loopS (foldN (1 + -1)) (t ++ [1]) 9, ?_⟩
    refine run_step hc (j := 1) (s' := loopS 1 (t ++ [1]) 6) rfl rfl rfl rfl ?_
    refine run_step hc (j := 2) (s' := loopS (foldN (1 + -1)) (t ++ [1]) 9) rfl rfl rfl rfl ?_
    rw [show st + 3 * ((0 : Nat) : Int) + 2 = st + 1 + 1 by omega]; rfl
  | j + 1, h2, t, st => by
    have := loop_round k0 k1 (((j + 1 : Nat) : Int) + 1) (by omega) (by omega) t (3 * j + 2) st
    rw [show 3 * (j + 1) + 2 = 3 * j + 2 + 3 by omega, this, if_neg (by omega)]
    rw [show ((j + 1 : Nat) : Int) + 1 - 1 = (j : Int) + 1 by omega]
    obtain ⟨s, hs⟩ := loop_part k0 k1 j (by omega) (t ++ [((j + 1 : Nat) : Int) + 1]) (st + 1 + 1 + 1)
    exact ⟨s, by rw [hs, show st + 1 + 1 + 1 + 3 * (j : Int) + 2 = st + 3 * ((j + 1 : Nat) : Int) + 2 by omega]⟩
theorem loop_run2 (j : Nat) (h : j ≤ 59) : ∃ s, runN (encAll (loopL ((j : Int) + 1) ++ [haltI])) [] (3 * (j + 1)) 0 ⟨regs0, mem0, [], [], 0⟩ = (s, 3, 3 * ((j : Int) + 1)) := by
  have hc := halt_chk (loop_ok (k := (j : Int) + 1) (by omega) (by omega))
  obtain ⟨s, hs⟩ := loop_part (k := (j : Int) + 1) (by omega) (by omega) j h [] (0 + 1)
  refine ⟨s, ?_⟩
  rw [show 3 * (j + 1) = (3 * j + 2) + 1 by omega]
  refine run_step hc (j := 0) (s' := loopS ((j : Int) + 1) [] 4) rfl rfl rfl rfl ?_
  rw [hs, show (0 : Int) + 1 + 3 * (j : Int) + 2 = 3 * ((j : Int) + 1) by omega]
end Go.Proofs.YtechpdfcgimkkaaDoor
