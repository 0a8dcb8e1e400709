/-
  package step: a run that has ended; what a run is made of.
-/
import Derived.Test.YtechpdfcgimkkaaDoorMcTl
import Derived.Deep.RegionWith
namespace Go.Proofs.YtechpdfcgimkkaaDoor
open Go.RowKit Go.Joins Isa
set_option maxRecDepth 100000 in
set_option maxHeartbeats 2000000 in
theorem ended_any (gm : Nat) (rs : List Vl) (vM vT vI : Value) (aO : Option Addr) (lO cO : Nat) (pc en st : Int) (w : World) (h : MachAt w gm rs vM vT vI (.slice aO lO cO) pc) :
    Calls Tryd.prog 59 #[.pointer (some ⟨gm, 0, none⟩), .int .i64 en, .int .i64 st] w fun e w' => e = .returned (.agg #[.slice aO lO cO, .int .i64 en, .int .i64 st, .int .i64 pc]) ∧ Below w.heap.size w w' := by
  obtain ⟨_, _, _, z3, z4, z5⟩ := h.rest
  have hg := h.lt
  clear h
  go_enter Tryd.func59, Tryd.ntmps59
  go_wp2_with fail
  go_region
  all_goals
    go_wp2_with fail
    refine bodyPost_ret (v := .agg #[.slice aO lO cO, .int .i64 en, .int .i64 st, .int .i64 pc]) (by simp [results, Tryd.results59, go_sem]) rfl ⟨rfl, ?_⟩
    first | exact (Below.refl _ _).alloc (Nat.le_refl _) _ | exact ((Below.refl _ _).alloc (Nat.le_refl _) _).drew | exact below_drewN ((Below.refl _ _).alloc (Nat.le_refl _) _) _
end Go.Proofs.YtechpdfcgimkkaaDoor
