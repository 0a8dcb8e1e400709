/-
  boltholekeep.SizeKinds answers true at every Raw: an instruction has the size of its kind; long it has one byte more.
  Conditions: none beyond the form's own (the two tables of package isa start as the program's text lays them, which the card ties to that text).
-/
import Derived.Test.YtkofnmeononlaabDoorLaidMore
import Derived.Test.YtkofnmeononlaabDoorLawKinds
import Derived.Test.YtkofnmeononlaabDoorCards
import Derived.Test.YtkofnmeononlaabDoorTie
import Derived.SevenTiedAt
import Derived.Stop.Joined
namespace Go.Proofs.YtkofnmeononlaabDoor
open Go.ChangeShapes Go.WideShapes Go.ChangeAt Go.WideMaps Go.WideElems Go.RowKit Go.Joins Isa
open Go.ChangeMaps (open_string shut_string)
set_option maxRecDepth 100000 in
theorem sizeKinds_lifted (os : Os) (started : os.Started) (H : Type) (enc : TypeId × Value → H) :
    ReturnsInHanded {} Tryd.checked os 5 .any (fun w args => (Rows.sizeKindsSpec.pre enc Tryd.prog Tryd.f5 [] false w args ∧ laidMetH Tryd.prog Rows.sizeKindsRow.laid w) ∧ sizedMet enc Tryd.prog Tryd.f5 (OpenSpec.ofChange Rows.sizeKindsSpec) false w args)
      (Rows.sizeKindsSpec.post enc Tryd.prog Tryd.f5 false true false false) := by
  refine returnsInHanded_of_change_and (C := Tryd.checked) (X := fun w _ => laidMetH Tryd.prog Rows.sizeKindsRow.laid w) (fun _ _ _ hh h => h.of_heap hh) own started (by kernel_rfl) Tryd.func5
    (ChangeSpec.witness_shaped (enc := enc) (C := Tryd.checked) (os := os) (X := fun w _ => laidMetH Tryd.prog Rows.sizeKindsRow.laid w) false (World.doorLaid Tryd.prog 54 os) #[.agg #[.int .i64 0, .int .i64 0, .int .i64 0, .int .i64 0]] 8 rfl (World.shaped_of_RefB (by kernel_rfl) (by kernel_rfl)) (by kernel_rfl) (by kernel_rfl) (by kernel_rfl) (door_met os _)) ?_
  intro W base args ds gs before hval0 hW _ _ hL _
  have hval : ∀ (j : Nat) t v, Tryd.f5.params[j]? = some t → args[j]? = some v → Value.okWide Tryd.prog W .any base t v := hval0
  have hW' := hW
  obtain ⟨p, q, hA0, hV, rfl, _, _⟩ := hW
  have hA : DataW.TrodAll enc Tryd.prog W 0 (fun _ => true) true Tryd.f5.params.toList args.toList ds p := hA0
  rw [Tryd.params5] at hA hval
  obtain ⟨v0, vs0, d0, ds0, p0, q0, hargs, rfl, rfl, h0, r0⟩ := trodAll_cons hA
  obtain ⟨rfl, rfl, rfl⟩ := trodAll_nil r0
  obtain rfl : args = #[v0] := by cases args; simp_all
  obtain ⟨rfl, rfl⟩ := trodVars_none hV
  have ht := tabs_of_laid hL
  obtain ⟨k0, a0, b0, c0, rfl, rfl, rfl, x00, x01, x02, x03⟩ := open_raw (hval 0 23 v0 rfl rfl) h0
  clear hA0 hval0
  refine (kinds_law k0 a0 b0 c0 W ht (bd64 x00).1 (bd64 x00).2 (bd64 x01).1 (bd64 x01).2 (bd64 x02).1 (bd64 x02).2 (bd64 x03).1 (bd64 x03).2).mono fun e W' ⟨he, hb⟩ => ?_
  subst he
  exact ⟨_, rfl, _, _, _, [], _, [], hW', trodAll_mk1 (shut_bool Tryd.underlying4 _), (trodAll_cons_mk (shut_raw x00 x01 x02 x03) trodAll_mk0), rfl, hb.frame _, fun h => by cases h⟩
theorem sizeKinds_holds : Rows.SizeKindsSaid :=
  OpenClaim.holds_of_wide 5 Tryd.f5 rfl rfl rfl rfl rfl rfl rfl ⟨rfl, rfl, rfl, rfl, rfl⟩ rfl rfl rfl rfl rfl (by kernel_rfl) Tryd.func5 (by kernel_rfl)
    (of_decide_eq_true (by kernel_rfl)) (by unfold Func.isWrapper; rw [if_neg (of_decide_eq_false (by kernel_rfl))]; exact ⟨rfl, rfl⟩)
    (fun os started H enc _ => sizeKinds_lifted os started H enc)
theorem sizeKinds_card : Rows.SizeKindsCardSaid :=
  Claim7.holds_tied_plain_at .later [] [.data, .data] true (true, "67c3023b518a95df9b0036e4ebef046dcfee7ae1aa503fd3755d2db5cec2aa7a") false
    sizeKinds_holds (fun _ h => by cases h) (by kernel_rfl) (fun _ h => by cases h) sizeKinds_row_tie rfl ⟨rfl, rfl⟩ (by kernel_rfl) rfl
    (fun f fn hf hfn => by
      obtain rfl : f = 5 := Option.some.inj ((show Tryd.prog.funcNamed "bolthole/boltholekeep.SizeKinds" = some 5 by kernel_rfl).symm.trans hf) |>.symm
      obtain rfl : fn = Tryd.f5 := (Option.some.inj (Tryd.func5.symm.trans hfn)).symm
      exact ⟨by kernel_rfl, fun j t ht => by
        rw [Tryd.params5] at ht
        have hm : t ∈ [23] := by simpa using Array.mem_of_getElem? ht
        have hall : ([23].all fun u => !Tryd.prog.wantsStandIn u) = true := by kernel_rfl
        exact (show Tryd.prog.wantsStandIn t = false by simpa using List.all_eq_true.1 hall t hm)⟩)
    (by kernel_rfl)
#print axioms sizeKinds_card
end Go.Proofs.YtkofnmeononlaabDoor
