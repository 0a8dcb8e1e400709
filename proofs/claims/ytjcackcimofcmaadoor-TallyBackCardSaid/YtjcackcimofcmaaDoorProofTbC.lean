/-
  boltholekeep.TallyBack answers true at all raws: a tally is read as it is written.
  Conditions: none beyond the form's own (the library's variables that the road meets start as the program's text lays them, which the card ties to that text).
-/
import Derived.Test.YtjcackcimofcmaaDoorLaidTrC
import Derived.Test.YtjcackcimofcmaaDoorLawTbC
import Derived.Test.YtjcackcimofcmaaDoorLaidListC
import Derived.Test.YtjcackcimofcmaaDoorCards
import Derived.Test.YtjcackcimofcmaaDoorTie
import Derived.SevenTiedAt
import Derived.Stop.Joined
namespace Go.Proofs.YtjcackcimofcmaaDoor
open Go.ChangeShapes Go.WideShapes Go.ChangeAt Go.WideMaps Go.WideElems Go.RowKit Go.Joins
open Go.ChangeMaps (open_string shut_string)
theorem kR4 : Tryd.prog.cellsOf 31 = 4 := by kernel_rfl
section
variable {H : Type} {enc : TypeId × Value → H} {w : World} {base : Nat} {spare : Nat → Bool} {held : Bool}
theorem open_r4 {r : Reach} {b0 : Nat} {v : Value} {x : DataW H} {p : List MemPlace} (hv : Value.okWide Tryd.prog w r b0 28 v) (h : DataW.Trod enc Tryd.prog w base spare held 28 v x p) : ∃ xs : List R4, (∀ x ∈ xs, x.ok) ∧ ListAt w R4.cells 4 v xs := by
  obtain ⟨a, len, cap, rfl⟩ := okWide_slice Tryd.underlying28 hv
  obtain ⟨fuel, hf⟩ := h
  simp only [Value.cells] at hf
  exact open_list R4.cells R4.ok Tryd.underlying28 kR4 (by decide) (fun _ => rfl) (fun n cs x hl ht => by
    obtain ⟨y0, y1, y2, y3, n', _, _, t0, t1, t2, t3⟩ := trod_struct4 Tryd.underlying31 ht
    match cs, hl with
    | [c0, c1, c2, c3], _ =>
      simp only [jInt] at t0 t1 t2 t3
      obtain ⟨k, e0, _, w0⟩ := DataW.trod_int Tryd.underlying3 t0
      obtain ⟨a, e1, _, w1⟩ := DataW.trod_int Tryd.underlying3 t1
      obtain ⟨b, e2, _, w2⟩ := DataW.trod_int Tryd.underlying3 t2
      obtain ⟨c, e3, _, w3⟩ := DataW.trod_int Tryd.underlying3 t3
      simp at e0 e1 e2 e3
      subst e0 e1 e2 e3
      exact ⟨⟨k, a, b, c⟩, ⟨wf64 w0, wf64 w1, wf64 w2, wf64 w3⟩, rfl⟩) hf
end
set_option maxRecDepth 100000 in
theorem tallyBack_lifted (os : Os) (started : os.Started) (H : Type) (enc : TypeId × Value → H) :
    ReturnsInHanded {} Tryd.checked os 4 .any (fun w args => (Rows.tallyBackSpec.pre enc Tryd.prog Tryd.f4 [] false w args ∧ laidMetH Tryd.prog Rows.tallyBackRow.laid w) ∧ sizedMet enc Tryd.prog Tryd.f4 (OpenSpec.ofChange Rows.tallyBackSpec) false w args)
      (Rows.tallyBackSpec.post enc Tryd.prog Tryd.f4 false true false false) := by
  refine lifted_both (C := Tryd.checked) (X := fun w _ => laidMetH Tryd.prog Rows.tallyBackRow.laid w) (fun _ _ _ hh h => h.of_heap hh) tOwn started (by kernel_rfl) Tryd.func4
    (ChangeSpec.witness_shaped (enc := enc) (C := Tryd.checked) (os := os) (X := fun w _ => laidMetH Tryd.prog Rows.tallyBackRow.laid w) false (World.laidAll Tryd.prog os talLaid) #[.slice none 0 0] 8 (World.laidAll_os _ _ _) (tal_shaped os) (by kernel_rfl) (by kernel_rfl) (by kernel_rfl) (tal_met os _)) ?_
  intro W base args ds gs before hval0 hW _ hL hsh
  have hval : ∀ (j : Nat) t v, Tryd.f4.params[j]? = some t → args[j]? = some v → Value.okWide Tryd.prog W .any base t v := hval0
  have hW' := hW
  obtain ⟨p, q, hA0, hV, rfl, _, _⟩ := hW
  have hA : DataW.TrodAll enc Tryd.prog W 0 (fun _ => true) true Tryd.f4.params.toList args.toList ds p := hA0
  rw [Tryd.params4] at hA hval
  obtain ⟨v0, vs0, d0, ds0, p0, q0, hargs, rfl, rfl, h0, r0⟩ := trodAll_cons hA
  obtain ⟨rfl, rfl, rfl⟩ := trodAll_nil r0
  obtain rfl : args = #[v0] := by cases args; simp_all
  obtain ⟨rfl, rfl⟩ := trodVars_none hV
  have ht := tal_of_laid hL hsh
  have g0 := h0
  have lt0 : ∀ x ∈ p0, x.block < W.heap.size := by obtain ⟨m, hm⟩ := g0; exact DataW.trod_lt m _ _ _ hm
  obtain ⟨rs, hrs, hl⟩ := open_r4 (hval 0 28 v0 rfl rfl) h0
  clear hA0 hval0
  refine (back_law v0 rs W hl hrs ht).mono fun e W' ⟨he, hb⟩ => ?_
  subst he
  exact ⟨_, rfl, _, _, _, [], _, [], hW', trodAll_mk1 (shut_bool Tryd.underlying4 _), (trodAll_cons_mk (Below.trod jLaid (by kernel_rfl) (of_decide_eq_true (by kernel_rfl)) g0 hb lt0) trodAll_mk0), rfl, hb.frame _, fun h => by cases h⟩
theorem tallyBack_holds : Rows.TallyBackSaid :=
  OpenClaim.holds_of_wide 4 Tryd.f4 rfl rfl rfl rfl rfl rfl rfl ⟨rfl, rfl, rfl, rfl, rfl⟩ rfl rfl rfl rfl rfl (by kernel_rfl) Tryd.func4 (by kernel_rfl)
    (of_decide_eq_true (by kernel_rfl)) (by unfold Func.isWrapper; rw [if_neg (of_decide_eq_false (by kernel_rfl))]; exact ⟨rfl, rfl⟩)
    (fun os started H enc _ => tallyBack_lifted os started H enc)
theorem tallyBack_card : Rows.TallyBackCardSaid :=
  Claim7.holds_tied_plain_at .later [] [.data, .data, .data, .data, .sentinel, .sentinel, .pinned] true (true, "87de1aa9b7ae709b3fb277dd1afda3df592995502b01d6b722a5035a366a6624") true
    tallyBack_holds (fun _ h => by cases h) (by kernel_rfl) (fun _ h => by cases h) tallyBack_row_tie rfl ⟨rfl, rfl⟩ (by kernel_rfl) rfl
    (fun f fn hf hfn => by
      obtain rfl : f = 4 := Option.some.inj ((show Tryd.prog.funcNamed "bolthole/boltholekeep.TallyBack" = some 4 by kernel_rfl).symm.trans hf) |>.symm
      obtain rfl : fn = Tryd.f4 := (Option.some.inj (Tryd.func4.symm.trans hfn)).symm
      exact ⟨by kernel_rfl, fun j t ht => by
        rw [Tryd.params4] at ht
        have hm : t ∈ [28] := by simpa using Array.mem_of_getElem? ht
        have hall : ([28].all fun u => !Tryd.prog.wantsStandIn u) = true := by kernel_rfl
        exact (show Tryd.prog.wantsStandIn t = false by simpa using List.all_eq_true.1 hall t hm)⟩)
    (by kernel_rfl)
#print axioms tallyBack_card
end Go.Proofs.YtjcackcimofcmaaDoor
