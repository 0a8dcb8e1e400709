/-
  boltholelaw.ImageDecodes answers true at all bytes: image.Decode answers what P2.4 says.
  Conditions: none beyond the form's own.
-/
import Derived.Test.YtmibbjjfijcgpacLaidImg
import Derived.Test.YtmibbjjfijcgpacLaidImg2
import Derived.Test.YtmibbjjfijcgpacLawDe
import Derived.Stop.Joined
namespace Go.Proofs.Ytmibbjjfijcgpac
open Go.ChangeShapes Go.WideShapes Go.ChangeAt Go.WideMaps Go.WideElems Go.RowKit Go.Joins
set_option maxRecDepth 100000 in
theorem imageDecodes_lifted (os : Os) (started : os.Started) (H : Type) (enc : TypeId × Value → H) :
    ReturnsInHanded {} Try.checked os 6 .any (Rows.imageDecodesSpec.pre6 enc Try.prog Try.f6 Rows.imageDecodesRow.domain false)
      (Rows.imageDecodesSpec.post enc Try.prog Try.f6 false true false false) := by
  refine returnsInHanded_of_change_sized (C := Try.checked) jOwn started (by kernel_rfl) Try.func6
    (ChangeSpec.witness6 (enc := enc) (C := Try.checked) false ⟨#[], #[.slice none 0 0], []⟩ 8 (by kernel_rfl) (by kernel_rfl) (by kernel_rfl) (by kernel_rfl)) ?_
  intro W base args ds gs before hval0 hW _ hsz _
  have hval : ∀ (j : Nat) t v, Try.f6.params[j]? = some t → args[j]? = some v → Value.okWide Try.prog W .any base t v := hval0
  have hW' := hW
  obtain ⟨p, q, hA0, hV, rfl, _, _⟩ := hW
  have hA : DataW.TrodAll enc Try.prog W 0 (fun _ => true) true Try.f6.params.toList args.toList ds p := hA0
  rw [Try.params6] at hA hval
  obtain ⟨v0, vs0, d0, ds0, p0, q0, hargs, rfl, rfl, h0, r0⟩ := trodAll_cons hA
  obtain ⟨rfl, rfl, rfl⟩ := trodAll_nil r0
  obtain rfl : args = #[v0] := by cases args; simp_all
  obtain ⟨rfl, rfl⟩ := trodVars_none hV
  have g0 := h0
  have lt0 : ∀ x ∈ p0, x.block < W.heap.size := by obtain ⟨m, hm⟩ := g0; exact DataW.trod_lt m _ _ _ hm
  obtain ⟨y0, x0, u0, z0⟩ := open_bytes hsz (j := 0) (by kernel_rfl) rfl (hval 0 22 v0 rfl rfl) h0
  clear hA0 hval0
  refine (decodes_whole v0 y0 W x0 u0 z0).mono fun e W' ⟨he, hb⟩ => ?_
  subst he
  exact ⟨_, rfl, _, _, _, [], _, [], hW', trodAll_mk1 (shut_bool Try.underlying4 _), (trodAll_cons_mk (Below.trod jLaid (by kernel_rfl) (of_decide_eq_true (by kernel_rfl)) g0 hb lt0) trodAll_mk0), rfl, hb.frame _, fun h => by cases h⟩
theorem imageDecodes_holds : Rows.ImageDecodesSaid :=
  OpenClaim.holds_of_wide 6 Try.f6 rfl rfl rfl rfl rfl rfl rfl ⟨rfl, rfl, rfl, rfl, rfl⟩ rfl rfl rfl rfl rfl (by kernel_rfl) Try.func6 (by kernel_rfl)
    (of_decide_eq_true (by kernel_rfl)) (by unfold Func.isWrapper; rw [if_neg (of_decide_eq_false (by kernel_rfl))]; exact ⟨rfl, rfl⟩)
    (fun os started H enc _ => imageDecodes_lifted os started H enc)
#print axioms imageDecodes_holds
end Go.Proofs.Ytmibbjjfijcgpac
