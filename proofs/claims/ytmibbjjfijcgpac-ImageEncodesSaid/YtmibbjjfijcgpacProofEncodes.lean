/-
  boltholelaw.ImageEncodes answers true at every image: image.Encode answers what P2.3 says, and leaves its argument alone.
  Conditions: none beyond the form's own.
-/
import Derived.Test.YtmibbjjfijcgpacLaidImg
import Derived.Test.YtmibbjjfijcgpacLaidImg2
import Derived.Test.YtmibbjjfijcgpacLawEn
import Derived.Stop.Joined
namespace Go.Proofs.Ytmibbjjfijcgpac
open Go.ChangeShapes Go.WideShapes Go.ChangeAt Go.WideMaps Go.WideElems Go.RowKit Go.Joins
set_option maxRecDepth 100000 in
theorem imageEncodes_lifted (os : Os) (started : os.Started) (H : Type) (enc : TypeId × Value → H) :
    ReturnsInHanded {} Try.checked os 5 .any (Rows.imageEncodesSpec.pre6 enc Try.prog Try.f5 Rows.imageEncodesRow.domain false)
      (Rows.imageEncodesSpec.post enc Try.prog Try.f5 false true false false) := by
  refine returnsInHanded_of_change_sized (C := Try.checked) jOwn started (by kernel_rfl) Try.func5
    (ChangeSpec.witness6 (enc := enc) (C := Try.checked) false ⟨#[], #[.agg #[.slice none 0 0, .slice none 0 0, .slice none 0 0, .slice none 0 0, .slice none 0 0, .int .i64 0]], []⟩ 8 (by kernel_rfl) (by kernel_rfl) (by kernel_rfl) (by kernel_rfl)) ?_
  intro W base args ds gs before hval0 hW _ hsz _
  have hval : ∀ (j : Nat) t v, Try.f5.params[j]? = some t → args[j]? = some v → Value.okWide Try.prog W .any base t v := hval0
  have hW' := hW
  obtain ⟨p, q, hA0, hV, rfl, _, _⟩ := hW
  have hA : DataW.TrodAll enc Try.prog W 0 (fun _ => true) true Try.f5.params.toList args.toList ds p := hA0
  rw [Try.params5] at hA hval
  obtain ⟨v0, vs0, d0, ds0, p0, q0, hargs, rfl, rfl, h0, r0⟩ := trodAll_cons hA
  obtain ⟨rfl, rfl, rfl⟩ := trodAll_nil r0
  obtain rfl : args = #[v0] := by cases args; simp_all
  obtain ⟨rfl, rfl⟩ := trodVars_none hV
  have g0 := h0
  have lt0 : ∀ x ∈ p0, x.block < W.heap.size := by obtain ⟨m, hm⟩ := g0; exact DataW.trod_lt m _ _ _ hm
  have z0 := fun vT vF vB vD vL m => img_small (vT := vT) (vF := vF) (vB := vB) (vD := vD) (vL := vL) (m := m) hsz (j := 0) (by kernel_rfl) rfl h0
  obtain ⟨T0, F0, B0, D0, L0, m0, rfl, I0, k0⟩ := open_image (hval 0 28 v0 rfl rfl) h0
  clear hA0 hval0
  refine (encodes_whole T0 F0 B0 D0 L0 m0 W I0 k0 (z0 _ _ _ _ _ _ rfl I0)).mono fun e W' ⟨he, hb⟩ => ?_
  subst he
  exact ⟨_, rfl, _, _, _, [], _, [], hW', trodAll_mk1 (shut_bool Try.underlying4 _), (trodAll_cons_mk (Below.trod jLaid (by kernel_rfl) (of_decide_eq_true (by kernel_rfl)) g0 hb lt0) trodAll_mk0), rfl, hb.frame _, fun h => by cases h⟩
theorem imageEncodes_holds : Rows.ImageEncodesSaid :=
  OpenClaim.holds_of_wide 5 Try.f5 rfl rfl rfl rfl rfl rfl rfl ⟨rfl, rfl, rfl, rfl, rfl⟩ rfl rfl rfl rfl rfl (by kernel_rfl) Try.func5 (by kernel_rfl)
    (of_decide_eq_true (by kernel_rfl)) (by unfold Func.isWrapper; rw [if_neg (of_decide_eq_false (by kernel_rfl))]; exact ⟨rfl, rfl⟩)
    (fun os started H enc _ => imageEncodes_lifted os started H enc)
#print axioms imageEncodes_holds
end Go.Proofs.Ytmibbjjfijcgpac
