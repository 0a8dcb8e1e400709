/-
  boltholelaw.octets: a copy of a text is that text.
-/
import Derived.Test.YtkofnmeononlaaaDoorAppText
namespace Go.Proofs.YtkofnmeononlaaaDoor
open Go.RowKit Go.Joins Isa
theorem app_nil (w : World) (v : Value) (ns : List Int) (hT : TextAt w v ns) (h47 : ns.length ≤ 140737488351232) (ty : TypeId) :
    ∃ v' W, (Builtin.append_ #[29, 29] ty #[.slice none 0 0, v]).run Tryd.prog w = .ok v' W ∧ TextAt W v' ns ∧ Below w.heap.size w W := by
  obtain ⟨i0, hi, hz0, hz1, hz2⟩ := info_parts info5
  have hnone : ∀ x, Src Tryd.prog i0.size 29 x 0 [] w → ∃ v' W, (Builtin.append_ #[29, 29] ty #[.slice none 0 0, x]).run Tryd.prog w = .ok v' W ∧ TextAt W v' [] ∧ Below w.heap.size w W := fun x hs =>
    ⟨_, _, run_append_nothing w 29 29 ty 5 i0 Tryd.underlying29 hi none 0 0 (Nat.le_refl _) x hs, ⟨fun _ h => (by cases h), Or.inl ⟨none, 0, rfl, rfl⟩⟩, Below.refl _ _⟩
  obtain ⟨hx, hv⟩ := hT
  rcases hv with ⟨a, cap, rfl, rfl⟩ | ⟨bb, oo, cap, rfl, h1, h2, h3, h4⟩
  · cases a with
    | none => exact hnone _ (Src.ofNil w Tryd.underlying29 cap)
    | some a => exact hnone _ (Src.ofSlice w Tryd.underlying29 a 0 cap [] (by simp) (fun j u h => by simp at h) (fun _ h => by cases h))
  · have hnews : ∀ j u, (ns.map (Value.int .u8))[j]? = some u → w.cell? ((⟨bb, oo, none⟩ : Addr).add j) = some u := fun j u hj => by
      rw [List.getElem?_map, Option.map_eq_some_iff] at hj
      obtain ⟨x, hx', rfl⟩ := hj
      rw [Addr.add_lit]
      exact h4 j x hx'
    by_cases h0 : ns.length = 0
    · obtain rfl : ns = [] := List.length_eq_zero_iff.1 h0
      exact hnone _ (Src.ofSlice w Tryd.underlying29 ⟨bb, oo, none⟩ 0 cap [] (by simp) (fun j u h => by simp at h) (fun _ h => by cases h))
    · refine ⟨_, _, run_append_nil w 29 ty 5 i0 (.int .u8 0) Tryd.underlying29 hi hz0 ⟨bb, oo, none⟩ ns.length cap (ns.map (Value.int .u8)) (by simp [hz1]) hnews (by omega) (by omega) (by rw [hz2]; omega), ?_, ?_⟩
      · have hge := grownCap_ge w ns.length 0 5
        refine ⟨hx, Or.inr ⟨_, 0, _, rfl, hge, grownCap_le_maxLen _ _ _ _ (by unfold maxLen; omega), by simp, fun j x hj => ?_⟩⟩
        have hjl : j < ns.length := by
          rcases Nat.lt_or_ge j ns.length with q | q
          · exact q
          · rw [List.getElem?_eq_none q] at hj; cases hj
        rw [Nat.zero_add]
        refine (World.cell?_alloc_new _ _ _ j).trans ?_
        rw [Array.getElem?_append_left (by simp; omega)]
        simp [hj]
      · exact (Below.refl _ _).drew.alloc (Nat.le_refl _) _
set_option maxHeartbeats 400000 in
theorem octets_any (w : World) (v : Value) (ns : List Int) (hT : TextAt w v ns) (h47 : ns.length ≤ 140737488351232) :
    Calls Tryd.prog 16 #[v] w fun e w' => ∃ v', e = .returned v' ∧ TextAt w' v' ns ∧ Below w.heap.size w w' := by
  obtain ⟨v', W, hr, hT', hb⟩ := app_nil w v ns hT h47 29
  have HR : Hid _ := hr
  clear hr
  go_enter Tryd.func16, Tryd.ntmps16
  go_wp2_with (at_builtin; refine wpList_append_run rfl (.const (.slice none 0 0)) (.tmp 3) 29 rfl _ _ _ rfl rfl HR.out ?_)
  go_ret
  exact ⟨_, rfl, hT', hb⟩
end Go.Proofs.YtkofnmeononlaaaDoor
