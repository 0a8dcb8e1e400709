/-
  The bytes of an instruction that may be are bytes; the slice that holds them is a text; cut they are no instruction.
-/
import Derived.Test.YtechpdfcgimkkaaDoorPureBack
import Derived.Test.YtechpdfcgimkkaaDoorWalkE5
import Derived.Test.YtechpdfcgimkkaaDoorPureRw
namespace Go.Proofs.YtechpdfcgimkkaaDoor
open Go.RowKit Go.Joins Isa
theorem text_own {w : World} {base g n cap : Nat} {ns : List Int} (h : w.ownsRow base 5 1 (.slice (some ⟨g, 0, none⟩) n cap) n (ns.map (Value.int .u8))) (hx : ∀ x ∈ ns, 0 ≤ x ∧ x ≤ 255) (m : Nat) (hm : m ≤ n) :
    TextAt w (.slice (some ⟨g, 0, none⟩) m cap) (ns.take m) := by
  have hl : n = ns.length := by have := h.1; simp at this; omega
  have hlt := (h.lt g rfl).2
  have hc := h.cells (g := g) rfl
  obtain ⟨_, hv | ⟨g', cap', cur, hv, _, _, hcap, hmax, _⟩⟩ := h
  · cases hv.1
  · simp at hv
    obtain ⟨rfl, rfl⟩ := hv
    have hlen : (ns.take m).length = m := by rw [List.length_take]; omega
    refine ⟨fun x hx' => hx x (List.mem_of_mem_take hx'), Or.inr ⟨g, 0, cap, by rw [hlen], by omega, hmax, hlt, fun j x hj => ?_⟩⟩
    have hj' : ns[j]? = some x := by
      rw [List.getElem?_take] at hj
      split at hj
      · exact hj
      · cases hj
    have := hc j (.int .u8 x) (by rw [List.getElem?_map, hj']; rfl)
    rwa [Addr.add_lit] at this
theorem dec_torn {k d a b n : Int} {l : Bool} (h : Isa.chk k d a b n l = 0) (m : Nat) (hm : (m : Int) < siz k l) : decOut ((encL k d a b n l).take m) 0 = (zeroI, 0, if m = 0 then 2 else 5) := by
  obtain ⟨h1, h2, _⟩ := chk_zero h
  have hlen := encL_len (d := d) (a := a) (b := b) (n := n) (l := l) h1 h2
  have hl : ((encL k d a b n l).take m).length = m := by rw [List.length_take]; omega
  unfold decOut
  by_cases hm0 : m = 0
  · subst hm0
    rw [if_pos (by rw [hl]; omega)]; rfl
  · rw [if_neg (by rw [hl]; omega)]
    have hg : ((encL k d a b n l).take m).getD (0 : Int).toNat 0 = firB k l := by
      obtain ⟨q, rfl⟩ : ∃ q, m = q + 1 := ⟨m - 1, by omega⟩
      rw [encL_head]; rfl
    simp only [hg, kind_enc h1 h2 (chk_long h), hl]
    rw [if_neg (by omega), if_pos (by omega), if_neg hm0]
end Go.Proofs.YtechpdfcgimkkaaDoor
