/-
  image.copyOf at its four types, and image.Copy: the same image, in memory of its own.
-/
import Derived.Test.YtmibbjjfijcgpacCopyKit
import Derived.Deep.RegionHeld3
namespace Go.Proofs.Ytmibbjjfijcgpac
open Go.RowKit Go.Joins
theorem copyByte_any (v : Value) (xs : List Int) (w : World) (h : ListAt w ucell 1 v xs) (hb : 1 * xs.length ≤ 281474976710656) :
    Calls Try.prog 19 #[v] w fun e w' => e = .returned (.slice (some ⟨w.heap.size, 0, none⟩) xs.length xs.length) ∧ w' = w.alloc (.cells (flat ucell xs).toArray 5) := by
  obtain ⟨W, h1, h2⟩ := copied w ucell 1 1 v _ xs 22 5 3 h (by decide) ucell_len ucell_one Try.underlying22 inByte hb
  obtain ⟨a, cap, rfl, hm⟩ := h.form
  have H1 : Hid _ := h1
  have H2 : Hid _ := h2
  unfold maxLen at hm
  clear h1 h2 h
  go_enter Try.func19, Try.ntmps19
  go_wp2_with (first
    | (at_make; refine wpList_make_run _ rfl (.tmp 5) (.tmp 5) 22 rfl _ _ rfl rfl H1.out ?_)
    | (refine wpList_copy_run _ rfl (.tmp 7) (.tmp 8) 22 22 rfl _ _ rfl rfl H2.out ?_))
  go_ret
  exact ⟨rfl, rfl⟩
theorem copyInt_any (v : Value) (xs : List Int) (w : World) (h : ListAt w icell 1 v xs) (hb : 8 * xs.length ≤ 281474976710656) :
    Calls Try.prog 18 #[v] w fun e w' => e = .returned (.slice (some ⟨w.heap.size, 0, none⟩) xs.length xs.length) ∧ w' = w.alloc (.cells (flat icell xs).toArray 3) := by
  obtain ⟨W, h1, h2⟩ := copied w icell 1 8 v _ xs 25 3 3 h (by decide) icell_len icell_one Try.underlying25 inInt hb
  obtain ⟨a, cap, rfl, hm⟩ := h.form
  have H1 : Hid _ := h1
  have H2 : Hid _ := h2
  unfold maxLen at hm
  clear h1 h2 h
  go_enter Try.func18, Try.ntmps18
  go_wp2_with (first
    | (at_make; refine wpList_make_run _ rfl (.tmp 5) (.tmp 5) 25 rfl _ _ rfl rfl H1.out ?_)
    | (refine wpList_copy_run _ rfl (.tmp 7) (.tmp 8) 25 25 rfl _ _ rfl rfl H2.out ?_))
  go_ret
  exact ⟨rfl, rfl⟩
theorem copyFn_any (v : Value) (xs : List Fn) (w : World) (h : ListAt w Fn.cells 3 v xs) (hb : 32 * xs.length ≤ 281474976710656) :
    Calls Try.prog 20 #[v] w fun e w' => e = .returned (.slice (some ⟨w.heap.size, 0, none⟩) xs.length xs.length) ∧ w' = w.alloc (.cells (flat Fn.cells xs).toArray 46) := by
  obtain ⟨W, h1, h2⟩ := copied w Fn.cells 3 32 v _ xs 23 46 3 h (by decide) fcell_len fcell_one Try.underlying23 inFn hb
  obtain ⟨a, cap, rfl, hm⟩ := h.form
  have H1 : Hid _ := h1
  have H2 : Hid _ := h2
  unfold maxLen at hm
  clear h1 h2 h
  go_enter Try.func20, Try.ntmps20
  go_wp2_with (first
    | (at_make; refine wpList_make_run _ rfl (.tmp 5) (.tmp 5) 23 rfl _ _ rfl rfl H1.out ?_)
    | (refine wpList_copy_run _ rfl (.tmp 7) (.tmp 8) 23 23 rfl _ _ rfl rfl H2.out ?_))
  go_ret
  exact ⟨rfl, rfl⟩
theorem copyLn_any (v : Value) (xs : List Ln) (w : World) (h : ListAt w Ln.cells 2 v xs) (hb : 16 * xs.length ≤ 281474976710656) :
    Calls Try.prog 21 #[v] w fun e w' => e = .returned (.slice (some ⟨w.heap.size, 0, none⟩) xs.length xs.length) ∧ w' = w.alloc (.cells (flat Ln.cells xs).toArray 42) := by
  obtain ⟨W, h1, h2⟩ := copied w Ln.cells 2 16 v _ xs 26 42 3 h (by decide) lcell_len lcell_one Try.underlying26 inLn hb
  obtain ⟨a, cap, rfl, hm⟩ := h.form
  have H1 : Hid _ := h1
  have H2 : Hid _ := h2
  unfold maxLen at hm
  clear h1 h2 h
  go_enter Try.func21, Try.ntmps21
  go_wp2_with (first
    | (at_make; refine wpList_make_run _ rfl (.tmp 5) (.tmp 5) 26 rfl _ _ rfl rfl H1.out ?_)
    | (refine wpList_copy_run _ rfl (.tmp 7) (.tmp 8) 26 26 rfl _ _ rfl rfl H2.out ?_))
  go_ret
  exact ⟨rfl, rfl⟩
/-- A table that the copy has made. -/
def Made (w : World) (B : Nat) (u : Value) (t : List Int) : Prop := ∃ bb, u = .slice (some ⟨bb, 0, none⟩) t.length t.length ∧ B ≤ bb ∧ w.heap[bb]? = some (.cells (flat icell t).toArray 3)
theorem Made.kept {w w' : World} {B : Nat} {u : Value} {t : List Int} (h : Made w B u t) (hk : ∀ k, B ≤ k → k < w.heap.size → w'.heap[k]? = w.heap[k]?) : Made w' B u t := by
  obtain ⟨bb, hu, hB, hc⟩ := h
  exact ⟨bb, hu, hB, (hk bb hB (Array.getElem?_eq_some_iff.1 hc).1).trans hc⟩
theorem Made.list {w : World} {B : Nat} {u : Value} {t : List Int} (h : Made w B u t) (hm : t.length ≤ maxLen) : ListAt w icell 1 u t := by
  obtain ⟨bb, rfl, _, hc⟩ := h
  refine Or.inr ⟨bb, 0, t.length, rfl, Nat.le_refl _, hm, (Array.getElem?_eq_some_iff.1 hc).1, fun j x hj o v hv => ?_⟩
  have ho : o = 0 := by
    rcases Nat.lt_or_ge o 1 with q | q
    · omega
    · rw [List.getElem?_eq_none (by rw [icell_len]; exact q)] at hv; cases hv
  subst ho
  simp only [World.cell?, hc, List.getElem?_toArray]
  rw [Nat.zero_add, flat_at icell_len t j x hj 0 (by decide)]
  exact hv
end Go.Proofs.Ytmibbjjfijcgpac
