/-
  isa.Encode, whole; a slice of bytes as a string.
-/
import Derived.Test.YtechpdfcgimkkaaDoorWalkE2
import Derived.Test.YtechpdfcgimkkaaDoorWalkS1
import Derived.Laws.BytesString
namespace Go.Proofs.YtechpdfcgimkkaaDoor
open Go.RowKit Go.Joins Isa
/-- What Encode answers: the bytes, in memory of its own; or nil and the error. -/
def EncOut (k d a b n : Int) (l : Bool) (w : World) (e : Ending) (w' : World) : Prop :=
  (chk k d a b n l ≠ 0 ∧ e = .returned (.tuple #[.slice none 0 0, .int .i64 (chk k d a b n l)]) ∧ Below w.heap.size w w') ∨
  (chk k d a b n l = 0 ∧ ∃ g cap, e = .returned (.tuple #[.slice (some ⟨g, 0, none⟩) (encL k d a b n l).length cap, .int .i64 0]) ∧ w'.ownsRow w.heap.size 5 1 (.slice (some ⟨g, 0, none⟩) (encL k d a b n l).length cap) (encL k d a b n l).length ((encL k d a b n l).map (Value.int .u8)) ∧ Below w.heap.size w w')
set_option maxRecDepth 100000 in
set_option maxHeartbeats 400000 in
theorem encode_any (k d a b n : Int) (l : Bool) (w : World) (ht : Tabs w) : Calls Tryd.prog 70 #[.agg #[.int .i64 k, .int .i64 d, .int .i64 a, .int .i64 b, .int .i64 n, .bool l]] w (EncOut k d a b n l w) := by
  by_cases hc : chk k d a b n l = 0
  · obtain ⟨h1, h2, _, hd, ha, hb, _⟩ := chk_zero hc
    refine (enc_ok k d a b n l w ht hc h1 h2 hd ha hb).mono ?_
    rintro e w' ⟨g, he, ho, hb'⟩
    exact Or.inr ⟨hc, g, _, he, ho, hb'⟩
  · have ht1 : ∀ o, Tabs (w.alloc o) := fun o => ht.below ht.sz ((Below.refl _ _).alloc (Nat.le_refl _) o)
    have H1 : Hid (∀ o, Tabs (w.alloc o)) := ht1
    clear ht1
    have hcb : (chk k d a b n l == 0) = false := by simp [hc]
    have HC : Hid (chk k d a b n l ≠ 0) := hc
    clear hc
    go_enter Tryd.func70, Tryd.ntmps70
    go_wp2_with (first | (go_at_call 96; refine (check_any k d a b n l _ (H1.out _)).mono ?_; rintro e w' ⟨rfl, hb⟩; obtain ⟨hc1, hf1⟩ := bcell hb))
    go_ret2
    exact Or.inl ⟨HC.out, rfl, (Below.alloc (Below.refl _ _) (Nat.le_refl _) _).trans (hb.mono (by simp))⟩
/-- Bytes as a string's. -/
def strOf (ns : List Int) : ByteArray := ns.foldl (fun r n => r.push (UInt8.ofNat n.toNat)) ByteArray.empty
theorem conv_own {w : World} {base g n cap : Nat} {ns : List Int} (h : w.ownsRow base 5 1 (.slice (some ⟨g, 0, none⟩) n cap) n (ns.map (Value.int .u8))) :
    (convert 23 9 (.slice (some ⟨g, 0, none⟩) n cap)).run Tryd.prog w = .ok (.string (strOf ns)) w := by
  have hl : n = ns.length := by have := h.1; simp at this; omega
  rw [run_convert_bytes_string w 23 9 5 _ _ _ Tryd.underlying23 Tryd.underlying5 Tryd.underlying9]
  refine run_bytesToString w _ _ _ ns ?_
  have := run_loadCells_list (P := Tryd.prog) (w := w) ⟨g, 0, none⟩ (ns.map (Value.int .u8)) (h.cells rfl)
  rw [hl]
  simpa using this
theorem conv_nil {w : World} : (convert 23 9 (.slice none 0 0)).run Tryd.prog w = .ok (.string ByteArray.empty) w := by
  rw [run_convert_bytes_string w 23 9 5 _ _ _ Tryd.underlying23 Tryd.underlying5 Tryd.underlying9]; rfl
theorem own_below {w w' : World} {base e n : Nat} {v : Value} {xs : List Value} (h : w.ownsRow base e 1 v n xs) (hb : Below w.heap.size w w') : w'.ownsRow base e 1 v n xs := by
  refine ⟨h.1, ?_⟩
  rcases h.2 with h2 | ⟨g, cap, cur, hv, hg, hh, r⟩
  · exact Or.inl h2
  · refine Or.inr ⟨g, cap, cur, hv, hg, ?_, r⟩
    have hlt : g < w.heap.size := by
      rcases Nat.lt_or_ge g w.heap.size with q | q
      · exact q
      · rw [Array.getElem?_eq_none q] at hh; cases hh
    rw [hb.block g hlt]; exact hh
end Go.Proofs.YtechpdfcgimkkaaDoor
