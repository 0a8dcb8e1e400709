/-
  The call of boltholekeep.InstrFixed returns true at every slice of bytes.
-/
import Derived.Test.YtkofnmeononlaaaDoorPureFixed
import Derived.Test.YtkofnmeononlaaaDoorWalkE5
import Derived.Outline
import Derived.Deep.QuietTactic
import Derived.BigQuiet
namespace Go.Proofs.YtkofnmeononlaaaDoor
open Go.RowKit Go.Joins Isa
theorem text_below {w w' : World} {v : Value} {ns : List Int} {B : Nat} (h : TextAt w v ns) (hB : w.heap.size ≤ B) (hb : Below B w w') : TextAt w' v ns := by
  refine ⟨h.1, ?_⟩
  rcases h.2 with q | ⟨bb, oo, cap, e, h1, h2, h3, h4⟩
  · exact Or.inl q
  · refine Or.inr ⟨bb, oo, cap, e, h1, h2, Nat.lt_of_lt_of_le h3 hb.size, fun j x hj => ?_⟩
    rw [hb.cell (p := ⟨bb, _, none⟩) (by show bb < B; omega)]
    exact h4 j x hj
theorem text_lit (w : World) (ns : List Int) (hx : ∀ x ∈ ns, 0 ≤ x ∧ x ≤ 255) (hl : ns.length ≤ maxLen) (B : Nat) (hB : B = w.heap.size) (n : Nat) (hn : n = ns.length) (C : Array Value) (hC : C = (ns.map (Value.int .u8)).toArray) :
    TextAt (w.alloc (.cells C 5)) (.slice (some ⟨B, 0, none⟩) n n) ns := by
  subst hB hn hC
  refine ⟨hx, Or.inr ⟨_, 0, _, rfl, Nat.le_refl _, hl, by simp, fun j x hj => ?_⟩⟩
  rw [Nat.zero_add, World.cell?_alloc_new]
  simp [hj]
theorem conv_cells {w : World} {bb oo n cap : Nat} {ns : List Int} (hl : ns.length = n) (h : ∀ j x, ns[j]? = some x → w.cell? ⟨bb, oo + j, none⟩ = some (.int .u8 x)) :
    (convert 29 9 (.slice (some ⟨bb, oo, none⟩) n cap)).run Tryd.prog w = .ok (.string (strOf ns)) w := by
  rw [run_convert_bytes_string w 29 9 5 _ _ _ Tryd.underlying29 Tryd.underlying5 Tryd.underlying9]
  refine run_bytesToString w _ _ _ ns ?_
  have := run_loadCells_list (P := Tryd.prog) (w := w) ⟨bb, oo, none⟩ (ns.map (Value.int .u8)) (fun j v hj => by
    rw [List.getElem?_map, Option.map_eq_some_iff] at hj
    obtain ⟨x, hx, rfl⟩ := hj
    rw [Addr.add_lit]
    exact h j x hx)
  rw [← hl]
  simpa using this
set_option maxHeartbeats 1000000 in
theorem reads_any (w : World) (ht : Tabs w) : Calls Tryd.prog 19 #[] w fun e w' => e = .returned (.bool true) ∧ Below w.heap.size w w' := by
  have ht1 : ∀ o, Tabs (w.alloc o) := fun o => ht.below ht.sz ((Below.refl _ _).alloc (Nat.le_refl _) o)
  have H1 : Hid (∀ o, Tabs (w.alloc o)) := ht1
  clear ht1
  go_enter Tryd.func19, Tryd.ntmps19
  go_wp2_with fail
  refine (decode_any _ [0] 0 _ (H1.out _) (text_lit w [0] (by simp) (by decide) _ rfl _ rfl _ rfl)).mono ?_
  rw [show decOut [0] 0 = (⟨1, 0, 0, 0, 0, false⟩, 1, 0) from rfl]
  rintro e w1 ⟨rfl, hb⟩
  have hz : w.heap.size < w1.heap.size := (by have := hb.size; simp at this; omega)
  have B1 : Below w.heap.size w w1 := (Below.alloc (Below.refl _ _) (Nat.le_refl _) _).trans (hb.mono (by simp))
  clear hb
  go_wp2
  go_ret
  exact ⟨rfl, B1.alloc (by omega) _⟩
set_option maxHeartbeats 1000000 in
theorem fixed_law (v : Value) (ns : List Int) (w : World) (ht : Tabs w) (hT : TextAt w v ns) :
    Calls Tryd.prog 8 #[v] w fun e w' => e = .returned (.bool true) ∧ Below w.heap.size w w' := by
  have hbytes := hT.1
  go_enter Tryd.func8, Tryd.ntmps8
  go_wp2_with fail
  refine (reads_any _ ht).mono ?_
  rintro e w1 ⟨rfl, B1⟩
  have ht1 : Tabs w1 := ht.below ht.sz B1
  have hT1 : TextAt w1 v ns := text_below hT (Nat.le_refl _) B1
  go_wp2_with fail
  refine (decode_any _ ns 0 _ ht1 hT1).mono ?_
  rintro e w2 ⟨rfl, hb2⟩
  have B2 : Below w.heap.size w w2 := B1.trans (hb2.mono B1.size)
  have hT2 : TextAt w2 v ns := text_below hT1 (Nat.le_refl _) hb2
  have zw : w.heap.size ≤ w2.heap.size := B2.size
  clear hb2 hT hT1 B1 ht1
  by_cases he : (decOut ns 0).2.2 = 0
  · obtain ⟨f1, f2, f3, f4⟩ := dec_fixed ns hbytes he
    have heb : ((decOut ns 0).2.2 == 0) = true := by simp [he]
    generalize hX : decOut ns 0 = X at *
    have HX : Hid (decOut ns 0 = X) := hX
    clear hX
    obtain ⟨⟨xk, xd, xa, xb, xn, xl⟩, sz, er⟩ := X
    simp only [Ins.chk] at f1 f2 f3 f4 he heb
    subst he
    obtain ⟨m, rfl⟩ := Int.eq_ofNat_of_zero_le f3
    rw [Int.toNat_natCast] at f4
    have F4 : Hid (encL xk xd xa xb xn xl = ns.take m) := f4
    have hml : m ≤ ns.length := by omega
    clear f3 f2 f4 heb
    have ht2 : ∀ o, Tabs (w2.alloc o) := fun o => ht.below ht.sz (B2.alloc zw o)
    have H2 : Hid (∀ o, Tabs (w2.alloc o)) := ht2
    clear ht2
    go_wp2_with fail
    refine (encode_any xk xd xa xb xn xl _ (H2.out _)).mono ?_
    rintro e w3 (⟨hc, _⟩ | ⟨hc, g, cap3, rfl, own, hb3⟩)
    · exact absurd f1 hc
    have hlen : (encL xk xd xa xb xn xl).length = m := by rw [F4.out, List.length_take]; omega
    rw [hlen] at own ⊢
    rw [F4.out] at own
    have hT3 : TextAt w3 v ns := text_below hT2 (Nat.le_refl _) (((Below.refl _ _).alloc (Nat.le_refl _) _).trans (hb3.mono (by simp)))
    have B3 : Below w.heap.size w w3 := (B2.alloc zw _).trans (hb3.mono (by simp; omega))
    obtain ⟨bb, oo, cap, rfl, c1, c2, c3, c4⟩ : ∃ bb oo cap, v = .slice (some ⟨bb, oo, none⟩) ns.length cap ∧ ns.length ≤ cap ∧ cap ≤ maxLen ∧ bb < w3.heap.size ∧ ∀ j x, ns[j]? = some x → w3.cell? ⟨bb, oo + j, none⟩ = some (.int .u8 x) := by
      rcases hT3.2 with ⟨_, _, _, rfl⟩ | q
      · have := HX.out; rw [show decOut [] 0 = (zeroI, 0, 2) from rfl] at this; cases this
      · exact q
    have k1 : (convert 29 9 (.slice (some ⟨g, 0, none⟩) m cap3)).run Tryd.prog w3.drew = .ok (.string (strOf (ns.take m))) w3.drew := conv_own (w := w3.drew) own
    have k2 : (convert 29 9 (.slice (some ⟨bb, oo, none⟩) m cap)).run Tryd.prog w3.drew = .ok (.string (strOf (ns.take m))) w3.drew := by
      refine conv_cells (w := w3.drew) (by rw [List.length_take]; omega) fun j x hj => c4 j x ?_
      rw [List.getElem?_take] at hj
      split at hj
      · exact hj
      · cases hj
    have hmc : (m : Int) ≤ (cap : Int) := by omega
    have hm0 : (0 : Int) ≤ (m : Int) := by omega
    unfold maxLen at c2
    clear hc f1 hlen own hb3 hT2 hT3 B2 zw c4 hbytes
    go_wp2_with fail
    go_region
    go_wp2
    go_ret
    exact ⟨by simp, B3.drew⟩
  · obtain ⟨q1, q2⟩ := dec_zero ns 0 he
    have heb : ((decOut ns 0).2.2 == 0) = false := by simp [he]
    rw [q1, q2]
    go_wp2
    go_ret
    exact ⟨rfl, B2.alloc zw _⟩
end Go.Proofs.YtkofnmeononlaaaDoor
