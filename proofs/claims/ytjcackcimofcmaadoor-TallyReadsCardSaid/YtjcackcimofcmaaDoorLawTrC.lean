/-
  The call of boltholelaw.TallyReads returns true at every text.
-/
import Derived.Test.YtjcackcimofcmaaDoorWalkReC
import Derived.Test.YtjcackcimofcmaaDoorWalkSeC
namespace Go.Proofs.YtjcackcimofcmaaDoor
open Go.RowKit Go.Joins
set_option maxRecDepth 100000 in
set_option maxHeartbeats 2000000 in
theorem reads_law (s : ByteArray) (w : World) (ht : TalAt w) (hs : s.size ≤ maxLen) :
    Calls Tryd.prog 3 #[.string s] w fun e w' => e = .returned (.bool true) ∧ Below w.heap.size w w' := by
  have RD := read_any s w ht hs
  have EO : Hid (∀ W, Below w.heap.size w W → Calls Tryd.prog 6 #[.string s] W fun e w' => ∃ v, e = .returned (.tuple #[v, .int .i64 (tallyN s.data.toList).1]) ∧ w'.ownsRow W.heap.size 33 3 v (tallyN s.data.toList).2.length (flat Ed.cells (tallyN s.data.toList).2) ∧ Below W.heap.size W w') := fun W _ => edgesOf_any s W hs
  clear ht hs
  generalize (tallyN s.data.toList).2 = L at *
  generalize (tallyN s.data.toList).1 = E at *
  go_enter Tryd.func3, Tryd.ntmps3
  go_wp2_with fail
  refine Calls.mono RD ?_
  rintro e w2 ⟨v2, rfl, ho2, hb2⟩
  have HB2 : Hid (Below w.heap.size w w2) := hb2
  have H2 : Hid (ListAt w2 Ed.cells 3 v2 L) := row_list ecell_len ho2
  obtain ⟨a2, n2', c2, rfl⟩ := row_form ho2
  clear hb2 ho2
  go_wp2_with fail
  refine Calls.mono (EO.out _ HB2.out) ?_
  rintro e w3 ⟨v3, rfl, ho3, hb3⟩
  have H3 : Hid (ListAt w3 Ed.cells 3 v3 L) := row_list ecell_len ho3
  have H23 : Hid (ListAt w3 Ed.cells 3 (.slice a2 n2' c2) L) := ListAt.stays H2.out (Nat.le_refl _) hb3
  have HB3 : Hid (Below w.heap.size w w3) := HB2.out.trans (hb3.mono HB2.out.size)
  obtain ⟨a3, n3, c3, rfl⟩ := row_form ho3
  clear hb3 ho3
  go_wp2_with fail
  refine Calls.mono (sedges_any _ _ L w3 H23.out H3.out) ?_
  rintro e w4 ⟨rfl, m, rfl⟩
  go_wp2_with fail
  go_ret
  exact ⟨rfl, HB3.out.trans (below_drewN (Below.refl _ _) m)⟩
end Go.Proofs.YtjcackcimofcmaaDoor
