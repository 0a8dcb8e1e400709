/-
  tally.edgeOf: a line's edge.
-/
import Derived.Test.YtjcackcimofcmaaDoorPureTalC
import Derived.Test.YtjcackcimofcmaaDoorWalkNbC
import Derived.Lib.SplitLaws
namespace Go.Proofs.YtjcackcimofcmaaDoor
open Go.RowKit Go.Joins
theorem spR_len : ∀ (s cur p : List UInt8), p ∈ spR s cur → p.length ≤ cur.length + s.length
  | [], cur, p, h => by simp [spR] at h; subst h; omega
  | c :: r, cur, p, h => by
    rw [spR] at h
    split at h
    · rcases List.mem_cons.1 h with rfl | h
      · simp
      · have := spR_len r [] p h; simp at this ⊢; omega
    · have := spR_len r (cur ++ [c]) p h; simp at this ⊢; omega
theorem edgeN_not (l : List UInt8) (h : (spR l []).length ≠ 3) : edgeN l = none := by
  unfold edgeN
  split
  · rename_i a b c e; rw [e] at h; simp at h
  · rfl
theorem e3_same (w : World) (b o : Nat) (cs : Array Value) (T : TypeId) (v : Value) (h : w.heap[b]? = some (.cells cs T)) : (w.setCell ⟨b, o, none⟩ v).heap[b]? = some (.cells (cs.setIfInBounds o v) T) := by
  show (w.heap.modify b _)[b]? = _
  rw [Array.getElem?_modify, if_pos rfl, h]
  rfl
theorem chain3 {w2 : World} {g : Nat} {T : TypeId} {x0 x1 x2 : Value} (h : w2.heap[g]? = some (.cells #[x0, x1, x2] T)) (y0 y1 y2 : Value) :
    (((w2.setCell ⟨g, 0, none⟩ y0).setCell ⟨g, 1, none⟩ y1).setCell ⟨g, 2, none⟩ y2).cell? ⟨g, 0, none⟩ = some y0 ∧ (((w2.setCell ⟨g, 0, none⟩ y0).setCell ⟨g, 1, none⟩ y1).setCell ⟨g, 2, none⟩ y2).cell? ⟨g, 1, none⟩ = some y1 ∧
    (((w2.setCell ⟨g, 0, none⟩ y0).setCell ⟨g, 1, none⟩ y1).setCell ⟨g, 2, none⟩ y2).cell? ⟨g, 2, none⟩ = some y2 := by
  have C := e3_same _ g 2 _ T y2 (e3_same _ g 1 _ T y1 (e3_same w2 g 0 _ T y0 h))
  refine ⟨?_, ?_, ?_⟩
  all_goals (simp only [World.cell?, C]; rfl)
theorem str_size (s : ByteArray) : s.size = s.data.toList.length := by rw [Array.length_toList]; rfl
set_option maxHeartbeats 4000000 in
theorem edgeOf_any (s : ByteArray) (w : World) (ht : TalAt w) (hs : s.size ≤ 4000) :
    Calls Tryd.prog 12 #[.string s] w fun e w' => ∃ x y z, e = .returned (.tuple #[.agg #[.int .i64 x, .int .i64 y, .int .i64 z], .bool (edgeN s.data.toList).isSome]) ∧ (∀ d, edgeN s.data.toList = some d → d = ⟨x, y, z⟩) ∧ Below w.heap.size w w' := by
  have HT : Hid (∀ W, Below w.heap.size w W → TalAt W) := fun W hb => ht.stays (Nat.le_refl _) hb
  have SP : Hid (∀ W, Below w.heap.size w W → Calls Tryd.prog 16 #[.string s, .string ⟨#[32]⟩] W fun e w' =>
      ∃ P : List ByteArray, P.map (·.data.toList) = spR s.data.toList [] ∧ e = .returned (.slice (some ⟨W.heap.size, 0, none⟩) P.length P.length) ∧ w' = W.alloc (.cells (P.map Value.string).toArray 9)) := fun W hb => by
    obtain ⟨m, hm⟩ := (HT.out W hb).ml
    refine (sh_strings_Split s ⟨#[32]⟩ m W (by omega) hm (by decide)).mono fun e w' ⟨h1, h2⟩ => ?_
    have hl := Lib.splitB_all ⟨#[32]⟩ (by decide) 0 _ s rfl
    exact ⟨_, split_spR s, by rw [h1, ← hl], h2⟩
  have NB : Hid (∀ p : ByteArray, p.data.toList ∈ spR s.data.toList [] → ∀ W, Below w.heap.size w W → Calls Tryd.prog 17 #[.string p] W fun e w' => e = .returned (.tuple #[.int .i64 (max (cntN p.data.toList) 0), .bool (decide (0 ≤ cntN p.data.toList))]) ∧ Below W.heap.size W w') := fun p hp W hb =>
    number_any p W (HT.out W hb) (by have := spR_len _ _ _ hp; rw [str_size p]; have := str_size s; simp at *; omega)
  have HS : Hid (s.size ≤ 4000) := hs
  clear ht hs
  go_enter Tryd.func12, Tryd.ntmps12
  go_wp2_with fail
  refine Calls.mono (SP.out _ ((Below.refl _ _).alloc (Nat.le_refl _) _)) ?_
  rintro e w2 ⟨P, hP, rfl, hw⟩
  rw [hw]
  clear hw SP
  by_cases h3 : P.length = 3
  · match P, h3 with
    | [p0, p1, p2], _ =>
      have HE : Hid (edgeN s.data.toList = if 0 ≤ cntN p0.data.toList ∧ 0 ≤ cntN p1.data.toList ∧ 0 ≤ cntN p2.data.toList then some ⟨cntN p0.data.toList, cntN p1.data.toList, cntN p2.data.toList⟩ else none) := by
        show _ = _; unfold edgeN; rw [← hP]; rfl
      have N0 := NB.out p0 (by rw [← hP]; simp)
      have N1 := NB.out p1 (by rw [← hP]; simp)
      have N2 := NB.out p2 (by rw [← hP]; simp)
      have M0 : Hid _ := N0
      have M1 : Hid _ := N1
      have M2 : Hid _ := N2
      clear hP NB N0 N1 N2
      generalize cntN p0.data.toList = C0 at *
      generalize cntN p1.data.toList = C1 at *
      generalize cntN p2.data.toList = C2 at *
      obtain ⟨W1, hW1⟩ : ∃ W1, W1 = (w.alloc (.cells #[.int .i64 0, .int .i64 0, .int .i64 0] 33)).alloc (.cells #[.string p0, .string p1, .string p2] 9) := ⟨_, rfl⟩
      have HB : Hid (Below w.heap.size w W1) := by show Below _ _ _; rw [hW1]; go_grown
      have HC : Hid (∀ W, Below (w.heap.size + 2) W1 W → W.cell? ⟨w.heap.size + 1, 0, none⟩ = some (.string p0) ∧ W.cell? ⟨w.heap.size + 1, 1, none⟩ = some (.string p1) ∧ W.cell? ⟨w.heap.size + 1, 2, none⟩ = some (.string p2) ∧
          W.cell? ⟨w.heap.size, 0, none⟩ = some (.int .i64 0) ∧ W.cell? ⟨w.heap.size, 1, none⟩ = some (.int .i64 0) ∧ W.cell? ⟨w.heap.size, 2, none⟩ = some (.int .i64 0) ∧ W.frozen? ⟨w.heap.size, 0, none⟩ = false ∧ W.frozen? ⟨w.heap.size, 1, none⟩ = false ∧ W.frozen? ⟨w.heap.size, 2, none⟩ = false) := fun W hb => by
        refine ⟨?_, ?_, ?_, ?_, ?_, ?_, ?_, ?_, ?_⟩ <;> (first | rw [hb.cell (by simp)] | rw [hb.frozen (by simp)]) <;> (rw [hW1]; simp)
      have HK : Hid (∀ W, Below (w.heap.size + 2) W1 W → W.heap[w.heap.size]? = some (.cells #[.int .i64 0, .int .i64 0, .int .i64 0] 33)) := fun W hb => by
        rw [hb.block _ (by omega), hW1, Below.heap_alloc _ _ _ (by simp)]
        show (w.heap.push _)[w.heap.size]? = _
        simp
      have HZ : Hid (W1.heap.size = w.heap.size + 2) := by show _ = _; rw [hW1]; simp
      simp only [List.map_cons, List.map_nil, World.size_alloc, List.length_cons, List.length_nil, Nat.zero_add, Nat.reduceAdd]
      rw [show (#[Value.string p0, .string p1, .string p2] : Array Value) = [Value.string p0, .string p1, .string p2].toArray from rfl] at hW1
      rw [← hW1]
      clear hW1
      have f1 := HC.out W1 (Below.refl _ _)
      obtain ⟨a0, a1, a2, b0, b1, b2, fz0, fz1, fz2⟩ := f1
      have HD : Hid (edgeN s.data.toList = if (decide (0 ≤ C0) && decide (0 ≤ C1) && decide (0 ≤ C2)) = true then some ⟨C0, C1, C2⟩ else none) := by
        show _ = _; rw [HE.out]; congr 1; simp [and_assoc]
      have HX : Hid (decide (0 ≤ C0) = true → max C0 0 = C0) := fun h => by simp at h; omega
      have HY : Hid (decide (0 ≤ C1) = true → max C1 0 = C1) := fun h => by simp at h; omega
      have HW : Hid (decide (0 ≤ C2) = true → max C2 0 = C2) := fun h => by simp at h; omega
      clear HE
      generalize decide (0 ≤ C0) = d0 at *
      generalize decide (0 ≤ C1) = d1 at *
      generalize decide (0 ≤ C2) = d2 at *
      generalize hm0 : max C0 0 = m0 at *
      generalize hm1 : max C1 0 = m1 at *
      generalize hm2 : max C2 0 = m2 at *
      have HM0 : Hid _ := hm0
      have HM1 : Hid _ := hm1
      have HM2 : Hid _ := hm2
      clear hm0 hm1 hm2
      go_wp2_with fail
      refine Calls.mono (M0.out W1 HB.out) ?_
      rintro e w3 ⟨rfl, hb3⟩
      have B3 : Hid (Below (w.heap.size + 2) W1 w3) := hb3.mono (by rw [HZ.out]; exact Nat.le_refl _)
      have Z3 : Hid (w.heap.size + 2 ≤ w3.heap.size) := by have := hb3.size; rw [HZ.out] at this; exact this
      clear hb3 a0 a1 a2 b0 b1 b2 fz0 fz1 fz2
      obtain ⟨a0, a1, a2, b0, b1, b2, fz0, fz1, fz2⟩ := HC.out w3 B3.out
      go_wp2_with fail
      refine Calls.mono (M1.out w3 (HB.out.trans (B3.out.mono (by omega)))) ?_
      rintro e w4 ⟨rfl, hb4⟩
      have B4 : Hid (Below (w.heap.size + 2) W1 w4) := B3.out.trans (hb4.mono Z3.out)
      have Z4 : Hid (w.heap.size + 2 ≤ w4.heap.size) := by have := hb4.size; have := Z3.out; show _ ≤ _; omega
      clear hb4 a0 a1 a2 b0 b1 b2 fz0 fz1 fz2
      obtain ⟨a0, a1, a2, b0, b1, b2, fz0, fz1, fz2⟩ := HC.out w4 B4.out
      go_wp2_with fail
      refine Calls.mono (M2.out w4 (HB.out.trans (B4.out.mono (by omega)))) ?_
      rintro e w5 ⟨rfl, hb5⟩
      have B5 : Hid (Below (w.heap.size + 2) W1 w5) := B4.out.trans (hb5.mono Z4.out)
      have Z5 : Hid (w.heap.size + 2 ≤ w5.heap.size) := by have := hb5.size; have := Z4.out; show _ ≤ _; omega
      clear hb5 a0 a1 a2 b0 b1 b2 fz0 fz1 fz2
      obtain ⟨a0, a1, a2, b0, b1, b2, fz0, fz1, fz2⟩ := HC.out w5 B5.out
      have CH : Hid _ := chain3 (HK.out w5 B5.out) (.int .i64 m0) (.int .i64 m1) (.int .i64 m2)
      cases d0 <;> cases d1 <;> cases d2
      all_goals
        go_wp2
        exact bodyPost_ret (v := .tuple #[.agg #[.int .i64 m0, .int .i64 m1, .int .i64 m2], .bool (edgeN s.data.toList).isSome]) (by rw [HD.out]; simp [results, Tryd.results12, go_sem, CH.out.1, CH.out.2.1, CH.out.2.2]) rfl ⟨m0, m1, m2, rfl, (by
          intro d hd
          have e := HD.out
          rw [hd] at e
          first
            | (exfalso; simp at e; done)
            | (have e2 := Option.some.inj (e.trans (if_pos rfl)); rw [e2, HX.out (by simp), HY.out (by simp), HW.out (by simp)])), HB.out.trans ((B5.out.mono (by omega)).trans (by go_grown))⟩
  · have h3' : ((P.length : Int) != 3) = true := by rw [bne_iff_ne]; omega
    have hE : edgeN s.data.toList = none := edgeN_not _ (by rw [← hP, List.length_map]; exact h3)
    have HE : Hid _ := hE
    clear h3 hP hE NB
    go_wp2
    exact bodyPost_ret (v := .tuple #[.agg #[.int .i64 0, .int .i64 0, .int .i64 0], .bool false]) (by simp [results, Tryd.results12, go_sem]) rfl ⟨0, 0, 0, by rw [HE.out]; rfl, by rw [HE.out]; simp, by go_grown⟩
end Go.Proofs.YtjcackcimofcmaaDoor
