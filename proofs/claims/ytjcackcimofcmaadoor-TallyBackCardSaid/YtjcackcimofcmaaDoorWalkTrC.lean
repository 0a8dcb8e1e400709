/-
  tally.Read: a text's edges.
-/
import Derived.Test.YtjcackcimofcmaaDoorWalkEoC
import Derived.Test.YtjcackcimofcmaaDoorRowMoreC
import Derived.Test.YtjcackcimofcmaaDoorAppListC
namespace Go.Proofs.YtjcackcimofcmaaDoor
open Go.RowKit Go.Joins
def strLen : Value → Nat
  | .string s => s.size
  | _ => 0
theorem nEd : (Tryd.prog.info? 33).map (fun i => (i.zero, i.size, i.bytes)) = some (some (.agg #[.int .i64 0, .int .i64 0, .int .i64 0]), 3, 24) := by kernel_rfl
theorem edges_fuel : ∀ (f g : Nat) (s : List UInt8) (l : List Ed), s.length < f → s.length < g → edgesN f s l = edgesN g s l
  | 0, g, s, l, h, _ => by omega
  | f + 1, 0, s, l, _, h => by omega
  | f + 1, g + 1, s, l, h1, h2 => by
    unfold edgesN
    by_cases h0 : s = []
    · rw [if_pos h0, if_pos h0]
    · rw [if_neg h0, if_neg h0]
      by_cases hi : Lib.index s [10] = -1
      · rw [if_pos hi, if_pos hi]
      · rw [if_neg hi, if_neg hi]
        cases edgeN (s.take (Lib.index s [10]).toNat) with
        | none => rfl
        | some e =>
          have : 0 < s.length := List.length_pos_iff.2 h0
          exact edges_fuel f g _ _ (by rw [List.length_drop]; omega) (by rw [List.length_drop]; omega)
/-- One line more. -/
theorem edges_step (s : List UInt8) (l : List Ed) (h0 : s ≠ []) (i : Nat) (hi : Lib.index s [10] = (i : Int)) :
    edgesN (s.length + 1) s l = match edgeN (s.take i) with | none => (4, []) | some e => edgesN ((s.drop (i + 1)).length + 1) (s.drop (i + 1)) (l ++ [e]) := by
  rw [edgesN, if_neg h0, if_neg (by omega), hi, Int.toNat_natCast]
  cases edgeN (s.take i) with
  | none => rfl
  | some e =>
    have : 0 < s.length := List.length_pos_iff.2 h0
    exact edges_fuel _ _ _ _ (by rw [List.length_drop]; omega) (by omega)
theorem edges_short (s : List UInt8) (l : List Ed) (h0 : s ≠ []) (hi : Lib.index s [10] = -1) : edgesN (s.length + 1) s l = (5, []) := by
  rw [edgesN, if_neg h0, if_pos hi]
/-- append of one edge to a row of our own. -/
theorem app_ed {wr : World} {B : Nat} {v : Value} {l : List Ed} (own : wr.ownsRow B 33 3 v l.length (flat Ed.cells l)) (hB : B ≤ wr.heap.size) (hl : l.length ≤ 100000) (e : Ed) (w1 : World) (h1 : Below wr.heap.size wr w1) (g : Nat)
    (hg : ∀ j u, (Ed.cells e)[j]? = some u → w1.cell? ⟨g, j, none⟩ = some u) :
    ∃ a c W, (Builtin.append_ #[22, 22] 22 #[v, .slice (some ⟨g, 0, none⟩) 1 1]).run Tryd.prog w1 = .ok (.slice a (l.length + 1) c) W ∧
      W.ownsRow B 33 3 (.slice a (l.length + 1) c) (l ++ [e]).length (flat Ed.cells (l ++ [e])) ∧ Below B wr W := by
  obtain ⟨v', W, hr, ho, gr⟩ := orow_apps 33 22 3 24 _ Tryd.underlying22 nEd rfl (by decide) (row_up own h1) (Nat.le_trans hB h1.size) g 0 1 1 (Ed.cells e) rfl (fun j u hj => by rw [Nat.zero_add]; exact hg j u hj) (ecell_one e) (by omega) (by unfold maxLen; omega)
  have e1 : flat Ed.cells l ++ Ed.cells e = flat Ed.cells (l ++ [e]) := by simp [flat]
  have e2 : l.length + 1 = (l ++ [e]).length := by simp
  obtain ⟨a, c, rfl⟩ := orow_form' ho
  rw [e1] at ho
  conv at ho => arg 6; rw [e2]
  exact ⟨a, c, W, hr, ho, (h1.mono hB).trans (obelow_grown (row_up own h1) gr (Nat.le_refl _) (Nat.le_trans hB h1.size))⟩
set_option maxHeartbeats 4000000 in
theorem read_any (s : ByteArray) (w : World) (ht : TalAt w) (hs : s.size ≤ maxLen) :
    Calls Tryd.prog 5 #[.string s] w fun e w' => ∃ v, e = .returned (.tuple #[v, .int .i64 (tallyN s.data.toList).1]) ∧
      w'.ownsRow w.heap.size 33 3 v (tallyN s.data.toList).2.length (flat Ed.cells (tallyN s.data.toList).2) ∧ Below w.heap.size w w' := by
  unfold maxLen at hs
  have hl := str_size s
  by_cases h1 : (4000 : Int) < s.size
  · have hr : tallyN s.data.toList = (1, []) := by unfold tallyN; rw [if_pos (by omega)]
    rw [hr]
    clear hr hl ht
    go_enter Tryd.func5, Tryd.ntmps5
    go_wp2
    go_ret2
    exact ⟨_, rfl, World.ownsRow_nil _ _ _ _, Below.refl _ _⟩
  have hr : tallyN s.data.toList = edgesN (s.data.toList.length + 1) s.data.toList [] := by unfold tallyN; rw [if_neg (by omega)]
  have HR : Hid _ := hr
  have HT : Hid (∀ W, Below w.heap.size w W → TalAt W) := fun W hb => ht.stays (Nat.le_refl _) hb
  clear hr hl ht
  go_enter Tryd.func5, Tryd.ntmps5
  go_wp2_with fail
  go_loopw [0, 4] (fun sv lv wr => ∃ (t : ByteArray) (l : List Ed), sv = .string t ∧ l.length + t.size ≤ 4000 ∧ (∃ a c, lv = .slice a l.length c) ∧ Hid (wr.ownsRow w.heap.size 33 3 lv l.length (flat Ed.cells l)) ∧
    Hid (tallyN s.data.toList = edgesN (t.data.toList.length + 1) t.data.toList l) ∧ Hid (Below w.heap.size w wr)) (fun sv _ _ => strLen sv)
  case atStart => exact ⟨s, [], rfl, by simp; omega, ⟨none, 0, rfl⟩, World.ownsRow_nil _ _ _ _, HR.out, Below.refl _ _⟩
  case round =>
    obtain ⟨t, l, rfl, hlt, ⟨aL, cL, rfl⟩, ho, hA, hb⟩ := hrel
    by_cases h0 : t.data.toList = []
    · have hz : (t.toList == []) = true := by rw [ByteArray.toList_eq, h0]; rfl
      have hE : Hid (tallyN s.data.toList = (0, l)) := by show _ = _; rw [hA.out, h0]; rfl
      clear h0
      go_wp2_with fail
      go_ret2
      exact ⟨.slice aL l.length cL, by rw [hE.out]; rfl, by rw [hE.out]; exact ho.out, hb.out⟩
    have hz : (t.toList == []) = false := by rw [ByteArray.toList_eq, beq_eq_false_iff_ne]; exact h0
    have htl := str_size t
    obtain ⟨mx, hmx⟩ := (HT.out wr hb.out).ml
    have CT := sh_strings_Cut t ⟨#[10]⟩ mx wr (by omega) hmx
    by_cases hi : Lib.index t.data.toList [10] = -1
    · have hE : Hid (tallyN s.data.toList = (5, [])) := by show _ = _; rw [hA.out, edges_short _ _ h0 hi]
      have hc : Lib.cut t.data.toList [10] = (t.data.toList, [], false) := by unfold Lib.cut; rw [if_neg (by omega)]
      rw [show (⟨#[10]⟩ : ByteArray).data.toList = [10] from rfl, hc] at CT
      clear h0 hmx htl hi hc
      go_wp2_with fail
      refine Calls.mono CT ?_
      rintro e w2 ⟨rfl, n, hw⟩
      rw [hw]
      go_wp2_with fail
      go_ret2
      exact ⟨.slice none 0 0, by rw [hE.out]; rfl, by rw [hE.out]; exact World.ownsRow_nil _ _ _ _, hb.out.trans (below_drewN (Below.refl _ _) n)⟩
    have hge := Lib.index_ge t.data.toList [10]
    obtain ⟨i, hi2⟩ := Int.eq_ofNat_of_zero_le (show 0 ≤ Lib.index t.data.toList [10] by omega)
    have hc : Lib.cut t.data.toList [10] = (t.data.toList.take i, t.data.toList.drop (i + 1), true) := by unfold Lib.cut; rw [if_pos (by omega), hi2, Int.toNat_natCast]; rfl
    rw [show (⟨#[10]⟩ : ByteArray).data.toList = [10] from rfl, hc] at CT
    have hst := edges_step _ l h0 i hi2
    have EO := edgeOf_any ⟨(t.data.toList.take i).toArray⟩
    have hds : (t.data.toList.drop (i + 1)).length + 1 ≤ t.size := by
      have : 0 < t.data.toList.length := List.length_pos_iff.2 h0
      rw [List.length_drop]; omega
    generalize t.data.toList.drop (i + 1) = D at *
    generalize hK : t.data.toList.take i = K at *
    have hKl : K.length ≤ t.size := by rw [← hK, List.length_take]; omega
    have EO2 : Hid (∀ W, Below w.heap.size w W → Calls Tryd.prog 12 #[.string ⟨K.toArray⟩] W fun e w' => ∃ x y z, e = .returned (.tuple #[.agg #[.int .i64 x, .int .i64 y, .int .i64 z], .bool (edgeN K).isSome]) ∧ (∀ d, edgeN K = some d → d = ⟨x, y, z⟩) ∧ Below W.heap.size W w') := fun W hb =>
      EO W (HT.out W hb) (by rw [str_size]; simp; omega)
    have hst2 : Hid _ := hst
    clear hst EO hc hK hi hi2 hge h0 hmx
    go_wp2_with fail
    refine Calls.mono CT ?_
    rintro e w2 ⟨rfl, n, hw⟩
    rw [hw]
    have hbn : Hid (Below w.heap.size w (wr.drewN n)) := hb.out.trans (below_drewN (Below.refl _ _) n)
    clear hw CT
    go_wp2_with fail
    refine Calls.mono (EO2.out _ hbn.out) ?_
    rintro e w3 ⟨x, y, z, rfl, hd, hb3⟩
    have HD : Hid _ := hd
    have HB3 : Hid (Below wr.heap.size wr w3) := (below_drewN (Below.refl _ _) n).trans hb3
    have hz4 : w.heap.size ≤ w3.heap.size := Nat.le_trans hb.out.size HB3.out.size
    clear hd hb3
    cases hE : edgeN K with
    | none =>
      have hE2 : Hid (tallyN s.data.toList = (4, [])) := by show _ = _; rw [hA.out, hst2.out, hE]
      clear hE
      go_wp2_with fail
      go_ret2
      exact ⟨.slice none 0 0, by rw [hE2.out]; rfl, by rw [hE2.out]; exact World.ownsRow_nil _ _ _ _, (hb.out.trans (HB3.out.mono hb.out.size)).trans (by go_grown)⟩
    | some d =>
      obtain rfl := HD.out d hE
      have hE2 : Hid (tallyN s.data.toList = edgesN (D.length + 1) D (l ++ [⟨x, y, z⟩])) := by show _ = _; rw [hA.out, hst2.out, hE]
      clear hE
      have hz3 : Hid (wr.heap.size ≤ w3.heap.size) := HB3.out.size
      have hbu : Below wr.heap.size wr ((w3.alloc (.cells #[.int .i64 x, .int .i64 y, .int .i64 z] 33)).alloc (.cells #[.int .i64 x, .int .i64 y, .int .i64 z] 33)) := (HB3.out.alloc hz3.out _).alloc (by have := hz3.out; simp; omega) _
      obtain ⟨a7, c7, W7, hr7, ho7, hb7⟩ := app_ed ho.out hb.out.size (by omega) ⟨x, y, z⟩ _ hbu (w3.heap.size + 1) (fun j u hj => by
        rw [show w3.heap.size + 1 = (w3.alloc (.cells #[.int .i64 x, .int .i64 y, .int .i64 z] 33)).heap.size by simp, World.cell?_alloc_new]
        simpa [Ed.cells] using hj)
      have HR7 : Hid _ := hr7
      have HO7 : Hid (W7.ownsRow w.heap.size 33 3 (.slice a7 (l.length + 1) c7) (l ++ [(⟨x, y, z⟩ : Ed)]).length (flat Ed.cells (l ++ [(⟨x, y, z⟩ : Ed)]))) := ho7
      have HB7 : Hid (Below w.heap.size w W7) := hb.out.trans hb7
      clear hr7 ho7 hb7 hbu
      go_wp2_with (first | (at_builtin; refine wpList_append_pair _ rfl (.tmp 30) (.tmp 32) 22 22 rfl _ _ rfl rfl HR7.out ?_))
      go_roundw
      case rel => refine ⟨⟨D.toArray⟩, l ++ [(⟨x, y, z⟩ : Ed)], rfl, by rw [str_size]; simp; omega, ⟨a7, c7, by simp⟩, ?_, ?_, HB7.out⟩; exact HO7.out; exact hE2.out
      case measure => show strLen _ < strLen _; unfold strLen; simp only; rw [str_size]; simp; omega
end Go.Proofs.YtjcackcimofcmaaDoor
