/-
  boltholelaw.sameInts, sameLists and sameImage: true at two slices, or images, of one content.
-/
import Derived.Test.YtechpdfcgimkkaaDoorMCC
import Derived.Laws.BytesString
import Derived.Deep.QuietTactic
import Derived.BigQuiet
namespace Go.Proofs.YtechpdfcgimkkaaDoor
open Go.RowKit Go.Joins
theorem jbelc {B : Nat} {W w1 : World} (hb : Below B W w1) : ∀ b o, b < B → w1.cell? ⟨b, o, none⟩ = W.cell? ⟨b, o, none⟩ := fun b o h => hb.cell (p := ⟨b, o, none⟩) h
theorem jdrewN {B : Nat} {W w1 : World} (h : Below B W w1) (n : Nat) : Below B W (w1.drewN n) := ⟨h.os, h.tape, h.output, h.size, h.block⟩
def jstr (ns : List Int) : ByteArray := ns.foldl (fun r n => r.push (UInt8.ofNat n.toNat)) ByteArray.empty
theorem conv_list {w : World} {v : Value} {ns : List Int} (h : ListAt w ucell 1 v ns) : (convert 23 9 v).run Tryd.prog w = .ok (.string (jstr ns)) w := by
  have hnil : ∀ a cap, (convert 23 9 (.slice a 0 cap)).run Tryd.prog w = .ok (.string ByteArray.empty) w := fun a cap => by
    rw [run_convert_bytes_string w 23 9 5 _ _ _ Tryd.underlying23 Tryd.underlying5 Tryd.underlying9]
    cases a with
    | none => rfl
    | some a => exact run_bytesToString w a 0 cap [] (by simpa using run_loadCells_list (P := Tryd.prog) w a [] (by simp))
  rcases h with ⟨a, cap, rfl, rfl⟩ | ⟨bb, oo, cap, rfl, _, _, _, h4⟩
  · exact hnil a cap
  · rw [run_convert_bytes_string w 23 9 5 _ _ _ Tryd.underlying23 Tryd.underlying5 Tryd.underlying9]
    refine run_bytesToString w _ _ _ ns ?_
    have := run_loadCells_list (P := Tryd.prog) (w := w) ⟨bb, oo, none⟩ (ns.map (Value.int .u8)) (fun j v hj => by
      rw [List.getElem?_map, Option.map_eq_some_iff] at hj
      obtain ⟨x, hx, rfl⟩ := hj
      rw [Addr.add_lit]
      have := h4 j x hx 0 _ rfl
      rwa [Nat.mul_one, Nat.add_zero] at this)
    simpa using this
theorem ListAt.drewN {α : Type} {w : World} {cells : α → List Value} {sz : Nat} {v : Value} {xs : List α} (h : ListAt w cells sz v xs) (n : Nat) : ListAt (w.drewN n) cells sz v xs := h
set_option maxHeartbeats 1000000 in
theorem sameInts_any (v1 v2 : Value) (xs : List Int) (w : World) (h1 : ListAt w icell 1 v1 xs) (h2 : ListAt w icell 1 v2 xs) :
    Calls Tryd.prog 67 #[v1, v2] w fun e w' => e = .returned (.bool true) ∧ ∃ n, w' = w.drewN n := by
  obtain ⟨a1, p1, rfl, hlen⟩ := h1.form
  obtain ⟨a2, p2, rfl, _⟩ := h2.form
  have H1 : Hid (ListAt w icell 1 (.slice a1 xs.length p1) xs) := h1
  have H2 : Hid (ListAt w icell 1 (.slice a2 xs.length p2) xs) := h2
  unfold maxLen at hlen
  clear h1 h2
  go_enter Tryd.func67, Tryd.ntmps67
  go_wp2_with fail
  go_loopw [5] (fun u wr => ∃ j n : Nat, j ≤ xs.length ∧ u = .int .i64 (j : Int) ∧ wr = w.drewN n) (fun u _ => (xs.length - intOf u).toNat)
  case atStart => exact ⟨0, 0, by omega, rfl, rfl⟩
  case round =>
    obtain ⟨j, n, j1, rfl, rfl⟩ := hrel
    by_cases hj : j < xs.length
    · obtain ⟨y, hy⟩ : ∃ y, xs[j]? = some y := ⟨_, List.getElem?_eq_getElem (by omega)⟩
      obtain ⟨bb, oo, cap, hv, c1, c2, c3, c4⟩ := H1.out.resolve_left (by rintro ⟨_, _, _, h⟩; subst h; simp at hj)
      cases hv
      obtain ⟨b2, o2, cap2, hv, _, _, d3, d4⟩ := H2.out.resolve_left (by rintro ⟨_, _, _, h⟩; subst h; simp at hj)
      cases hv
      have x0 := c4 j y hy 0 (.int .i64 y) rfl
      have x1 := d4 j y hy 0 (.int .i64 y) rfl
      rw [Nat.mul_one, Nat.add_zero] at x0 x1
      have hjj : (j : Int) < (xs.length : Int) := by omega
      clear c4 d4 hy
      go_wp2_with fail
      go_quiet (fail)
      go_wp2
      go_roundw
      case rel => exact ⟨j + 1, _, by omega, by go_num, rfl⟩
      case measure => simp [intOf]; omega
    · go_wp2
      go_ret
      exact ⟨rfl, _, rfl⟩
set_option maxHeartbeats 1000000 in
theorem sameLists_any (v1 v2 : Value) (vs us : List Value) (ts : List (List Int)) (w : World) (h1 : ListAt w vcell 1 v1 vs) (h2 : ListAt w vcell 1 v2 us) (l1 : vs.length = ts.length) (l2 : us.length = ts.length)
    (e1 : ∀ (j : Nat) (u : Value) (t : List Int), vs[j]? = some u → ts[j]? = some t → ListAt w icell 1 u t) (e2 : ∀ (j : Nat) (u : Value) (t : List Int), us[j]? = some u → ts[j]? = some t → ListAt w icell 1 u t) :
    Calls Tryd.prog 68 #[v1, v2] w fun e w' => e = .returned (.bool true) ∧ ∃ n, w' = w.drewN n := by
  obtain ⟨a1, p1, rfl, hlen⟩ := h1.form
  obtain ⟨a2, p2, rfl, _⟩ := h2.form
  have H1 : Hid (ListAt w vcell 1 (.slice a1 vs.length p1) vs) := h1
  have H2 : Hid (ListAt w vcell 1 (.slice a2 us.length p2) us) := h2
  have E1 : Hid _ := e1
  have E2 : Hid _ := e2
  unfold maxLen at hlen
  clear h1 h2 e1 e2
  rw [l1] at H1 ⊢ hlen
  rw [l2] at H2 ⊢
  have L1 : Hid (vs.length = ts.length) := l1
  have L2 : Hid (us.length = ts.length) := l2
  clear l1 l2
  go_enter Tryd.func68, Tryd.ntmps68
  go_wp2_with fail
  go_loopw [5] (fun u wr => ∃ j n : Nat, j ≤ ts.length ∧ u = .int .i64 (j : Int) ∧ wr = w.drewN n) (fun u _ => (ts.length - intOf u).toNat)
  case atStart => exact ⟨0, 0, by omega, rfl, rfl⟩
  case round =>
    obtain ⟨j, n, j1, rfl, hwr⟩ := hrel
    by_cases hj : j < ts.length
    · obtain ⟨t, ht⟩ : ∃ y, ts[j]? = some y := ⟨_, List.getElem?_eq_getElem (by omega)⟩
      obtain ⟨y, hy⟩ : ∃ y, vs[j]? = some y := ⟨_, List.getElem?_eq_getElem (by have := L1.out; omega)⟩
      obtain ⟨z, hz⟩ : ∃ y, us[j]? = some y := ⟨_, List.getElem?_eq_getElem (by have := L2.out; omega)⟩
      obtain ⟨bb, oo, cap, hv, c1, c2, c3, c4⟩ := H1.out.resolve_left (by rintro ⟨_, _, _, h⟩; have := L1.out; rw [h] at this; simp at this; omega)
      rw [L1.out] at hv
      cases hv
      obtain ⟨b2, o2, cap2, hv, _, _, d3, d4⟩ := H2.out.resolve_left (by rintro ⟨_, _, _, h⟩; have := L2.out; rw [h] at this; simp at this; omega)
      rw [L2.out] at hv
      cases hv
      have x0 : wr.cell? ⟨bb, oo + j * 1 + 0, none⟩ = some y := by rw [hwr]; exact c4 j y hy 0 y rfl
      have x1 : wr.cell? ⟨b2, o2 + j * 1 + 0, none⟩ = some z := by rw [hwr]; exact d4 j z hz 0 z rfl
      rw [Nat.mul_one, Nat.add_zero] at x0 x1
      have hjj : (j : Int) < (ts.length : Int) := by omega
      have T1 : Hid (ListAt wr icell 1 y t) := by rw [hwr]; exact E1.out j y t hy ht
      have T2 : Hid (ListAt wr icell 1 z t) := by rw [hwr]; exact E2.out j z t hz ht
      have HWr : Hid (wr = w.drewN n) := hwr
      clear hwr
      clear c4 d4 hy hz ht
      go_wp2_with fail
      go_quiet (first | (go_at_call 67; exact Calls.quiet_of (sameInts_any _ _ t _ (T1.out.drewN _) (T2.out.drewN _))))
      go_wp2
      go_roundw
      case rel => exact ⟨j + 1, _, by omega, by go_num, by rw [HWr.out]; exact World.drewN_drewN _ _ _⟩
      case measure => simp [intOf]; omega
    · go_wp2
      go_ret
      exact ⟨rfl, _, rfl⟩
set_option maxHeartbeats 4000000 in
theorem sameImage_any (aT aF aB aD aL bT bF bB bD bL : Value) (m : Img) (w : World) (hA : ImgAt w aT aF aB aD aL m) (hB : ImgAt w bT bF bB bD bL m) :
    Calls Tryd.prog 30 #[.agg #[aT, aF, aB, aD, aL, .int .i64 m.entry], .agg #[bT, bF, bB, bD, bL, .int .i64 m.entry]] w fun e w' => e = .returned (.bool true) ∧ Below w.heap.size w w' := by
  obtain ⟨W, hW⟩ : ∃ W, (w.alloc (.cells #[aT, aF, aB, aD, aL, .int .i64 m.entry] 29)).alloc (.cells #[bT, bF, bB, bD, bL, .int .i64 m.entry] 29) = W := ⟨_, rfl⟩
  have B0 : Below w.heap.size w W := by rw [← hW]; exact ((Below.refl _ _).alloc (Nat.le_refl _) _).alloc (by simp) _
  have hz : W.heap.size = w.heap.size + 2 := by rw [← hW]; simp
  have XA : ∀ o, o < 6 → W.cell? ⟨w.heap.size, o, none⟩ = #[aT, aF, aB, aD, aL, .int .i64 m.entry][o]? := fun o ho => by
    rw [← hW]; refine (World.cell?_alloc_past _ _ _ (by simp)).trans (World.cell?_alloc_new _ _ _ _)
  have XB : ∀ o, o < 6 → W.cell? ⟨w.heap.size + 1, o, none⟩ = #[bT, bF, bB, bD, bL, .int .i64 m.entry][o]? := fun o ho => by
    rw [← hW]
    simp
  have hA' := hA.stays (Nat.le_refl _) B0
  have hB' := hB.stays (Nat.le_refl _) B0
  obtain ⟨tA, kA, rfl, l0⟩ := hA.text.form
  obtain ⟨tB, kB, rfl, _⟩ := hB.text.form
  obtain ⟨fA, kfA, rfl, l1⟩ := hA.funcs.form
  obtain ⟨fB, kfB, rfl, _⟩ := hB.funcs.form
  obtain ⟨lA, klA, rfl, l2⟩ := hA.lines.form
  obtain ⟨lB, klB, rfl, _⟩ := hB.lines.form
  unfold maxLen at l0 l1 l2
  have c1 := conv_list hA'.text
  have c2 := conv_list hB'.text
  obtain ⟨vs, g1, g2, g3⟩ := hA'.tables
  obtain ⟨us, q1, q2, q3⟩ := hB'.tables
  have D : Hid (∀ n, Calls Tryd.prog 67 #[aD, bD] (W.drewN n) fun e w' => e = .returned (.bool true) ∧ ∃ k, w' = (W.drewN n).drewN k) := fun n => sameInts_any aD bD m.data _ hA'.data hB'.data
  have T : Hid (∀ n, Calls Tryd.prog 68 #[aB, bB] (W.drewN n) fun e w' => e = .returned (.bool true) ∧ ∃ k, w' = (W.drewN n).drewN k) := fun n => sameLists_any aB bB vs us m.tables _ g1 q1 g2 q2 g3 q3
  rw [← hW] at c1 c2 D T
  have HF1 : Hid _ := hA'.funcs
  have HF2 : Hid _ := hB'.funcs
  have HL1 : Hid _ := hA'.lines
  have HL2 : Hid _ := hB'.lines
  have a0 := XA 0 (by omega); have a1 := XA 1 (by omega); have a2 := XA 2 (by omega); have a3 := XA 3 (by omega); have a4 := XA 4 (by omega); have a5 := XA 5 (by omega)
  have b0 := XB 0 (by omega); have b1 := XB 1 (by omega); have b2 := XB 2 (by omega); have b3 := XB 3 (by omega); have b4 := XB 4 (by omega); have b5 := XB 5 (by omega)
  simp at a0 a1 a2 a3 a4 a5 b0 b1 b2 b3 b4 b5
  have HW : Hid _ := hW
  have HB0 : Hid (Below w.heap.size w W) := B0
  clear XA XB hA hB hA' hB' g1 g2 g3 q1 q2 q3 B0 hW
  go_enter Tryd.func30, Tryd.ntmps30
  go_wp2_with (first
    | (go_at_call 67; refine (D.out 0).mono ?_; rintro e w1 ⟨rfl, n1, hw1⟩; obtain rfl := hw1.symm)
    | (go_at_call 68; refine (T.out _).mono ?_; rintro e w2 ⟨rfl, n2, hw2⟩; obtain rfl := hw2.symm))
  rw [HW.out]
  have HLa : Hid (m.lines.length ≤ 9223372036854775807) := by show _ ≤ _; omega
  go_loopw [5] (fun u wr => ∃ j n : Nat, j ≤ m.funcs.length ∧ u = .int .i64 (j : Int) ∧ wr = W.drewN n) (fun u _ => (m.funcs.length - intOf u).toNat)
  case atStart => exact ⟨0, _, by omega, rfl, rfl⟩
  case round =>
    obtain ⟨j, n, j1, rfl, rfl⟩ := hrel
    by_cases hj : j < m.funcs.length
    · obtain ⟨y, hy⟩ : ∃ y, m.funcs[j]? = some y := ⟨_, List.getElem?_eq_getElem (by omega)⟩
      obtain ⟨bb, oo, cap, hv, c1, c2, c3, c4⟩ := HF1.out.resolve_left (by rintro ⟨_, _, _, h⟩; rw [h] at hj; simp at hj)
      cases hv
      obtain ⟨b2', o2, cap2, hv, _, _, d3, d4⟩ := HF2.out.resolve_left (by rintro ⟨_, _, _, h⟩; rw [h] at hj; simp at hj)
      cases hv
      have x0 : W.cell? ⟨bb, oo + j * 3, none⟩ = some (.string y.name) := c4 j y hy 0 _ rfl
      have x1 : W.cell? ⟨bb, oo + j * 3 + 1, none⟩ = some (.int .i64 y.start) := c4 j y hy 1 _ rfl
      have x2 : W.cell? ⟨bb, oo + j * 3 + 2, none⟩ = some (.int .i64 y.size) := c4 j y hy 2 _ rfl
      have y0 : W.cell? ⟨b2', o2 + j * 3, none⟩ = some (.string y.name) := d4 j y hy 0 _ rfl
      have y1 : W.cell? ⟨b2', o2 + j * 3 + 1, none⟩ = some (.int .i64 y.start) := d4 j y hy 1 _ rfl
      have y2 : W.cell? ⟨b2', o2 + j * 3 + 2, none⟩ = some (.int .i64 y.size) := d4 j y hy 2 _ rfl
      have hjj : (j : Int) < (m.funcs.length : Int) := by omega
      clear c4 d4 hy
      go_wp2_with fail
      go_quiet (fail)
      go_wp2
      go_roundw
      case rel => exact ⟨j + 1, _, by omega, by go_num, rfl⟩
      case measure => simp [intOf]; omega
    · go_wp2_with fail
      go_loopw [6] (fun u wr => ∃ j n : Nat, j ≤ m.lines.length ∧ u = .int .i64 (j : Int) ∧ wr = W.drewN n) (fun u _ => (m.lines.length - intOf u).toNat)
      case atStart => exact ⟨0, _, by omega, rfl, rfl⟩
      case round =>
        obtain ⟨i, k, i1, rfl, rfl⟩ := hrel
        by_cases hi : i < m.lines.length
        · obtain ⟨y, hy⟩ : ∃ y, m.lines[i]? = some y := ⟨_, List.getElem?_eq_getElem (by omega)⟩
          obtain ⟨bb, oo, cap, hv, c1, c2, c3, c4⟩ := HL1.out.resolve_left (by rintro ⟨_, _, _, h⟩; rw [h] at hi; simp at hi)
          cases hv
          obtain ⟨b2', o2, cap2, hv, _, _, d3, d4⟩ := HL2.out.resolve_left (by rintro ⟨_, _, _, h⟩; rw [h] at hi; simp at hi)
          cases hv
          have x0 : W.cell? ⟨bb, oo + i * 2, none⟩ = some (.int .i64 y.a) := c4 i y hy 0 _ rfl
          have x1 : W.cell? ⟨bb, oo + i * 2 + 1, none⟩ = some (.int .i64 y.n) := c4 i y hy 1 _ rfl
          have y0 : W.cell? ⟨b2', o2 + i * 2, none⟩ = some (.int .i64 y.a) := d4 i y hy 0 _ rfl
          have y1 : W.cell? ⟨b2', o2 + i * 2 + 1, none⟩ = some (.int .i64 y.n) := d4 i y hy 1 _ rfl
          have hjj : (i : Int) < (m.lines.length : Int) := by omega
          clear c4 d4 hy
          go_wp2_with fail
          go_quiet (fail)
          go_wp2
          go_roundw
          case rel => exact ⟨i + 1, _, by omega, by go_num, rfl⟩
          case measure => simp [intOf]; omega
        · go_wp2
          go_ret
          exact ⟨rfl, jdrewN HB0.out _⟩
end Go.Proofs.YtechpdfcgimkkaaDoor
