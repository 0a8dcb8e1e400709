/-
  boltholekeep.sameImage at two images that are the same one (written by genes.py).
-/
import Derived.Test.YtechpdfcgimkkaaDoorMZC
import Derived.Test.YtechpdfcgimkkaaDoorWalkSmC
import Derived.Test.YtechpdfcgimkkaaDoorMCC
import Derived.BigQuiet
import Derived.Deep.QuietTactic
namespace Go.Proofs.YtechpdfcgimkkaaDoor
open Go.RowKit Go.Joins
set_option maxRecDepth 100000
set_option maxHeartbeats 1000000 in
theorem equalF_same (v1 v2 : Value) (xs : List Fn) (w : World) (h1 : ListAt w Fn.cells 3 v1 xs) (h2 : ListAt w Fn.cells 3 v2 xs) :
    Calls Tryd.prog 48 #[v1, v2] w fun e w' => e = .returned (.bool true) ∧ ∃ n, w' = w.drewN n := by
  obtain ⟨a1, p1, rfl, hlen⟩ := h1.form
  obtain ⟨a2, p2, rfl, _⟩ := h2.form
  have H1 : Hid (ListAt w Fn.cells 3 (.slice a1 xs.length p1) xs) := h1
  have H2 : Hid (ListAt w Fn.cells 3 (.slice a2 xs.length p2) xs) := h2
  unfold maxLen at hlen
  clear h1 h2
  go_enter Tryd.func48, Tryd.ntmps48
  go_wp2_with fail
  go_loopw [13] (fun u wr => ∃ j n : Nat, j ≤ xs.length ∧ u = .int .i64 (j : Int) ∧ wr = w.drewN n) (fun u _ => (xs.length - intOf u).toNat)
  case atStart => exact ⟨0, 0, by omega, rfl, rfl⟩
  case round =>
    obtain ⟨j, n, j1, rfl, rfl⟩ := hrel
    by_cases hj : j < xs.length
    · obtain ⟨y, hy⟩ : ∃ y, xs[j]? = some y := ⟨_, List.getElem?_eq_getElem (by omega)⟩
      obtain ⟨bb, oo, cap, hv, c1, c2, c3, c4⟩ := H1.out.resolve_left (by rintro ⟨_, _, _, h⟩; subst h; simp at hj)
      cases hv
      obtain ⟨b2, o2, cap2, hv, _, _, d3, d4⟩ := H2.out.resolve_left (by rintro ⟨_, _, _, h⟩; subst h; simp at hj)
      cases hv
      have x0 : w.cell? ⟨bb, oo + j * 3, none⟩ = some (.string y.name) := c4 j y hy 0 _ rfl
      have z0 : w.cell? ⟨b2, o2 + j * 3, none⟩ = some (.string y.name) := d4 j y hy 0 _ rfl
      have x1 : w.cell? ⟨bb, oo + j * 3 + 1, none⟩ = some (.int .i64 y.start) := c4 j y hy 1 _ rfl
      have z1 : w.cell? ⟨b2, o2 + j * 3 + 1, none⟩ = some (.int .i64 y.start) := d4 j y hy 1 _ rfl
      have x2 : w.cell? ⟨bb, oo + j * 3 + 2, none⟩ = some (.int .i64 y.size) := c4 j y hy 2 _ rfl
      have z2 : w.cell? ⟨b2, o2 + j * 3 + 2, none⟩ = some (.int .i64 y.size) := d4 j y hy 2 _ rfl
      have hjj : (j : Int) < (xs.length : Int) := by omega
      clear c4 d4 hy
      go_wp2_with fail
      go_quiet (fail)
      go_wp2
      go_roundw
      case rel => exact ⟨j + 1, _, by omega, by go_num, rfl⟩
      case measure => simp [intOf]; omega
    · go_wp2
      go_ret
      exact ⟨rfl, _, rfl⟩
set_option maxHeartbeats 1000000 in
theorem equalL_same (v1 v2 : Value) (xs : List Ln) (w : World) (h1 : ListAt w Ln.cells 2 v1 xs) (h2 : ListAt w Ln.cells 2 v2 xs) :
    Calls Tryd.prog 49 #[v1, v2] w fun e w' => e = .returned (.bool true) ∧ ∃ n, w' = w.drewN n := by
  obtain ⟨a1, p1, rfl, hlen⟩ := h1.form
  obtain ⟨a2, p2, rfl, _⟩ := h2.form
  have H1 : Hid (ListAt w Ln.cells 2 (.slice a1 xs.length p1) xs) := h1
  have H2 : Hid (ListAt w Ln.cells 2 (.slice a2 xs.length p2) xs) := h2
  unfold maxLen at hlen
  clear h1 h2
  go_enter Tryd.func49, Tryd.ntmps49
  go_wp2_with fail
  go_loopw [13] (fun u wr => ∃ j n : Nat, j ≤ xs.length ∧ u = .int .i64 (j : Int) ∧ wr = w.drewN n) (fun u _ => (xs.length - intOf u).toNat)
  case atStart => exact ⟨0, 0, by omega, rfl, rfl⟩
  case round =>
    obtain ⟨j, n, j1, rfl, rfl⟩ := hrel
    by_cases hj : j < xs.length
    · obtain ⟨y, hy⟩ : ∃ y, xs[j]? = some y := ⟨_, List.getElem?_eq_getElem (by omega)⟩
      obtain ⟨bb, oo, cap, hv, c1, c2, c3, c4⟩ := H1.out.resolve_left (by rintro ⟨_, _, _, h⟩; subst h; simp at hj)
      cases hv
      obtain ⟨b2, o2, cap2, hv, _, _, d3, d4⟩ := H2.out.resolve_left (by rintro ⟨_, _, _, h⟩; subst h; simp at hj)
      cases hv
      have x0 : w.cell? ⟨bb, oo + j * 2, none⟩ = some (.int .i64 y.a) := c4 j y hy 0 _ rfl
      have z0 : w.cell? ⟨b2, o2 + j * 2, none⟩ = some (.int .i64 y.a) := d4 j y hy 0 _ rfl
      have x1 : w.cell? ⟨bb, oo + j * 2 + 1, none⟩ = some (.int .i64 y.n) := c4 j y hy 1 _ rfl
      have z1 : w.cell? ⟨b2, o2 + j * 2 + 1, none⟩ = some (.int .i64 y.n) := d4 j y hy 1 _ rfl
      have hjj : (j : Int) < (xs.length : Int) := by omega
      clear c4 d4 hy
      go_wp2_with fail
      go_quiet (fail)
      go_wp2
      go_roundw
      case rel => exact ⟨j + 1, _, by omega, by go_num, rfl⟩
      case measure => simp [intOf]; omega
    · go_wp2
      go_ret
      exact ⟨rfl, _, rfl⟩
set_option maxHeartbeats 2000000 in
theorem equalLists_same (v1 v2 : Value) (vs us : List Value) (ts : List (List Int)) (w : World) (h1 : ListAt w vcell 1 v1 vs) (h2 : ListAt w vcell 1 v2 us) (l1 : vs.length = ts.length) (l2 : us.length = ts.length)
    (e1 : ∀ (j : Nat) (u : Value) (t : List Int), vs[j]? = some u → ts[j]? = some t → ListAt w icell 1 u t) (e2 : ∀ (j : Nat) (u : Value) (t : List Int), us[j]? = some u → ts[j]? = some t → ListAt w icell 1 u t) :
    Calls Tryd.prog 50 #[v1, v2, .func (.func 34) #[] #[]] w fun e w' => e = .returned (.bool true) ∧ ∃ n, w' = w.drewN n := by
  obtain ⟨a1, p1, rfl, hlen⟩ := h1.form
  obtain ⟨a2, p2, rfl, _⟩ := h2.form
  have H1 : Hid (ListAt w vcell 1 (.slice a1 vs.length p1) vs) := h1
  have H2 : Hid (ListAt w vcell 1 (.slice a2 us.length p2) us) := h2
  have E1 : Hid _ := e1
  have E2 : Hid _ := e2
  unfold maxLen at hlen
  clear h1 h2 e1 e2
  rw [l1] at H1 ⊢ hlen
  rw [l2] at H2 ⊢
  have L1 : Hid (vs.length = ts.length) := l1
  have L2 : Hid (us.length = ts.length) := l2
  clear l1 l2
  go_enter Tryd.func50, Tryd.ntmps50
  go_wp2_with fail
  go_loopw [17] (fun u wr => ∃ j n : Nat, j ≤ ts.length ∧ u = .int .i64 (j : Int) ∧ wr = w.drewN n) (fun u _ => (ts.length - intOf u).toNat)
  case atStart => exact ⟨0, 0, by omega, rfl, rfl⟩
  case round =>
    obtain ⟨j, n, j1, rfl, hwr⟩ := hrel
    by_cases hj : j < ts.length
    · obtain ⟨t, ht⟩ : ∃ y, ts[j]? = some y := ⟨_, List.getElem?_eq_getElem (by omega)⟩
      obtain ⟨y, hy⟩ : ∃ y, vs[j]? = some y := ⟨_, List.getElem?_eq_getElem (by have := L1.out; omega)⟩
      obtain ⟨z, hz⟩ : ∃ y, us[j]? = some y := ⟨_, List.getElem?_eq_getElem (by have := L2.out; omega)⟩
      obtain ⟨bb, oo, cap, hv, c1, c2, c3, c4⟩ := H1.out.resolve_left (by rintro ⟨_, _, _, h⟩; have := L1.out; rw [h] at this; simp at this; omega)
      rw [L1.out] at hv
      cases hv
      obtain ⟨b2, o2, cap2, hv, _, _, d3, d4⟩ := H2.out.resolve_left (by rintro ⟨_, _, _, h⟩; have := L2.out; rw [h] at this; simp at this; omega)
      rw [L2.out] at hv
      cases hv
      have x0 : wr.cell? ⟨bb, oo + j * 1 + 0, none⟩ = some y := by rw [hwr]; exact c4 j y hy 0 y rfl
      have x1 : wr.cell? ⟨b2, o2 + j * 1 + 0, none⟩ = some z := by rw [hwr]; exact d4 j z hz 0 z rfl
      rw [Nat.mul_one, Nat.add_zero] at x0 x1
      have hjj : (j : Int) < (ts.length : Int) := by omega
      have EQ : Hid (Calls Tryd.prog 34 #[y, z] wr fun e w' => e = .returned (.bool true) ∧ ∃ n, w' = wr.drewN n) := by
        have := equal_any y z t t wr (by rw [hwr]; exact E1.out j y t hy ht) (by rw [hwr]; exact E2.out j z t hz ht)
        show Calls _ _ _ _ _
        simpa using this
      have HWr : Hid (wr = w.drewN n) := hwr
      clear hwr
      clear c4 d4 hy hz ht
      go_wp2_with fail
      refine Calls.mono EQ.out ?_
      rintro e w1 ⟨rfl, n1, rfl⟩
      go_wp2_with fail
      go_roundw
      case rel => exact ⟨j + 1, _, by omega, by go_num, by rw [HWr.out]; exact World.drewN_drewN _ _ _⟩
      case measure => simp [intOf]; omega
    · go_wp2
      go_ret
      exact ⟨rfl, _, rfl⟩
set_option maxHeartbeats 4000000 in
theorem sameImg_any (aT aF aB aD aL bT bF bB bD bL : Value) (m : Img) (w : World) (hA : ImgAt w aT aF aB aD aL m) (hB : ImgAt w bT bF bB bD bL m) :
    Calls Tryd.prog 22 #[.agg #[aT, aF, aB, aD, aL, .int .i64 m.entry], .agg #[bT, bF, bB, bD, bL, .int .i64 m.entry]] w fun e w' => e = .returned (.bool true) ∧ Below w.heap.size w w' := by
  obtain ⟨W, hW⟩ : ∃ W, (w.alloc (.cells #[aT, aF, aB, aD, aL, .int .i64 m.entry] 29)).alloc (.cells #[bT, bF, bB, bD, bL, .int .i64 m.entry] 29) = W := ⟨_, rfl⟩
  have B0 : Below w.heap.size w W := by rw [← hW]; exact ((Below.refl _ _).alloc (Nat.le_refl _) _).alloc (by simp) _
  have XA : ∀ o, o < 6 → W.cell? ⟨w.heap.size, o, none⟩ = #[aT, aF, aB, aD, aL, .int .i64 m.entry][o]? := fun o ho => by
    rw [← hW]; refine (World.cell?_alloc_past _ _ _ (by simp)).trans (World.cell?_alloc_new _ _ _ _)
  have XB : ∀ o, o < 6 → W.cell? ⟨w.heap.size + 1, o, none⟩ = #[bT, bF, bB, bD, bL, .int .i64 m.entry][o]? := fun o ho => by
    rw [← hW]
    simp
  have hA' := hA.stays (Nat.le_refl _) B0
  have hB' := hB.stays (Nat.le_refl _) B0
  obtain ⟨vs, g1, g2, g3⟩ := hA'.tables
  obtain ⟨us, q1, q2, q3⟩ := hB'.tables
  have c1 := fun n => conv_list (hA'.text.drewN n)
  have c2 := fun n => conv_list (hB'.text.drewN n)
  have F : Hid (∀ n, Calls Tryd.prog 48 #[aF, bF] (W.drewN n) fun e w' => e = .returned (.bool true) ∧ ∃ k, w' = (W.drewN n).drewN k) := fun n => equalF_same aF bF m.funcs _ (hA'.funcs.drewN n) (hB'.funcs.drewN n)
  have L : Hid (∀ n, Calls Tryd.prog 49 #[aL, bL] (W.drewN n) fun e w' => e = .returned (.bool true) ∧ ∃ k, w' = (W.drewN n).drewN k) := fun n => equalL_same aL bL m.lines _ (hA'.lines.drewN n) (hB'.lines.drewN n)
  have D : Hid (∀ n, Calls Tryd.prog 34 #[aD, bD] (W.drewN n) fun e w' => e = .returned (.bool true) ∧ ∃ k, w' = (W.drewN n).drewN k) := fun n => by
    have := equal_any aD bD m.data m.data _ (hA'.data.drewN n) (hB'.data.drewN n)
    simpa using this
  have T : Hid (∀ n, Calls Tryd.prog 50 #[aB, bB, .func (.func 34) #[] #[]] (W.drewN n) fun e w' => e = .returned (.bool true) ∧ ∃ k, w' = (W.drewN n).drewN k) := fun n => equalLists_same aB bB vs us m.tables _ (g1.drewN n) (q1.drewN n) g2 q2 (fun j u t a b => (g3 j u t a b).drewN n) (fun j u t a b => (q3 j u t a b).drewN n)
  have a0 := XA 0 (by omega); have a1 := XA 1 (by omega); have a2 := XA 2 (by omega); have a3 := XA 3 (by omega); have a4 := XA 4 (by omega); have a5 := XA 5 (by omega)
  have b0 := XB 0 (by omega); have b1 := XB 1 (by omega); have b2 := XB 2 (by omega); have b3 := XB 3 (by omega); have b4 := XB 4 (by omega); have b5 := XB 5 (by omega)
  simp at a0 a1 a2 a3 a4 a5 b0 b1 b2 b3 b4 b5
  have k1 := c1 0
  have k2 := c2 0
  rw [World.drewN_zero] at k1 k2
  have HW : Hid _ := hW
  have HB0 : Hid (Below w.heap.size w W) := B0
  have hz : w.heap.size ≤ W.heap.size := B0.size
  clear XA XB hA hB hA' hB' g1 g2 g3 q1 q2 q3 B0 hW c1 c2
  go_enter Tryd.func22, Tryd.ntmps22
  go_upto_region 1 with fail
  rw [HW.out]
  go_wp2_with (first
    | (go_at_call 48; refine (F.out 0).mono ?_; rintro e w1 ⟨rfl, n1, hw1⟩; obtain rfl := hw1.symm)
    | (go_at_call 49; refine (L.out _).mono ?_; rintro e w2 ⟨rfl, n2, hw2⟩; obtain rfl := hw2.symm)
    | (go_at_call 34; refine (D.out _).mono ?_; rintro e w3 ⟨rfl, n3, hw3⟩; obtain rfl := hw3.symm)
    | (go_at_call 50; refine (T.out _).mono ?_; rintro e w4 ⟨rfl, n4, hw4⟩; obtain rfl := hw4.symm))
  go_ret
  exact ⟨rfl, HB0.out.trans ((below_drewN (Below.refl _ _) _).mono hz)⟩
end Go.Proofs.YtechpdfcgimkkaaDoor
