/-
  place.CheckEdges and boltholeref.EdgesFault: both answer 'edChk' of the edges.
-/
import Derived.Test.YtifenanbcopodaaPureEd
import Derived.Outline
import Derived.BigQuiet
import Derived.Deep.QuietTactic
import Derived.Deep.RegionHeld3
namespace Go.Proofs.Ytifenanbcopodaa
open Go.RowKit Go.Joins
theorem drawn_below {m : Nat} {w w' : World} (h : Below m w w') (n : Nat) : Below m w (w'.drewN n) := h.trans (by induction n with | zero => exact Below.refl _ _ | succ n ih => exact ih.drew)
theorem pin_any (n a b : Int) (w : World) : Calls Try.prog 8 #[.int .i64 n, .int .i64 a, .int .i64 b] w fun e w' => e = .returned (.bool (decide (a ≤ n) && decide (n ≤ b))) ∧ w' = w := by
  by_cases h0 : a ≤ n
  · go_enter Try.func8, Try.ntmps8
    go_wp2
    go_ret
    exact ⟨by simp [h0], rfl⟩
  · go_enter Try.func8, Try.ntmps8
    go_wp2
    go_ret
    exact ⟨by rw [decide_eq_false (show ¬ a ≤ n by omega)]; rfl, rfl⟩
theorem isPlace_any (n m : Int) (b : Nat) (w : World) (hc : w.cell? ⟨b, 0, none⟩ = some (.int .i64 m)) : Calls Try.prog 6 #[.int .i64 n, .pointer (some ⟨b, 0, none⟩)] w fun e w' => e = .returned (.bool (decide (0 ≤ n) && decide (n < m))) ∧ w' = w := by
  by_cases h0 : 0 ≤ n
  · go_enter Try.func6, Try.ntmps6
    go_wp2
    go_ret
    exact ⟨by rw [decide_eq_true h0]; rfl, rfl⟩
  · go_enter Try.func6, Try.ntmps6
    go_wp2
    go_ret
    exact ⟨by rw [decide_eq_false (show ¬ 0 ≤ n by omega)]; rfl, rfl⟩
set_option maxHeartbeats 1000000 in
theorem inOrder_any (a b : Ed) (w : World) : Calls Try.prog 7 #[.agg #[.int .i64 a.f, .int .i64 a.t, .int .i64 a.c], .agg #[.int .i64 b.f, .int .i64 b.t, .int .i64 b.c]] w fun e w' => e = .returned (.bool (edAft a b)) ∧ Below w.heap.size w w' := by
  by_cases h0 : a.f < b.f
  · have hr : Hid (edAft a b = true) := by show _ = _; simp [edAft, h0]
    go_enter Try.func7, Try.ntmps7
    go_wp2
    go_ret
    exact ⟨by rw [hr.out]; rfl, by go_grown⟩
  by_cases h1 : a.f = b.f
  · by_cases h2 : a.t < b.t
    · have hr : Hid (edAft a b = true) := by show _ = _; simp [edAft, h1, h2]
      go_enter Try.func7, Try.ntmps7
      go_wp2
      go_ret
      exact ⟨by rw [hr.out]; rfl, by go_grown⟩
    · have hr : Hid (edAft a b = false) := by show _ = _; simp [edAft, h1]; omega
      go_enter Try.func7, Try.ntmps7
      go_wp2
      go_ret
      exact ⟨by rw [hr.out]; rfl, by go_grown⟩
  · have hr : Hid (edAft a b = false) := by show _ = _; simp [edAft, h1]; omega
    have h3 : (a.f == b.f) = false := by simpa using h1
    go_enter Try.func7, Try.ntmps7
    go_wp2
    go_ret
    exact ⟨by rw [hr.out]; rfl, by go_grown⟩
set_option maxRecDepth 10000 in
set_option maxHeartbeats 2000000 in
theorem fault_edges (v : Value) (n : Int) (xs : List Ed) (w : World) (h : ListAt w Ed.cells 3 v xs) : Calls Try.prog 5 #[v, .int .i64 n] w fun e w' => e = .returned (.int .i64 (edChk n none xs)) ∧ Below w.heap.size w w' := by
  obtain ⟨aa, cp, rfl, hlen⟩ := h.form
  have HL : Hid (ListAt w Ed.cells 3 (.slice aa xs.length cp) xs) := h
  unfold maxLen at hlen
  clear h
  go_enter Try.func5, Try.ntmps5
  go_wp2_with fail
  go_loopw [5] (fun u wr => ∃ j : Nat, j ≤ xs.length ∧ u = .int .i64 (j : Int) ∧ Hid (edChk n (edPrev xs j) (xs.drop j) = edChk n none xs) ∧ Below w.heap.size w wr) (fun u _ => (xs.length - intOf u).toNat)
  case atStart => exact ⟨0, by omega, rfl, rfl, Below.refl _ _⟩
  case round =>
    obtain ⟨j, j1, rfl, j2, bel⟩ := hrel
    have z := bel.size
    by_cases hj : j < xs.length
    · obtain ⟨y, hy⟩ : ∃ y, xs[j]? = some y := ⟨_, List.getElem?_eq_getElem (by omega)⟩
      obtain ⟨bb, oo, cap, hv, c1, c2, c3, c4⟩ := HL.out.resolve_left (by rintro ⟨_, _, _, h⟩; subst h; simp at hj)
      cases hv
      have d0 : wr.cell? ⟨bb, oo + j * 3, none⟩ = some (.int .i64 y.f) := (bel.cell (p := ⟨bb, _, none⟩) c3).trans (c4 j y hy 0 _ rfl)
      have d1 : wr.cell? ⟨bb, oo + j * 3 + 1, none⟩ = some (.int .i64 y.t) := (bel.cell (p := ⟨bb, _, none⟩) c3).trans (c4 j y hy 1 _ rfl)
      have d2 : wr.cell? ⟨bb, oo + j * 3 + 2, none⟩ = some (.int .i64 y.c) := (bel.cell (p := ⟨bb, _, none⟩) c3).trans (c4 j y hy 2 _ rfl)
      have hbb : bb < wr.heap.size := by omega
      have HY : Hid _ := hy
      have B : Hid _ := bel
      have C4 : Hid _ := c4
      clear c4 hy
      have hbd : edBad n y = true → Hid (edChk n none xs = 2) := fun hb => ed_bad n xs j y HY.out j2.out hb
      cases hk : edBad n y
      · clear hbd
        obtain ⟨g1, g2, g3, g4, g5, g6⟩ := ed_good hk
        have HK : Hid _ := hk
        clear hk
        have hin : (decide ((1 : Int) ≤ y.c) && decide (y.c ≤ 1073741824)) = true := by rw [decide_eq_true g5, decide_eq_true g6]; rfl
        cases j with
        | zero =>
          simp only [Nat.zero_mul, Nat.add_zero] at d0 d1 d2
          clear bel
          go_wp2_with (go_at_call 8; refine (pin_any _ _ _ _).mono ?_; rw [hin]; rintro e w1 ⟨rfl, hw1⟩; obtain rfl := hw1.symm)
          go_roundw
          case rel => exact ⟨0 + 1, by omega, by go_num, ed_first n xs y HY.out j2.out HK.out, B.out⟩
          case measure => simp [intOf]; omega
        | succ i =>
          obtain ⟨q, hq⟩ : ∃ q, xs[i]? = some q := ⟨_, List.getElem?_eq_getElem (by omega)⟩
          have f0 : wr.cell? ⟨bb, oo + i * 3, none⟩ = some (.int .i64 q.f) := (bel.cell (p := ⟨bb, _, none⟩) c3).trans (C4.out i q hq 0 _ rfl)
          have f1 : wr.cell? ⟨bb, oo + i * 3 + 1, none⟩ = some (.int .i64 q.t) := (bel.cell (p := ⟨bb, _, none⟩) c3).trans (C4.out i q hq 1 _ rfl)
          have f2 : wr.cell? ⟨bb, oo + i * 3 + 2, none⟩ = some (.int .i64 q.c) := (bel.cell (p := ⟨bb, _, none⟩) c3).trans (C4.out i q hq 2 _ rfl)
          have HQ : Hid _ := hq
          clear hq bel
          have hnx : edAft q y = true → Hid (edChk n (edPrev xs (i + 1 + 1)) (xs.drop (i + 1 + 1)) = edChk n none xs) := fun ha => ed_next n xs i q y HQ.out HY.out j2.out HK.out ha
          have hor : edAft q y = false → Hid (edChk n none xs = 8) := fun ha => ed_order n xs i q y HQ.out HY.out j2.out HK.out ha
          by_cases o1 : q.f < y.f
          · have hr := hnx (by simp [edAft, o1])
            have o2 : (q.f == y.f) = false := by simp; omega
            have o5 : decide (y.f < q.f) = false := by simp; omega
            clear hnx hor
            go_wp2_with (go_at_call 8; refine (pin_any _ _ _ _).mono ?_; rw [hin]; rintro e w1 ⟨rfl, hw1⟩; obtain rfl := hw1.symm)
            go_quiet (fail)
            go_wp2
            go_roundw
            case rel => exact ⟨i + 1 + 1, by omega, by go_num, hr, drawn_below (B.out.trans ((show Below wr.heap.size wr _ from by go_grown).mono z)) _⟩
            case measure => simp [intOf]; omega
          by_cases o2 : y.f < q.f
          · have hr := hor (by simp [edAft]; omega)
            clear hnx hor
            go_wp2_with (go_at_call 8; refine (pin_any _ _ _ _).mono ?_; rw [hin]; rintro e w1 ⟨rfl, hw1⟩; obtain rfl := hw1.symm)
            go_quiet (fail)
            go_wp2
            go_ret
            exact ⟨by rw [hr.out]; rfl, drawn_below (B.out.trans ((show Below wr.heap.size wr _ from by go_grown).mono z)) _⟩
          have o3 : (q.f == y.f) = true := by simp; omega
          have o5 : decide (y.f < q.f) = false := by simp; omega
          by_cases o4 : q.t < y.t
          · have hr := hnx (by simp [edAft, o4]; omega)
            clear hnx hor
            go_wp2_with (go_at_call 8; refine (pin_any _ _ _ _).mono ?_; rw [hin]; rintro e w1 ⟨rfl, hw1⟩; obtain rfl := hw1.symm)
            go_quiet (fail)
            go_wp2
            go_roundw
            case rel => exact ⟨i + 1 + 1, by omega, by go_num, hr, drawn_below (B.out.trans ((show Below wr.heap.size wr _ from by go_grown).mono z)) _⟩
            case measure => simp [intOf]; omega
          · have hr := hor (by simp [edAft, o4]; omega)
            clear hnx hor
            go_wp2_with (go_at_call 8; refine (pin_any _ _ _ _).mono ?_; rw [hin]; rintro e w1 ⟨rfl, hw1⟩; obtain rfl := hw1.symm)
            go_quiet (fail)
            go_wp2
            go_ret
            exact ⟨by rw [hr.out]; rfl, drawn_below (B.out.trans ((show Below wr.heap.size wr _ from by go_grown).mono z)) _⟩
      · have hr := hbd hk
        clear hbd bel
        by_cases b1 : y.f < 0
        · clear hk; go_wp2; go_ret; exact ⟨by rw [hr.out]; rfl, B.out⟩
        by_cases b2 : y.t < 0
        · clear hk; go_wp2; go_ret; exact ⟨by rw [hr.out]; rfl, B.out⟩
        by_cases b3 : n ≤ y.f
        · clear hk; go_wp2; go_ret; exact ⟨by rw [hr.out]; rfl, B.out⟩
        by_cases b4 : n ≤ y.t
        · clear hk; go_wp2; go_ret; exact ⟨by rw [hr.out]; rfl, B.out⟩
        have hin : (decide ((1 : Int) ≤ y.c) && decide (y.c ≤ 1073741824)) = false := by
          simp [edBad] at hk
          simp
          omega
        clear hk
        go_wp2_with (go_at_call 8; refine (pin_any _ _ _ _).mono ?_; rw [hin]; rintro e w1 ⟨rfl, hw1⟩; obtain rfl := hw1.symm)
        go_ret
        exact ⟨by rw [hr.out]; rfl, B.out⟩
    · have hr : Hid (edChk n none xs = 0) := by show _ = _; rw [← j2.out, ed_end n xs j (by omega)]
      go_wp2
      go_ret
      exact ⟨by rw [hr.out]; rfl, bel⟩
end Go.Proofs.Ytifenanbcopodaa
