/-
  place.CheckEdges answers 'edChk' of the edges.
-/
import Derived.Test.YtifenanbcopodaaWalkPc
namespace Go.Proofs.Ytifenanbcopodaa
open Go.RowKit Go.Joins
theorem pwrap {n : Int} (h0 : -9223372036854775808 ≤ n) (h1 : n < 9223372036854775808) : IntKind.i64.wrap n = n := by rw [IntKind.wrap_i64]; omega
theorem pbelc {B : Nat} {W w1 : World} (hb : Below B W w1) : ∀ b o, b < B → w1.cell? ⟨b, o, none⟩ = W.cell? ⟨b, o, none⟩ := fun b o h => hb.cell (p := ⟨b, o, none⟩) h
set_option maxRecDepth 10000 in
set_option maxHeartbeats 2000000 in
theorem check_edges (v : Value) (n : Int) (xs : List Ed) (w : World) (h : ListAt w Ed.cells 3 v xs) : Calls Try.prog 4 #[v, .int .i64 n] w fun e w' => e = .returned (.int .i64 (edChk n none xs)) ∧ Below w.heap.size w w' := by
  obtain ⟨aa, cp, rfl, hlen⟩ := h.form
  have HL : Hid (ListAt w Ed.cells 3 (.slice aa xs.length cp) xs) := h
  unfold maxLen at hlen
  clear h
  go_enter Try.func4, Try.ntmps4
  go_wp2_with fail
  go_loopw [11] (fun u wr => ∃ j : Nat, j ≤ xs.length ∧ u = .int .i64 (j : Int) ∧ Hid (edChk n (edPrev xs j) (xs.drop j) = edChk n none xs) ∧ wr.cell? ⟨w.heap.size, 0, none⟩ = some (.int .i64 n) ∧ w.heap.size < wr.heap.size ∧ Below w.heap.size w wr) (fun u _ => (xs.length - intOf u).toNat)
  case atStart => exact ⟨0, by omega, rfl, rfl, by simp [go_sem], by simp, by go_grown⟩
  case round =>
    obtain ⟨j, j1, rfl, j2, cn, zn, bel⟩ := hrel
    by_cases hj : j < xs.length
    · obtain ⟨y, hy⟩ : ∃ y, xs[j]? = some y := ⟨_, List.getElem?_eq_getElem (by omega)⟩
      obtain ⟨bb, oo, cap, hv, c1, c2, c3, c4⟩ := HL.out.resolve_left (by rintro ⟨_, _, _, h⟩; subst h; simp at hj)
      cases hv
      have d0 : wr.cell? ⟨bb, oo + j * 3, none⟩ = some (.int .i64 y.f) := (bel.cell (p := ⟨bb, _, none⟩) c3).trans (c4 j y hy 0 _ rfl)
      have d1 : wr.cell? ⟨bb, oo + j * 3 + 1, none⟩ = some (.int .i64 y.t) := (bel.cell (p := ⟨bb, _, none⟩) c3).trans (c4 j y hy 1 _ rfl)
      have d2 : wr.cell? ⟨bb, oo + j * 3 + 2, none⟩ = some (.int .i64 y.c) := (bel.cell (p := ⟨bb, _, none⟩) c3).trans (c4 j y hy 2 _ rfl)
      have hbb : bb < wr.heap.size := by omega
      have HY : Hid _ := hy
      have B : Hid _ := bel
      have C4 : Hid _ := c4
      clear c4 hy
      have hbd : edBad n y = true → Hid (edChk n none xs = 2) := fun hb => ed_bad n xs j y HY.out j2.out hb
      cases hk : edBad n y
      · clear hbd
        obtain ⟨g1, g2, g3, g4, g5, g6⟩ := ed_good hk
        have HK : Hid _ := hk
        clear hk
        have p1 : (decide ((0 : Int) ≤ y.f) && decide (y.f < n)) = true := by rw [decide_eq_true g1, decide_eq_true g3]; rfl
        have p2 : (decide ((0 : Int) ≤ y.t) && decide (y.t < n)) = true := by rw [decide_eq_true g2, decide_eq_true g4]; rfl
        cases j with
        | zero =>
          simp only [Nat.zero_mul, Nat.add_zero] at d0 d1 d2
          clear bel
          go_wp2_with (go_at_call 6; refine (isPlace_any _ n w.heap.size _ (by simp [go_sem, *])).mono ?_; (first | rw [p1] | rw [p2]); rintro e w1 ⟨rfl, hw1⟩; obtain rfl := hw1.symm)
          go_quiet (fail)
          go_wp2
          go_roundw
          case rel => exact ⟨0 + 1, by omega, by go_num, ed_first n xs y HY.out j2.out HK.out, by simp [go_sem, *], by simp; omega, drawn_below (B.out.trans ((show Below wr.heap.size wr _ from by go_grown).mono (by omega))) _⟩
          case measure => simp [intOf]; omega
        | succ i =>
          obtain ⟨q, hq⟩ : ∃ q, xs[i]? = some q := ⟨_, List.getElem?_eq_getElem (by omega)⟩
          have f0 : wr.cell? ⟨bb, oo + i * 3, none⟩ = some (.int .i64 q.f) := (bel.cell (p := ⟨bb, _, none⟩) c3).trans (C4.out i q hq 0 _ rfl)
          have f1 : wr.cell? ⟨bb, oo + i * 3 + 1, none⟩ = some (.int .i64 q.t) := (bel.cell (p := ⟨bb, _, none⟩) c3).trans (C4.out i q hq 1 _ rfl)
          have f2 : wr.cell? ⟨bb, oo + i * 3 + 2, none⟩ = some (.int .i64 q.c) := (bel.cell (p := ⟨bb, _, none⟩) c3).trans (C4.out i q hq 2 _ rfl)
          have HQ : Hid _ := hq
          clear hq bel
          have hnx : edAft q y = true → Hid (edChk n (edPrev xs (i + 1 + 1)) (xs.drop (i + 1 + 1)) = edChk n none xs) := fun ha => ed_next n xs i q y HQ.out HY.out j2.out HK.out ha
          have hor : edAft q y = false → Hid (edChk n none xs = 8) := fun ha => ed_order n xs i q y HQ.out HY.out j2.out HK.out ha
          have k0 : (0 : Int) ≤ (i : Int) := by omega
          have k1 : (i : Int) < (xs.length : Int) := by omega
          have k2 : bb < wr.heap.size + 1 := by omega
          have k3 : w.heap.size < wr.heap.size + 1 := by omega
          have k4 : IntKind.i64.wrap ((i : Int) + 1 - 1) = (i : Int) := by rw [pwrap (by omega) (by omega)]; omega
          have k5 : IntKind.i64.wrap (i : Int) = (i : Int) := pwrap (by omega) (by omega)
          cases ho : edAft q y
          · have hr := hor ho
            clear hnx hor
            go_wp2_with (go_at_call 6; refine (isPlace_any _ n w.heap.size _ (by simp [go_sem, *])).mono ?_; (first | rw [p1] | rw [p2]); rintro e w1 ⟨rfl, hw1⟩; obtain rfl := hw1.symm)
            go_region_held3 (fun w' => w'.cell? ⟨bb, oo + i * 3, none⟩ = some (.int .i64 q.f) ∧ w'.cell? ⟨bb, oo + i * 3 + 1, none⟩ = some (.int .i64 q.t) ∧ w'.cell? ⟨bb, oo + i * 3 + 2, none⟩ = some (.int .i64 q.c) ∧ w'.cell? ⟨wr.heap.size, 0, none⟩ = some (.int .i64 y.f) ∧ w'.cell? ⟨wr.heap.size, 1, none⟩ = some (.int .i64 y.t) ∧ w'.cell? ⟨wr.heap.size, 2, none⟩ = some (.int .i64 y.c)) (simp [go_sem, *]) (first | (go_at_call 7; refine (inOrder_any q y _).mono ?_; rw [ho]; rintro e w1 ⟨rfl, hw1⟩; have hc1 := pbelc hw1))
            go_wp2
            go_ret
            exact ⟨by rw [hr.out]; rfl, B.out.trans ((((Below.refl _ _).alloc (Nat.le_refl _) _).drew.trans (hw1.mono (by simp [go_sem]))).mono (by omega))⟩
          · have hr := hnx ho
            clear hnx hor
            go_wp2_with (go_at_call 6; refine (isPlace_any _ n w.heap.size _ (by simp [go_sem, *])).mono ?_; (first | rw [p1] | rw [p2]); rintro e w1 ⟨rfl, hw1⟩; obtain rfl := hw1.symm)
            go_region_held3 (fun w' => w'.cell? ⟨bb, oo + i * 3, none⟩ = some (.int .i64 q.f) ∧ w'.cell? ⟨bb, oo + i * 3 + 1, none⟩ = some (.int .i64 q.t) ∧ w'.cell? ⟨bb, oo + i * 3 + 2, none⟩ = some (.int .i64 q.c) ∧ w'.cell? ⟨wr.heap.size, 0, none⟩ = some (.int .i64 y.f) ∧ w'.cell? ⟨wr.heap.size, 1, none⟩ = some (.int .i64 y.t) ∧ w'.cell? ⟨wr.heap.size, 2, none⟩ = some (.int .i64 y.c)) (simp [go_sem, *]) (first | (go_at_call 7; refine (inOrder_any q y _).mono ?_; rw [ho]; rintro e w1 ⟨rfl, hw1⟩; have hc1 := pbelc hw1))
            go_wp2
            go_roundw
            case rel => exact ⟨i + 1 + 1, by omega, by go_num, hr, by simp [go_sem, *], by have := hw1.size; simp [go_sem] at this; omega, B.out.trans ((((Below.refl _ _).alloc (Nat.le_refl _) _).drew.trans (hw1.mono (by simp [go_sem]))).mono (by omega))⟩
            case measure => simp [intOf]; omega
      · have hr := hbd hk
        clear hbd bel
        cases p1 : (decide ((0 : Int) ≤ y.f) && decide (y.f < n))
        · clear hk
          go_wp2_with (go_at_call 6; refine (isPlace_any _ n w.heap.size _ (by simp [go_sem, *])).mono ?_; rw [p1]; rintro e w1 ⟨rfl, hw1⟩; obtain rfl := hw1.symm)
          go_ret
          exact ⟨by rw [hr.out]; rfl, B.out.trans ((show Below wr.heap.size wr _ from by go_grown).mono (by omega))⟩
        cases p2 : (decide ((0 : Int) ≤ y.t) && decide (y.t < n))
        · clear hk
          go_wp2_with (go_at_call 6; refine (isPlace_any _ n w.heap.size _ (by simp [go_sem, *])).mono ?_; (first | rw [p1] | rw [p2]); rintro e w1 ⟨rfl, hw1⟩; obtain rfl := hw1.symm)
          go_ret
          exact ⟨by rw [hr.out]; rfl, B.out.trans ((show Below wr.heap.size wr _ from by go_grown).mono (by omega))⟩
        by_cases b5 : y.c < 1
        · clear hk
          go_wp2_with (go_at_call 6; refine (isPlace_any _ n w.heap.size _ (by simp [go_sem, *])).mono ?_; (first | rw [p1] | rw [p2]); rintro e w1 ⟨rfl, hw1⟩; obtain rfl := hw1.symm)
          go_ret
          exact ⟨by rw [hr.out]; rfl, B.out.trans ((show Below wr.heap.size wr _ from by go_grown).mono (by omega))⟩
        have b6 : (1073741824 : Int) < y.c := by
          simp [edBad] at hk
          simp at p1 p2
          omega
        clear hk
        go_wp2_with (go_at_call 6; refine (isPlace_any _ n w.heap.size _ (by simp [go_sem, *])).mono ?_; (first | rw [p1] | rw [p2]); rintro e w1 ⟨rfl, hw1⟩; obtain rfl := hw1.symm)
        go_ret
        exact ⟨by rw [hr.out]; rfl, B.out.trans ((show Below wr.heap.size wr _ from by go_grown).mono (by omega))⟩
    · have hr : Hid (edChk n none xs = 0) := by show _ = _; rw [← j2.out, ed_end n xs j (by omega)]
      go_wp2
      go_ret
      exact ⟨by rw [hr.out]; rfl, bel⟩
end Go.Proofs.Ytifenanbcopodaa
