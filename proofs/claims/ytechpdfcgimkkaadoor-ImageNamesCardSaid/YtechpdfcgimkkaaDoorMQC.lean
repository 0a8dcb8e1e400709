/-
  image.checkFuncs, checkTables and checkLines.
-/
import Derived.Test.YtechpdfcgimkkaaDoorMPC
namespace Go.Proofs.YtechpdfcgimkkaaDoor
open Go.RowKit Go.Joins
theorem belc {B : Nat} {W w1 : World} (hb : Below B W w1) : ∀ b o, b < B → w1.cell? ⟨b, o, none⟩ = W.cell? ⟨b, o, none⟩ := fun b o h => hb.cell (p := ⟨b, o, none⟩) h
theorem ListAt.take {α : Type} {w : World} {cells : α → List Value} {sz : Nat} {bb oo cap : Nat} {xs : List α} (h : ListAt w cells sz (.slice (some ⟨bb, oo, none⟩) xs.length cap) xs) (j : Nat) (hj : j ≤ xs.length) : ListAt w cells sz (.slice (some ⟨bb, oo, none⟩) j cap) (xs.take j) := by
  rcases Nat.eq_zero_or_pos j with rfl | h0
  · exact Or.inl ⟨_, _, rfl, by simp⟩
  rcases h with ⟨a, c, hv, rfl⟩ | ⟨b2, o2, c2, hv, h1, h2, h3, h4⟩
  · simp at hj; omega
  · cases hv
    have hl : (xs.take j).length = j := by rw [List.length_take]; omega
    refine Or.inr ⟨bb, oo, cap, by rw [hl], by omega, h2, h3, fun i x hi => h4 i x ?_⟩
    rw [List.getElem?_take] at hi
    split at hi
    · exact hi
    · cases hi
theorem drop_cons {α : Type} {xs : List α} {j : Nat} {y : α} (h : xs[j]? = some y) : xs.drop j = y :: xs.drop (j + 1) := by
  obtain ⟨hj, rfl⟩ := List.getElem?_eq_some_iff.1 h
  exact List.drop_eq_getElem_cons hj
theorem take_snoc {α : Type} {xs : List α} {j : Nat} {y : α} (h : xs[j]? = some y) : xs.take (j + 1) = xs.take j ++ [y] := by
  rw [List.take_add_one, h]; rfl
theorem fchk_at (size en : Int) (fs : List Fn) (j : Nat) (y : Fn) (h : fs[j]? = some y) : fchk size (fs.take j) (fs.drop j) en =
    if nameMay y.name = false then 4 else if (fs.take j).any (fun g => decide (g.name = y.name)) = true then 7 else if y.start ≠ en ∨ y.size < 1 ∨ size - en < y.size then 8 else fchk size (fs.take (j + 1)) (fs.drop (j + 1)) (en + y.size) := by
  rw [drop_cons h, take_snoc h, fchk]
  have : ((fs.take j).any (fun g => decide (g.name = y.name)) = true) = (∃ g ∈ fs.take j, g.name = y.name) := by simp
  simp only [this]
set_option maxHeartbeats 2000000 in
theorem checkFuncs_any (v : Value) (fs : List Fn) (size : Int) (w : World) (hz : 0 ≤ size ∧ size ≤ 9223372036854775807) (hok : ∀ f ∈ fs, f.ok) (h : ListAt w Fn.cells 3 v fs) :
    Calls Tryd.prog 43 #[v, .int .i64 size] w fun e w' => e = .returned (.int .i64 (fchk size [] fs 0)) ∧ Below w.heap.size w w' := by
  obtain ⟨aa, cp, rfl, hlen⟩ := h.form
  have HL : Hid (ListAt w Fn.cells 3 (.slice aa fs.length cp) fs) := h
  have HO : Hid (∀ f ∈ fs, f.ok) := hok
  unfold maxLen at hlen
  obtain ⟨z0, z1⟩ := hz
  clear h hok
  go_enter Tryd.func43, Tryd.ntmps43
  go_wp2_with fail
  go_loopw [5, 11] (fun p u wr => ∃ (j : Nat) (en : Int), j ≤ fs.length ∧ p = .int .i64 en ∧ 0 ≤ en ∧ en ≤ size ∧ u = .int .i64 (j : Int) ∧ Hid (fchk size (fs.take j) (fs.drop j) en = fchk size [] fs 0) ∧ Below w.heap.size w wr) (fun _ u _ => (fs.length - intOf u).toNat)
  case atStart => exact ⟨0, 0, by omega, rfl, by omega, by omega, rfl, rfl, Below.refl _ _⟩
  case round =>
    obtain ⟨j, en, j1, rfl, e0, e1, rfl, j2, bel⟩ := hrel
    have z := bel.size
    by_cases hj : j < fs.length
    · obtain ⟨y, hy⟩ : ∃ y, fs[j]? = some y := ⟨_, List.getElem?_eq_getElem (by omega)⟩
      obtain ⟨bb, oo, cap, hv, c1, c2, c3, c4⟩ := HL.out.resolve_left (by rintro ⟨_, _, _, h⟩; subst h; simp at hj)
      cases hv
      have d0 : wr.cell? ⟨bb, oo + j * 3, none⟩ = some (.string y.name) := (bel.cell (p := ⟨bb, _, none⟩) c3).trans (c4 j y hy 0 _ rfl)
      have d1 : wr.cell? ⟨bb, oo + j * 3 + 1, none⟩ = some (.int .i64 y.start) := (bel.cell (p := ⟨bb, _, none⟩) c3).trans (c4 j y hy 1 _ rfl)
      have d2 : wr.cell? ⟨bb, oo + j * 3 + 2, none⟩ = some (.int .i64 y.size) := (bel.cell (p := ⟨bb, _, none⟩) c3).trans (c4 j y hy 2 _ rfl)
      obtain ⟨k1, ⟨k2, k3⟩, k4, k5⟩ := HO.out y (List.mem_of_getElem? hy)
      have HF : Hid _ := j2.out.symm.trans (fchk_at size en fs j y hy)
      have B : Hid (Below w.heap.size w wr) := bel
      have HT : Hid (ListAt (wr.alloc (.cells #[.string y.name, .int .i64 y.start, .int .i64 y.size] 47)) Fn.cells 3 (.slice (some ⟨bb, oo, none⟩) j cp) (fs.take j)) :=
        (HL.out.take j j1).stays (Nat.le_refl _) (bel.alloc z _)
      have hb2 : bb < wr.heap.size := by omega
      clear c4 hy bel
      cases hn : nameMay y.name
      · have hr : Hid (fchk size [] fs 0 = 4) := by show _ = _; rw [HF.out, if_pos hn]
        clear HF HT
        go_wp2_with (go_at_call 86; refine (isName_any _ _ k1).mono ?_; rw [hn]; rintro e w1 ⟨rfl, hw1⟩; obtain rfl := hw1.symm)
        go_ret
        exact ⟨by rw [hr.out]; rfl, B.out.alloc z _⟩
      cases hd : (fs.take j).any (fun g => decide (g.name = y.name))
      rotate_left
      · have hr : Hid (fchk size [] fs 0 = 7) := by show _ = _; rw [HF.out, if_neg (by simp [hn]), if_pos hd]
        clear HF
        go_wp2_with (first
          | (go_at_call 86; refine (isName_any _ _ k1).mono ?_; rw [hn]; rintro e w1 ⟨rfl, hw1⟩; obtain rfl := hw1.symm)
          | (go_at_call 88; refine (hasSame_any _ _ y.name _ _ (by simp) (by simp) HT.out).mono ?_; rw [hd]; rintro e w2 ⟨rfl, hb2⟩))
        go_ret
        exact ⟨by rw [hr.out]; rfl, (B.out.alloc z _).trans (hb2.mono (by simp; omega))⟩
      have HG : Hid (fchk size [] fs 0 = if y.start ≠ en ∨ y.size < 1 ∨ size - en < y.size then 8 else fchk size (fs.take (j + 1)) (fs.drop (j + 1)) (en + y.size)) := by show _ = _; rw [HF.out, if_neg (by simp [hn]), if_neg (by simp [hd])]
      clear HF
      by_cases q1 : y.start = en
      · by_cases q2 : y.size < 1
        · have hr : Hid (fchk size [] fs 0 = 8) := by show _ = _; rw [HG.out, if_pos (by omega)]
          clear HG
          subst q1
          go_wp2_with (first
            | (go_at_call 86; refine (isName_any _ _ k1).mono ?_; rw [hn]; rintro e w1 ⟨rfl, hw1⟩; obtain rfl := hw1.symm)
            | (go_at_call 88; refine (hasSame_any _ _ y.name _ _ (by simp) (by simp) HT.out).mono ?_; rw [hd]; rintro e w2 ⟨rfl, hb2⟩; have x1 := belc hb2 wr.heap.size 1 (by simp); have x2 := belc hb2 wr.heap.size 2 (by simp); simp at x1 x2; have zz : wr.heap.size < w2.heap.size := (by have := hb2.size; simp at this; omega)))
          go_ret
          exact ⟨by rw [hr.out]; rfl, (B.out.alloc z _).trans (hb2.mono (by simp; omega))⟩
        · by_cases q3 : size - en < y.size
          · have hr : Hid (fchk size [] fs 0 = 8) := by show _ = _; rw [HG.out, if_pos (by omega)]
            clear HG
            subst q1
            go_wp2_with (first
              | (go_at_call 86; refine (isName_any _ _ k1).mono ?_; rw [hn]; rintro e w1 ⟨rfl, hw1⟩; obtain rfl := hw1.symm)
              | (go_at_call 88; refine (hasSame_any _ _ y.name _ _ (by simp) (by simp) HT.out).mono ?_; rw [hd]; rintro e w2 ⟨rfl, hb2⟩; have x1 := belc hb2 wr.heap.size 1 (by simp); have x2 := belc hb2 wr.heap.size 2 (by simp); simp at x1 x2; have zz : wr.heap.size < w2.heap.size := (by have := hb2.size; simp at this; omega)))
            go_ret
            exact ⟨by rw [hr.out]; rfl, (B.out.alloc z _).trans (hb2.mono (by simp; omega))⟩
          · have hr : Hid (fchk size (fs.take (j + 1)) (fs.drop (j + 1)) (en + y.size) = fchk size [] fs 0) := by show _ = _; rw [HG.out, if_neg (by omega)]
            clear HG
            subst q1
            go_wp2_with (first
              | (go_at_call 86; refine (isName_any _ _ k1).mono ?_; rw [hn]; rintro e w1 ⟨rfl, hw1⟩; obtain rfl := hw1.symm)
              | (go_at_call 88; refine (hasSame_any _ _ y.name _ _ (by simp) (by simp) HT.out).mono ?_; rw [hd]; rintro e w2 ⟨rfl, hb2⟩; have x1 := belc hb2 wr.heap.size 1 (by simp); have x2 := belc hb2 wr.heap.size 2 (by simp); simp at x1 x2; have zz : wr.heap.size < w2.heap.size := (by have := hb2.size; simp at this; omega)))
            go_roundw
            case rel => exact ⟨j + 1, y.start + y.size, by omega, by go_num, by omega, by omega, by go_num, hr, (B.out.alloc z _).trans (hb2.mono (by simp; omega))⟩
            case measure => simp [intOf]; omega
      · have hr : Hid (fchk size [] fs 0 = 8) := by show _ = _; rw [HG.out, if_pos (by omega)]
        clear HG
        have q1b : (y.start == en) = false := by simp [q1]
        have q1c : (y.start != en) = true := by simp [q1]
        go_wp2_with (first
          | (go_at_call 86; refine (isName_any _ _ k1).mono ?_; rw [hn]; rintro e w1 ⟨rfl, hw1⟩; obtain rfl := hw1.symm)
          | (go_at_call 88; refine (hasSame_any _ _ y.name _ _ (by simp) (by simp) HT.out).mono ?_; rw [hd]; rintro e w2 ⟨rfl, hb2⟩; have x1 := belc hb2 wr.heap.size 1 (by simp); have x2 := belc hb2 wr.heap.size 2 (by simp); simp at x1 x2; have zz : wr.heap.size < w2.heap.size := (by have := hb2.size; simp at this; omega)))
        go_ret
        exact ⟨by rw [hr.out]; rfl, (B.out.alloc z _).trans (hb2.mono (by simp; omega))⟩
    · have hd : fs.drop j = [] := List.drop_of_length_le (by omega)
      by_cases q : en = size
      · have hr : Hid (fchk size [] fs 0 = 0) := by show _ = _; rw [← j2.out, hd, fchk, if_pos q]
        clear j2 hd
        subst q
        go_wp2
        go_ret
        exact ⟨by rw [hr.out]; rfl, bel⟩
      · have hr : Hid (fchk size [] fs 0 = 8) := by show _ = _; rw [← j2.out, hd, fchk, if_neg q]
        clear j2 hd
        have qb : (en != size) = true := by simp [q]
        go_wp2
        go_ret
        exact ⟨by rw [hr.out]; rfl, bel⟩
end Go.Proofs.YtechpdfcgimkkaaDoor
/-
  image.checkTables, checkLines and Check: what P2.1 says.
-/
namespace Go.Proofs.YtechpdfcgimkkaaDoor
open Go.RowKit Go.Joins
theorem tchk_at (size : Int) (ts : List (List Int)) (j : Nat) (t : List Int) (h : ts[j]? = some t) : tchk size (ts.drop j) = if 20 < t.length then 1 else if t.any (outB size) = true then 2 else tchk size (ts.drop (j + 1)) := by
  rw [drop_cons h, tchk]
  have : (t.any (outB size) = true) = (∃ x ∈ t, x < 0 ∨ size ≤ x) := by simp [outB]
  simp only [this]
theorem lchk_at (size ah : Int) (ls : List Ln) (j : Nat) (l : Ln) (h : ls[j]? = some l) : lchk size (ls.drop j) ah = if l.n < 0 ∨ 10000 < l.n then 2 else if l.a ≤ ah ∨ size ≤ l.a then 8 else lchk size (ls.drop (j + 1)) l.a := by
  rw [drop_cons h, lchk]
set_option maxHeartbeats 2000000 in
theorem checkTables_any (v : Value) (vs : List Value) (ts : List (List Int)) (size : Int) (w : World) (h : ListAt w vcell 1 v vs) (hl : vs.length = ts.length) (he : ∀ (j : Nat) (u : Value) (t : List Int), vs[j]? = some u → ts[j]? = some t → ListAt w icell 1 u t) :
    Calls Tryd.prog 44 #[v, .int .i64 size] w fun e w' => e = .returned (.int .i64 (tchk size ts)) ∧ w' = w.alloc (.cells #[.int .i64 size] 3) := by
  obtain ⟨aa, cp, rfl, hlen⟩ := h.form
  have HL : Hid (ListAt w vcell 1 (.slice aa vs.length cp) vs) := h
  have HE : Hid (∀ (j : Nat) (u : Value) (t : List Int), vs[j]? = some u → ts[j]? = some t → ListAt w icell 1 u t) := he
  have HE2 : Hid (vs.length = ts.length) := hl
  unfold maxLen at hlen
  clear h he hl
  go_enter Tryd.func44, Tryd.ntmps44
  go_wp2_with fail
  go_loopw [11] (fun u wr => ∃ j : Nat, j ≤ vs.length ∧ u = .int .i64 (j : Int) ∧ Hid (tchk size (ts.drop j) = tchk size ts) ∧ wr = w.alloc (.cells #[.int .i64 size] 3)) (fun u _ => (vs.length - intOf u).toNat)
  case atStart => exact ⟨0, by omega, rfl, rfl, rfl⟩
  case round =>
    obtain ⟨j, j1, rfl, j2, rfl⟩ := hrel
    by_cases hj : j < vs.length
    · obtain ⟨y, hy⟩ : ∃ y, vs[j]? = some y := ⟨_, List.getElem?_eq_getElem (by omega)⟩
      obtain ⟨t, ht⟩ : ∃ t, ts[j]? = some t := ⟨_, List.getElem?_eq_getElem (by have := HE2.out; omega)⟩
      obtain ⟨bb, oo, cap, hv, c1, c2, c3, c4⟩ := HL.out.resolve_left (by rintro ⟨_, _, _, h⟩; subst h; simp at hj)
      cases hv
      have d0 := c4 j y hy 0 y rfl
      rw [Nat.mul_one, Nat.add_zero] at d0
      have hT := HE.out j y t hy ht
      obtain ⟨a1, k1, rfl, hlt⟩ := hT.form
      have HT : Hid (ListAt (w.alloc (.cells #[.int .i64 size] 3)) icell 1 (.slice a1 t.length k1) t) := hT.stays (Nat.le_refl _) ((Below.refl _ _).alloc (Nat.le_refl _) _)
      unfold maxLen at hlt
      have HF : Hid _ := j2.out.symm.trans (tchk_at size ts j t ht)
      have hb2 : bb < w.heap.size + 1 := by omega
      clear c4 hy ht hT
      by_cases q1 : (20 : Int) < t.length
      · have hr : Hid (tchk size ts = 1) := by show _ = _; rw [HF.out, if_pos (by omega)]
        clear HF
        go_wp2
        go_ret
        exact ⟨by rw [hr.out]; rfl, by first | rfl | trivial⟩
      cases hd : t.any (outB size)
      · have hr : Hid (tchk size (ts.drop (j + 1)) = tchk size ts) := by show _ = _; rw [HF.out, if_neg (by omega), if_neg (by simp [hd])]
        clear HF
        go_wp2_with (go_at_call 46; refine (hasOut_any _ t size _ _ _ (by simp) HT.out).mono ?_; rw [hd]; rintro e w1 ⟨rfl, hw1⟩; obtain rfl := hw1.symm)
        go_roundw
        case rel => exact ⟨j + 1, by omega, by go_num, hr, trivial⟩
        case measure => simp [intOf]; omega
      · have hr : Hid (tchk size ts = 2) := by show _ = _; rw [HF.out, if_neg (by omega), if_pos hd]
        clear HF
        go_wp2_with (go_at_call 46; refine (hasOut_any _ t size _ _ _ (by simp) HT.out).mono ?_; rw [hd]; rintro e w1 ⟨rfl, hw1⟩; obtain rfl := hw1.symm)
        go_ret
        exact ⟨by rw [hr.out]; rfl, by first | rfl | trivial⟩
    · have hr : Hid (tchk size ts = 0) := by show _ = _; rw [← j2.out, List.drop_of_length_le (by have := HE2.out; omega)]; rfl
      go_wp2
      go_ret
      exact ⟨by rw [hr.out]; rfl, by first | rfl | trivial⟩
set_option maxHeartbeats 2000000 in
theorem checkLines_any (v : Value) (ls : List Ln) (size : Int) (w : World) (h : ListAt w Ln.cells 2 v ls) :
    Calls Tryd.prog 47 #[v, .int .i64 size] w fun e w' => e = .returned (.int .i64 (lchk size ls (-1))) ∧ Below w.heap.size w w' := by
  obtain ⟨aa, cp, rfl, hlen⟩ := h.form
  have HL : Hid (ListAt w Ln.cells 2 (.slice aa ls.length cp) ls) := h
  unfold maxLen at hlen
  clear h
  go_enter Tryd.func47, Tryd.ntmps47
  go_wp2_with fail
  go_loopw [5, 10] (fun p u wr => ∃ (j : Nat) (ah : Int), j ≤ ls.length ∧ p = .int .i64 ah ∧ u = .int .i64 (j : Int) ∧ Hid (lchk size (ls.drop j) ah = lchk size ls (-1)) ∧ Below w.heap.size w wr) (fun _ u _ => (ls.length - intOf u).toNat)
  case atStart => exact ⟨0, -1, by omega, rfl, rfl, rfl, Below.refl _ _⟩
  case round =>
    obtain ⟨j, ah, j1, rfl, rfl, j2, bel⟩ := hrel
    have z := bel.size
    by_cases hj : j < ls.length
    · obtain ⟨y, hy⟩ : ∃ y, ls[j]? = some y := ⟨_, List.getElem?_eq_getElem (by omega)⟩
      obtain ⟨bb, oo, cap, hv, c1, c2, c3, c4⟩ := HL.out.resolve_left (by rintro ⟨_, _, _, h⟩; subst h; simp at hj)
      cases hv
      have d0 : wr.cell? ⟨bb, oo + j * 2, none⟩ = some (.int .i64 y.a) := (bel.cell (p := ⟨bb, _, none⟩) c3).trans (c4 j y hy 0 _ rfl)
      have d1 : wr.cell? ⟨bb, oo + j * 2 + 1, none⟩ = some (.int .i64 y.n) := (bel.cell (p := ⟨bb, _, none⟩) c3).trans (c4 j y hy 1 _ rfl)
      have HF : Hid _ := j2.out.symm.trans (lchk_at size ah ls j y hy)
      have B : Hid (Below w.heap.size w wr) := bel
      have hb2 : bb < wr.heap.size := by omega
      clear c4 hy bel
      by_cases q1 : y.n < 0
      · have hr : Hid (lchk size ls (-1) = 2) := by show _ = _; rw [HF.out, if_pos (by omega)]
        clear HF
        go_wp2
        go_ret
        exact ⟨by rw [hr.out]; rfl, B.out.alloc z _⟩
      by_cases q2 : 10000 < y.n
      · have hr : Hid (lchk size ls (-1) = 2) := by show _ = _; rw [HF.out, if_pos (by omega)]
        clear HF
        go_wp2
        go_ret
        exact ⟨by rw [hr.out]; rfl, B.out.alloc z _⟩
      by_cases q3 : y.a ≤ ah
      · have hr : Hid (lchk size ls (-1) = 8) := by show _ = _; rw [HF.out, if_neg (by omega), if_pos (by omega)]
        clear HF
        go_wp2
        go_ret
        exact ⟨by rw [hr.out]; rfl, B.out.alloc z _⟩
      by_cases q4 : size ≤ y.a
      · have hr : Hid (lchk size ls (-1) = 8) := by show _ = _; rw [HF.out, if_neg (by omega), if_pos (by omega)]
        clear HF
        go_wp2
        go_ret
        exact ⟨by rw [hr.out]; rfl, B.out.alloc z _⟩
      have hr : Hid (lchk size (ls.drop (j + 1)) y.a = lchk size ls (-1)) := by show _ = _; rw [HF.out, if_neg (by omega), if_neg (by omega)]
      clear HF
      go_wp2
      go_roundw
      case rel => exact ⟨j + 1, _, by omega, rfl, by go_num, hr, B.out.alloc z _⟩
      case measure => simp [intOf]; omega
    · have hr : Hid (lchk size ls (-1) = 0) := by show _ = _; rw [← j2.out, List.drop_of_length_le (by omega)]; rfl
      go_wp2
      go_ret
      exact ⟨by rw [hr.out]; rfl, bel⟩
theorem far_some (xs : List Int) : (xs.any farB = true) = (∃ x ∈ xs, x < -1099511627776 ∨ 1099511627776 < x) := by simp [farB]
set_option maxHeartbeats 4000000 in
theorem icheck_any (vT vF vB vD vL : Value) (m : Img) (w : World) (hI : ImgAt w vT vF vB vD vL m) (hok : m.ok) :
    Calls Tryd.prog 21 #[.agg #[vT, vF, vB, vD, vL, .int .i64 m.entry]] w fun e w' => e = .returned (.int .i64 (imgChk m)) ∧ Below w.heap.size w w' := by
  obtain ⟨aT, cT, rfl, lT⟩ := hI.text.form
  obtain ⟨aF, cF, rfl, lF⟩ := hI.funcs.form
  obtain ⟨aD, cD, rfl, lD⟩ := hI.data.form
  obtain ⟨aL, cL, rfl, lL⟩ := hI.lines.form
  obtain ⟨vs, hB, hBl, hBx⟩ := hI.tables
  obtain ⟨aB, cB, rfl, lB⟩ := hB.form
  rw [hBl] at lB
  unfold maxLen at lT lF lB lD lL
  have HO : Hid m.ok := hok
  have HI : Hid (ImgAt w (.slice aT m.text.length cT) (.slice aF m.funcs.length cF) (.slice aB vs.length cB) (.slice aD m.data.length cD) (.slice aL m.lines.length cL) m) := hI
  rw [hBl] at HI ⊢
  clear hok hI hB hBl hBx vs
  have b0 : Below w.heap.size w (w.alloc (.cells #[.slice aT m.text.length cT, .slice aF m.funcs.length cF, .slice aB m.tables.length cB, .slice aD m.data.length cD, .slice aL m.lines.length cL, .int .i64 m.entry] 29)) := (Below.refl _ _).alloc (Nat.le_refl _) _
  have B0 : Hid _ := b0
  clear b0
  by_cases q1 : (8000 : Int) < m.text.length
  · have hr : Hid (imgChk m = 1) := by show _ = _; unfold imgChk; rw [if_pos (by omega)]
    go_enter Tryd.func21, Tryd.ntmps21
    go_wp2
    go_ret
    exact ⟨by rw [hr.out]; rfl, B0.out⟩
  by_cases q2 : (40 : Int) < m.funcs.length
  · have hr : Hid (imgChk m = 1) := by show _ = _; unfold imgChk; rw [if_pos (by omega)]
    go_enter Tryd.func21, Tryd.ntmps21
    go_wp2
    go_ret
    exact ⟨by rw [hr.out]; rfl, B0.out⟩
  have HC : Hid (imgChk m = if fchk m.text.length [] m.funcs 0 ≠ 0 then fchk m.text.length [] m.funcs 0
    else if m.entry < 0 ∨ m.funcs.length ≤ m.entry then 6 else if 20 < m.tables.length ∨ 64 < m.data.length then 1 else if tchk m.text.length m.tables ≠ 0 then tchk m.text.length m.tables
    else if (∃ x ∈ m.data, x < -1099511627776 ∨ 1099511627776 < x) then 2 else if 4000 < m.lines.length then 1 else lchk m.text.length m.lines (-1)) := by
    show _ = _; unfold imgChk; rw [if_neg (by omega)]
  go_enter Tryd.func21, Tryd.ntmps21
  go_wp2_with fail
  refine (checkFuncs_any _ m.funcs m.text.length _ (by omega) HO.out.funcs (HI.out.funcs.stays (Nat.le_refl _) B0.out)).mono ?_
  rintro e w1 ⟨rfl, hb1⟩
  have x := belc hb1 w.heap.size
  have x0 := x 0 (by simp); have x1 := x 1 (by simp); have x2 := x 2 (by simp); have x3 := x 3 (by simp); have x4 := x 4 (by simp); have x5 := x 5 (by simp)
  simp at x0 x1 x2 x3 x4 x5
  clear x
  have z1 : w.heap.size < w1.heap.size := (by have := hb1.size; simp at this; omega)
  have B1 : Hid (Below w.heap.size w w1) := B0.out.trans (hb1.mono (by simp))
  clear hb1
  obtain ⟨f, hf⟩ : ∃ f, fchk m.text.length [] m.funcs 0 = f := ⟨_, rfl⟩
  rw [hf] at HC ⊢
  by_cases q3 : f = 0
  rotate_left
  · have hr : Hid (imgChk m = f) := by show _ = _; rw [HC.out, if_pos q3]
    have q3b : (f != 0) = true := by simp [q3]
    clear HC
    go_wp2
    go_ret
    exact ⟨by rw [hr.out]; rfl, B1.out⟩
  subst q3
  by_cases q4 : m.entry < 0
  · have hr : Hid (imgChk m = 6) := by show _ = _; rw [HC.out, if_neg (by simp), if_pos (by omega)]
    clear HC
    go_wp2
    go_ret
    exact ⟨by rw [hr.out]; rfl, B1.out⟩
  by_cases q5 : (m.funcs.length : Int) ≤ m.entry
  · have hr : Hid (imgChk m = 6) := by show _ = _; rw [HC.out, if_neg (by simp), if_pos (by omega)]
    clear HC
    go_wp2
    go_ret
    exact ⟨by rw [hr.out]; rfl, B1.out⟩
  by_cases q6 : (20 : Int) < m.tables.length
  · have hr : Hid (imgChk m = 1) := by show _ = _; rw [HC.out, if_neg (by simp), if_neg (by omega), if_pos (by omega)]
    clear HC
    go_wp2
    go_ret
    exact ⟨by rw [hr.out]; rfl, B1.out⟩
  by_cases q7 : (64 : Int) < m.data.length
  · have hr : Hid (imgChk m = 1) := by show _ = _; rw [HC.out, if_neg (by simp), if_neg (by omega), if_pos (by omega)]
    clear HC
    go_wp2
    go_ret
    exact ⟨by rw [hr.out]; rfl, B1.out⟩
  have HC2 : Hid (imgChk m = if tchk m.text.length m.tables ≠ 0 then tchk m.text.length m.tables
    else if (∃ x ∈ m.data, x < -1099511627776 ∨ 1099511627776 < x) then 2 else if 4000 < m.lines.length then 1 else lchk m.text.length m.lines (-1)) := by
    show _ = _; rw [HC.out, if_neg (by simp), if_neg (by omega), if_neg (by omega)]
  clear HC hf
  obtain ⟨vs, hB, hBl, hBe⟩ := (HI.out.stays (Nat.le_refl _) B1.out).tables
  have HBa : Hid _ := hB
  have HBe : Hid _ := hBe
  clear hB hBe
  go_wp2_with fail
  rw [← hBl]
  refine (checkTables_any _ vs m.tables m.text.length _ (by rw [hBl]; exact HBa.out) hBl HBe.out).mono ?_
  rintro e w2 ⟨rfl, rfl⟩
  obtain ⟨f, hf⟩ : ∃ f, tchk m.text.length m.tables = f := ⟨_, rfl⟩
  rw [hf] at HC2 ⊢
  rw [hBl]
  by_cases q8 : f = 0
  rotate_left
  · have hr : Hid (imgChk m = f) := by show _ = _; rw [HC2.out, if_pos q8]
    have q8b : (f != 0) = true := by simp [q8]
    clear HC2
    go_wp2
    go_ret
    exact ⟨by rw [hr.out]; rfl, B1.out.alloc (by omega) _⟩
  subst q8
  have B2 := B1.out.alloc (show w.heap.size ≤ w1.heap.size by omega) (.cells #[.int .i64 (m.text.length : Int)] 3)
  have HD : Hid _ := HI.out.data.stays (Nat.le_refl _) B2
  have HLn : Hid _ := HI.out.lines.stays (Nat.le_refl _) B2
  have HB2 : Hid _ := B2
  clear B2 HBa HBe
  cases hd : m.data.any farB
  rotate_left
  · have hr : Hid (imgChk m = 2) := by show _ = _; rw [HC2.out, if_neg (by simp), if_pos (by rw [← far_some]; exact hd)]
    clear HC2
    go_wp2_with (go_at_call 46; refine (hasFar_any _ m.data _ HD.out).mono ?_; rw [hd]; rintro e w3 ⟨rfl, hw3⟩; obtain rfl := hw3.symm)
    go_ret
    exact ⟨by rw [hr.out]; rfl, HB2.out⟩
  by_cases q9 : (4000 : Int) < m.lines.length
  · have hr : Hid (imgChk m = 1) := by show _ = _; rw [HC2.out, if_neg (by simp), if_neg (by rw [← far_some, hd]; simp), if_pos (by omega)]
    clear HC2
    go_wp2_with (go_at_call 46; refine (hasFar_any _ m.data _ HD.out).mono ?_; rw [hd]; rintro e w3 ⟨rfl, hw3⟩; obtain rfl := hw3.symm)
    go_ret
    exact ⟨by rw [hr.out]; rfl, HB2.out⟩
  have hr : Hid (imgChk m = lchk m.text.length m.lines (-1)) := by show _ = _; rw [HC2.out, if_neg (by simp), if_neg (by rw [← far_some, hd]; simp), if_neg (by omega)]
  clear HC2
  go_wp2_with (first
    | (go_at_call 46; refine (hasFar_any _ m.data _ HD.out).mono ?_; rw [hd]; rintro e w3 ⟨rfl, hw3⟩; obtain rfl := hw3.symm)
    | (go_at_call 47; refine (checkLines_any _ m.lines m.text.length _ HLn.out).mono ?_; rintro e w4 ⟨rfl, hb4⟩))
  go_ret
  exact ⟨by rw [hr.out]; rfl, HB2.out.trans (hb4.mono (by simp; omega))⟩
end Go.Proofs.YtechpdfcgimkkaaDoor
