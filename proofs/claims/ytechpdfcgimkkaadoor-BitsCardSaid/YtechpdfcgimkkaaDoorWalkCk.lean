/-
  image.checkFuncs, checkTables and checkLines.
-/
import Derived.Test.YtechpdfcgimkkaaDoorWalkNm
import Derived.Test.YtechpdfcgimkkaaDoorWalkIx
namespace Go.Proofs.YtechpdfcgimkkaaDoor
open Go.RowKit Go.Joins
theorem belc {B : Nat} {W w1 : World} (hb : Below B W w1) : ∀ b o, b < B → w1.cell? ⟨b, o, none⟩ = W.cell? ⟨b, o, none⟩ := fun b o h => hb.cell (p := ⟨b, o, none⟩) h
theorem ListAt.take {α : Type} {w : World} {cells : α → List Value} {sz : Nat} {bb oo cap : Nat} {xs : List α} (h : ListAt w cells sz (.slice (some ⟨bb, oo, none⟩) xs.length cap) xs) (j : Nat) (hj : j ≤ xs.length) : ListAt w cells sz (.slice (some ⟨bb, oo, none⟩) j cap) (xs.take j) := by
  rcases Nat.eq_zero_or_pos j with rfl | h0
  · exact Or.inl ⟨_, _, rfl, by simp⟩
  rcases h with ⟨a, c, hv, rfl⟩ | ⟨b2, o2, c2, hv, h1, h2, h3, h4⟩
  · simp at hj; omega
  · cases hv
    have hl : (xs.take j).length = j := by rw [List.length_take]; omega
    refine Or.inr ⟨bb, oo, cap, by rw [hl], by omega, h2, h3, fun i x hi => h4 i x ?_⟩
    rw [List.getElem?_take] at hi
    split at hi
    · exact hi
    · cases hi
theorem drop_cons {α : Type} {xs : List α} {j : Nat} {y : α} (h : xs[j]? = some y) : xs.drop j = y :: xs.drop (j + 1) := by
  obtain ⟨hj, rfl⟩ := List.getElem?_eq_some_iff.1 h
  exact List.drop_eq_getElem_cons hj
theorem take_snoc {α : Type} {xs : List α} {j : Nat} {y : α} (h : xs[j]? = some y) : xs.take (j + 1) = xs.take j ++ [y] := by
  rw [List.take_add_one, h]; rfl
theorem fchk_at (size en : Int) (fs : List Fn) (j : Nat) (y : Fn) (h : fs[j]? = some y) : fchk size (fs.take j) (fs.drop j) en =
    if nameMay y.name = false then 4 else if (fs.take j).any (fun g => decide (g.name = y.name)) = true then 7 else if y.start ≠ en ∨ y.size < 1 ∨ size - en < y.size then 8 else fchk size (fs.take (j + 1)) (fs.drop (j + 1)) (en + y.size) := by
  rw [drop_cons h, take_snoc h, fchk]
  have : ((fs.take j).any (fun g => decide (g.name = y.name)) = true) = (∃ g ∈ fs.take j, g.name = y.name) := by simp
  simp only [this]
set_option maxHeartbeats 2000000 in
theorem checkFuncs_any (v : Value) (fs : List Fn) (size : Int) (w : World) (hz : 0 ≤ size ∧ size ≤ 9223372036854775807) (hok : ∀ f ∈ fs, f.ok) (h : ListAt w Fn.cells 3 v fs) :
    Calls Tryd.prog 43 #[v, .int .i64 size] w fun e w' => e = .returned (.int .i64 (fchk size [] fs 0)) ∧ Below w.heap.size w w' := by
  obtain ⟨aa, cp, rfl, hlen⟩ := h.form
  have HL : Hid (ListAt w Fn.cells 3 (.slice aa fs.length cp) fs) := h
  have HO : Hid (∀ f ∈ fs, f.ok) := hok
  unfold maxLen at hlen
  obtain ⟨z0, z1⟩ := hz
  clear h hok
  go_enter Tryd.func43, Tryd.ntmps43
  go_wp2_with fail
  go_loopw [5, 11] (fun p u wr => ∃ (j : Nat) (en : Int), j ≤ fs.length ∧ p = .int .i64 en ∧ 0 ≤ en ∧ en ≤ size ∧ u = .int .i64 (j : Int) ∧ Hid (fchk size (fs.take j) (fs.drop j) en = fchk size [] fs 0) ∧ Below w.heap.size w wr) (fun _ u _ => (fs.length - intOf u).toNat)
  case atStart => exact ⟨0, 0, by omega, rfl, by omega, by omega, rfl, rfl, Below.refl _ _⟩
  case round =>
    obtain ⟨j, en, j1, rfl, e0, e1, rfl, j2, bel⟩ := hrel
    have z := bel.size
    by_cases hj : j < fs.length
    · obtain ⟨y, hy⟩ : ∃ y, fs[j]? = some y := ⟨_, List.getElem?_eq_getElem (by omega)⟩
      obtain ⟨bb, oo, cap, hv, c1, c2, c3, c4⟩ := HL.out.resolve_left (by rintro ⟨_, _, _, h⟩; subst h; simp at hj)
      cases hv
      have d0 : wr.cell? ⟨bb, oo + j * 3, none⟩ = some (.string y.name) := (bel.cell (p := ⟨bb, _, none⟩) c3).trans (c4 j y hy 0 _ rfl)
      have d1 : wr.cell? ⟨bb, oo + j * 3 + 1, none⟩ = some (.int .i64 y.start) := (bel.cell (p := ⟨bb, _, none⟩) c3).trans (c4 j y hy 1 _ rfl)
      have d2 : wr.cell? ⟨bb, oo + j * 3 + 2, none⟩ = some (.int .i64 y.size) := (bel.cell (p := ⟨bb, _, none⟩) c3).trans (c4 j y hy 2 _ rfl)
      obtain ⟨k1, ⟨k2, k3⟩, k4, k5⟩ := HO.out y (List.mem_of_getElem? hy)
      have HF : Hid _ := j2.out.symm.trans (fchk_at size en fs j y hy)
      have B : Hid (Below w.heap.size w wr) := bel
      have HT : Hid (ListAt (wr.alloc (.cells #[.string y.name, .int .i64 y.start, .int .i64 y.size] 47)) Fn.cells 3 (.slice (some ⟨bb, oo, none⟩) j cp) (fs.take j)) :=
        (HL.out.take j j1).stays (Nat.le_refl _) (bel.alloc z _)
      have hb2 : bb < wr.heap.size := by omega
      clear c4 hy bel
      cases hn : nameMay y.name
      · have hr : Hid (fchk size [] fs 0 = 4) := by show _ = _; rw [HF.out, if_pos hn]
        clear HF HT
        go_wp2_with (go_at_call 86; refine (isName_any _ _ k1).mono ?_; rw [hn]; rintro e w1 ⟨rfl, hw1⟩; obtain rfl := hw1.symm)
        go_ret
        exact ⟨by rw [hr.out]; rfl, B.out.alloc z _⟩
      cases hd : (fs.take j).any (fun g => decide (g.name = y.name))
      rotate_left
      · have hr : Hid (fchk size [] fs 0 = 7) := by show _ = _; rw [HF.out, if_neg (by simp [hn]), if_pos hd]
        clear HF
        go_wp2_with (first
          | (go_at_call 86; refine (isName_any _ _ k1).mono ?_; rw [hn]; rintro e w1 ⟨rfl, hw1⟩; obtain rfl := hw1.symm)
          | (go_at_call 88; refine (hasSame_any _ _ y.name _ _ (by simp) (by simp) HT.out).mono ?_; rw [hd]; rintro e w2 ⟨rfl, hb2⟩))
        go_ret
        exact ⟨by rw [hr.out]; rfl, (B.out.alloc z _).trans (hb2.mono (by simp; omega))⟩
      have HG : Hid (fchk size [] fs 0 = if y.start ≠ en ∨ y.size < 1 ∨ size - en < y.size then 8 else fchk size (fs.take (j + 1)) (fs.drop (j + 1)) (en + y.size)) := by show _ = _; rw [HF.out, if_neg (by simp [hn]), if_neg (by simp [hd])]
      clear HF
      by_cases q1 : y.start = en
      · by_cases q2 : y.size < 1
        · have hr : Hid (fchk size [] fs 0 = 8) := by show _ = _; rw [HG.out, if_pos (by omega)]
          clear HG
          subst q1
          go_wp2_with (first
            | (go_at_call 86; refine (isName_any _ _ k1).mono ?_; rw [hn]; rintro e w1 ⟨rfl, hw1⟩; obtain rfl := hw1.symm)
            | (go_at_call 88; refine (hasSame_any _ _ y.name _ _ (by simp) (by simp) HT.out).mono ?_; rw [hd]; rintro e w2 ⟨rfl, hb2⟩; have x1 := belc hb2 wr.heap.size 1 (by simp); have x2 := belc hb2 wr.heap.size 2 (by simp); simp at x1 x2; have zz : wr.heap.size < w2.heap.size := (by have := hb2.size; simp at this; omega)))
          go_ret
          exact ⟨by rw [hr.out]; rfl, (B.out.alloc z _).trans (hb2.mono (by simp; omega))⟩
        · by_cases q3 : size - en < y.size
          · have hr : Hid (fchk size [] fs 0 = 8) := by show _ = _; rw [HG.out, if_pos (by omega)]
            clear HG
            subst q1
            go_wp2_with (first
              | (go_at_call 86; refine (isName_any _ _ k1).mono ?_; rw [hn]; rintro e w1 ⟨rfl, hw1⟩; obtain rfl := hw1.symm)
              | (go_at_call 88; refine (hasSame_any _ _ y.name _ _ (by simp) (by simp) HT.out).mono ?_; rw [hd]; rintro e w2 ⟨rfl, hb2⟩; have x1 := belc hb2 wr.heap.size 1 (by simp); have x2 := belc hb2 wr.heap.size 2 (by simp); simp at x1 x2; have zz : wr.heap.size < w2.heap.size := (by have := hb2.size; simp at this; omega)))
            go_ret
            exact ⟨by rw [hr.out]; rfl, (B.out.alloc z _).trans (hb2.mono (by simp; omega))⟩
          · have hr : Hid (fchk size (fs.take (j + 1)) (fs.drop (j + 1)) (en + y.size) = fchk size [] fs 0) := by show _ = _; rw [HG.out, if_neg (by omega)]
            clear HG
            subst q1
            go_wp2_with (first
              | (go_at_call 86; refine (isName_any _ _ k1).mono ?_; rw [hn]; rintro e w1 ⟨rfl, hw1⟩; obtain rfl := hw1.symm)
              | (go_at_call 88; refine (hasSame_any _ _ y.name _ _ (by simp) (by simp) HT.out).mono ?_; rw [hd]; rintro e w2 ⟨rfl, hb2⟩; have x1 := belc hb2 wr.heap.size 1 (by simp); have x2 := belc hb2 wr.heap.size 2 (by simp); simp at x1 x2; have zz : wr.heap.size < w2.heap.size := (by have := hb2.size; simp at this; omega)))
            go_roundw
            case rel => exact ⟨j + 1, y.start + y.size, by omega, by go_num, by omega, by omega, by go_num, hr, (B.out.alloc z _).trans (hb2.mono (by simp; omega))⟩
            case measure => simp [intOf]; omega
      · have hr : Hid (fchk size [] fs 0 = 8) := by show _ = _; rw [HG.out, if_pos (by omega)]
        clear HG
        have q1b : (y.start == en) = false := by simp [q1]
        have q1c : (y.start != en) = true := by simp [q1]
        go_wp2_with (first
          | (go_at_call 86; refine (isName_any _ _ k1).mono ?_; rw [hn]; rintro e w1 ⟨rfl, hw1⟩; obtain rfl := hw1.symm)
          | (go_at_call 88; refine (hasSame_any _ _ y.name _ _ (by simp) (by simp) HT.out).mono ?_; rw [hd]; rintro e w2 ⟨rfl, hb2⟩; have x1 := belc hb2 wr.heap.size 1 (by simp); have x2 := belc hb2 wr.heap.size 2 (by simp); simp at x1 x2; have zz : wr.heap.size < w2.heap.size := (by have := hb2.size; simp at this; omega)))
        go_ret
        exact ⟨by rw [hr.out]; rfl, (B.out.alloc z _).trans (hb2.mono (by simp; omega))⟩
    · have hd : fs.drop j = [] := List.drop_of_length_le (by omega)
      by_cases q : en = size
      · have hr : Hid (fchk size [] fs 0 = 0) := by show _ = _; rw [← j2.out, hd, fchk, if_pos q]
        clear j2 hd
        subst q
        go_wp2
        go_ret
        exact ⟨by rw [hr.out]; rfl, bel⟩
      · have hr : Hid (fchk size [] fs 0 = 8) := by show _ = _; rw [← j2.out, hd, fchk, if_neg q]
        clear j2 hd
        have qb : (en != size) = true := by simp [q]
        go_wp2
        go_ret
        exact ⟨by rw [hr.out]; rfl, bel⟩
end Go.Proofs.YtechpdfcgimkkaaDoor
