/-
  image.isName and boltholeref.NameMay: both answer 'nameMay'.
-/
import Derived.Test.YtechpdfcgimkkaaDoorMCC
import Derived.Outline
namespace Go.Proofs.YtechpdfcgimkkaaDoor
open Go.RowKit Go.Joins
def cOk (c : UInt8) : Bool := okc (c.toNat : Int)
theorem name_next (s : ByteArray) (j : Nat) (hj : j < s.size) (h : (s.data.toList.take j).all cOk = true) : (s.data.toList.take (j + 1)).all cOk = okc ((s[j]'hj).toNat : Int) := by
  rw [List.take_add_one, List.getElem?_eq_getElem (by simpa using hj), List.all_append, h]
  simp [cOk]
  rfl
theorem name_fail (s : ByteArray) (j : Nat) (hj : j < s.size) (h : okc ((s[j]'hj).toNat : Int) = false) : s.data.toList.all cOk = false := by
  rw [List.all_eq_false]
  refine ⟨s.data.toList[j]'(by simpa using hj), List.getElem_mem _, ?_⟩
  simp [cOk]
  exact h
theorem jin_any (n a b : Int) (w : World) : Calls Tryd.prog 63 #[.int .i64 n, .int .i64 a, .int .i64 b] w fun e w' => e = .returned (.bool (decide (a ≤ n) && decide (n ≤ b))) ∧ w' = w := by
  by_cases h0 : a ≤ n
  · go_enter Tryd.func63, Tryd.ntmps63
    go_wp2
    go_ret
    exact ⟨by simp [h0], rfl⟩
  · go_enter Tryd.func63, Tryd.ntmps63
    go_wp2
    go_ret
    exact ⟨by rw [decide_eq_false (show ¬ a ≤ n by omega)]; rfl, rfl⟩
set_option maxHeartbeats 2000000 in
theorem isName_any (s : ByteArray) (w : World) (hs : s.size ≤ maxLen) : Calls Tryd.prog 86 #[.string s] w fun e w' => e = .returned (.bool (nameMay s)) ∧ w' = w := by
  unfold maxLen at hs
  by_cases h1 : (s.size : Int) < 1
  · have hr : Hid (nameMay s = false) := by show _ = _; simp [nameMay]; intros; omega
    go_enter Tryd.func86, Tryd.ntmps86
    go_wp2
    go_ret
    exact ⟨by rw [hr.out]; rfl, rfl⟩
  by_cases h2 : (16 : Int) < s.size
  · have hr : Hid (nameMay s = false) := by show _ = _; simp [nameMay]; intros; omega
    go_enter Tryd.func86, Tryd.ntmps86
    go_wp2
    go_ret
    exact ⟨by rw [hr.out]; rfl, rfl⟩
  have hn : Hid (nameMay s = s.data.toList.all cOk) := by show _ = _; unfold nameMay; rw [decide_eq_true (show 1 ≤ s.size by omega), decide_eq_true (show s.size ≤ 16 by omega)]; rfl
  go_enter Tryd.func86, Tryd.ntmps86
  go_wp2_with fail
  go_loopw [15] (fun v wr => ∃ j : Nat, j ≤ s.size ∧ v = .int .i64 (j : Int) ∧ Hid ((s.data.toList.take j).all cOk = true) ∧ wr = w) (fun v _ => (s.size - intOf v).toNat)
  case atStart => exact ⟨0, by omega, rfl, rfl, rfl⟩
  case round =>
    obtain ⟨j, j1, rfl, j2, rfl⟩ := hrel
    by_cases hj : j < s.size
    · have hnx : Hid _ := name_next s j hj j2.out
      have hfl : Hid _ := name_fail s j hj
      obtain ⟨c, hc⟩ : ∃ c : Nat, (s[j]'hj).toNat = c := ⟨_, rfl⟩
      rw [hc] at hnx hfl
      cases hk : okc (c : Int)
      all_goals by_cases a1 : (97 : Int) ≤ c
      all_goals by_cases a2 : (c : Int) ≤ 122
      all_goals by_cases a3 : (48 : Int) ≤ c
      all_goals by_cases a4 : (c : Int) ≤ 57
      all_goals cases a5 : ((c : Int) == 95)
      all_goals cases a6 : ((c : Int) == 46)
      all_goals (have b5 : ((c : Int) != 95) = _ := congrArg not a5)
      all_goals (have b6 : ((c : Int) != 46) = _ := congrArg not a6)
      all_goals simp only [Bool.not_true, Bool.not_false] at b5 b6
      all_goals first
        | (exfalso; simp [okc, a1, a2, a3, a4, a5, a6] at hk; done)
        | (exfalso; simp at a5 a6; omega)
        | (have HK : Hid (okc (c : Int) = false) := hk
           clear hk
           go_wp2
           go_ret
           exact ⟨by rw [hn.out, hfl.out HK.out]; rfl, rfl⟩)
        | (have HK : Hid (okc (c : Int) = true) := hk
           clear hk
           go_wp2
           go_roundw
           case rel => exact ⟨j + 1, by omega, by go_num, hnx.out.trans HK.out, trivial⟩
           case measure => simp [intOf]; omega)
    · have hr : Hid (nameMay s = true) := by show _ = _; rw [hn.out]; have := j2.out; rwa [List.take_of_length_le (by simp; omega)] at this
      go_wp2
      go_ret
      exact ⟨by rw [hr.out]; rfl, by first | rfl | trivial⟩
set_option maxHeartbeats 2000000 in
theorem nameMay_any (s : ByteArray) (w : World) (hs : s.size ≤ maxLen) : Calls Tryd.prog 106 #[.string s] w fun e w' => e = .returned (.bool (nameMay s)) ∧ w' = w := by
  unfold maxLen at hs
  by_cases h1 : (s.size : Int) < 1
  · have hi : (decide ((1 : Int) ≤ s.size) && decide ((s.size : Int) ≤ 16)) = false := by rw [decide_eq_false (by omega)]; rfl
    have hr : Hid (nameMay s = false) := by show _ = _; simp [nameMay]; intros; omega
    go_enter Tryd.func106, Tryd.ntmps106
    go_wp2_with (go_at_call 63; refine (jin_any _ _ _ _).mono ?_; rw [hi]; rintro e w1 ⟨rfl, hw1⟩; obtain rfl := hw1.symm)
    go_ret
    exact ⟨by rw [hr.out]; rfl, rfl⟩
  by_cases h2 : (16 : Int) < s.size
  · have hi : (decide ((1 : Int) ≤ s.size) && decide ((s.size : Int) ≤ 16)) = false := by rw [decide_eq_false (show ¬ (s.size : Int) ≤ 16 by omega)]; simp
    have hr : Hid (nameMay s = false) := by show _ = _; simp [nameMay]; intros; omega
    go_enter Tryd.func106, Tryd.ntmps106
    go_wp2_with (go_at_call 63; refine (jin_any _ _ _ _).mono ?_; rw [hi]; rintro e w1 ⟨rfl, hw1⟩; obtain rfl := hw1.symm)
    go_ret
    exact ⟨by rw [hr.out]; rfl, rfl⟩
  have hi : (decide ((1 : Int) ≤ s.size) && decide ((s.size : Int) ≤ 16)) = true := by rw [decide_eq_true (show (1 : Int) ≤ s.size by omega), decide_eq_true (show (s.size : Int) ≤ 16 by omega)]; rfl
  have hn : Hid (nameMay s = s.data.toList.all cOk) := by show _ = _; unfold nameMay; rw [decide_eq_true (show 1 ≤ s.size by omega), decide_eq_true (show s.size ≤ 16 by omega)]; rfl
  go_enter Tryd.func106, Tryd.ntmps106
  go_wp2_with (go_at_call 63; refine (jin_any _ _ _ _).mono ?_; rw [hi]; rintro e w1 ⟨rfl, hw1⟩; obtain rfl := hw1.symm)
  clear hi
  go_loopw [3] (fun v wr => ∃ j : Nat, j ≤ s.size ∧ v = .int .i64 (j : Int) ∧ Hid ((s.data.toList.take j).all cOk = true) ∧ wr = w) (fun v _ => (s.size - intOf v).toNat)
  case atStart => exact ⟨0, by omega, rfl, rfl, rfl⟩
  case round =>
    obtain ⟨j, j1, rfl, j2, rfl⟩ := hrel
    by_cases hj : j < s.size
    · have hnx : Hid _ := name_next s j hj j2.out
      have hfl : Hid _ := name_fail s j hj
      obtain ⟨c, hc⟩ : ∃ c : Nat, (s[j]'hj).toNat = c := ⟨_, rfl⟩
      rw [hc] at hnx hfl
      cases hk : okc (c : Int)
      all_goals by_cases a1 : (97 : Int) ≤ c
      all_goals by_cases a2 : (c : Int) ≤ 122
      all_goals by_cases a3 : (48 : Int) ≤ c
      all_goals by_cases a4 : (c : Int) ≤ 57
      all_goals cases a5 : ((c : Int) == 95)
      all_goals cases a6 : ((c : Int) == 46)
      all_goals (have b5 : ((c : Int) != 95) = _ := congrArg not a5)
      all_goals (have b6 : ((c : Int) != 46) = _ := congrArg not a6)
      all_goals simp only [Bool.not_true, Bool.not_false] at b5 b6
      all_goals first
        | (exfalso; simp [okc, a1, a2, a3, a4, a5, a6] at hk; done)
        | (exfalso; simp at a5 a6; omega)
        | (have HK : Hid (okc (c : Int) = false) := hk
           clear hk
           go_wp2
           go_ret
           exact ⟨by rw [hn.out, hfl.out HK.out]; rfl, rfl⟩)
        | (have HK : Hid (okc (c : Int) = true) := hk
           clear hk
           go_wp2
           go_roundw
           case rel => exact ⟨j + 1, by omega, by go_num, hnx.out.trans HK.out, trivial⟩
           case measure => simp [intOf]; omega)
    · have hr : Hid (nameMay s = true) := by show _ = _; rw [hn.out]; have := j2.out; rwa [List.take_of_length_le (by simp; omega)] at this
      go_wp2
      go_ret
      exact ⟨by rw [hr.out]; rfl, by first | rfl | trivial⟩
end Go.Proofs.YtechpdfcgimkkaaDoor
/-
  slices.ContainsFunc at image.Check's three function values.
-/
namespace Go.Proofs.YtechpdfcgimkkaaDoor
open Go.RowKit Go.Joins
def farB (n : Int) : Bool := decide (n < -1099511627776) || decide (1099511627776 < n)
def outB (size n : Int) : Bool := decide (n < 0) || decide (size ≤ n)
theorem str_beq (x y : ByteArray) : (x.toList == y.toList) = decide (x = y) := by
  rw [Bool.eq_iff_iff, decide_eq_true_iff, beq_iff_eq, ByteArray.toList_eq, ByteArray.toList_eq]
  exact ⟨fun h => ByteArray.ext (Array.toList_inj.mp h), fun h => by rw [h]⟩
theorem any_next {α : Type} (P : α → Bool) (xs : List α) (j : Nat) (x : α) (h : xs[j]? = some x) (h0 : (xs.take j).any P = false) (h1 : P x = false) : (xs.take (j + 1)).any P = false := by
  rw [List.take_add_one, h, List.any_append, h0]; simp [h1]
theorem any_hit {α : Type} (P : α → Bool) (xs : List α) (j : Nat) (x : α) (h : xs[j]? = some x) (h1 : P x = true) : xs.any P = true :=
  List.any_eq_true.2 ⟨x, List.mem_of_getElem? h, h1⟩
theorem far_any (n : Int) (w : World) : Calls Tryd.prog 45 #[.int .i64 n] w fun e w' => e = .returned (.bool (farB n)) ∧ w' = w := by
  by_cases h0 : n < -1099511627776
  · have hr : Hid (farB n = true) := by show _ = _; simp [farB, h0]
    go_enter Tryd.func45, Tryd.ntmps45
    go_wp2
    go_ret
    exact ⟨by rw [hr.out]; rfl, rfl⟩
  · by_cases h1 : 1099511627776 < n
    · have hr : Hid (farB n = true) := by show _ = _; simp [farB, h1]
      go_enter Tryd.func45, Tryd.ntmps45
      go_wp2
      go_ret
      exact ⟨by rw [hr.out]; rfl, rfl⟩
    · have hr : Hid (farB n = false) := by show _ = _; simp [farB]; omega
      go_enter Tryd.func45, Tryd.ntmps45
      go_wp2
      go_ret
      exact ⟨by rw [hr.out]; rfl, rfl⟩
theorem outside_any (n size : Int) (b o : Nat) (w : World) (hc : w.cell? ⟨b, o, none⟩ = some (.int .i64 size)) : Calls Tryd.prog 89 #[.int .i64 n, .pointer (some ⟨b, o, none⟩)] w fun e w' => e = .returned (.bool (outB size n)) ∧ w' = w := by
  by_cases h0 : n < 0
  · have hr : Hid (outB size n = true) := by show _ = _; simp [outB, h0]
    go_enter Tryd.func89, Tryd.ntmps89
    go_wp2
    go_ret
    exact ⟨by rw [hr.out]; rfl, rfl⟩
  · by_cases h1 : size ≤ n
    · have hr : Hid (outB size n = true) := by show _ = _; simp [outB, h1]
      go_enter Tryd.func89, Tryd.ntmps89
      go_wp2
      go_ret
      exact ⟨by rw [hr.out]; rfl, rfl⟩
    · have hr : Hid (outB size n = false) := by show _ = _; simp [outB]; omega
      go_enter Tryd.func89, Tryd.ntmps89
      go_wp2
      go_ret
      exact ⟨by rw [hr.out]; rfl, rfl⟩
theorem same_any (g : Fn) (nm : ByteArray) (b : Nat) (w : World) (hb : b < w.heap.size) (hc : w.cell? ⟨b, 0, none⟩ = some (.string nm)) : Calls Tryd.prog 87 #[.agg #[.string g.name, .int .i64 g.start, .int .i64 g.size], .pointer (some ⟨b, 0, none⟩)] w fun e w' => e = .returned (.bool (decide (g.name = nm))) ∧ Below w.heap.size w w' := by
  go_enter Tryd.func87, Tryd.ntmps87
  go_wp2
  go_ret
  exact ⟨by rw [← str_beq]; rfl, by go_grown⟩
set_option maxHeartbeats 1000000 in
theorem idxFar_any (v : Value) (xs : List Int) (w : World) (h : ListAt w icell 1 v xs) : Calls Tryd.prog 90 #[v, .func (.func 45) #[] #[]] w fun e w' => ∃ r : Int, e = .returned (.int .i64 r) ∧ decide (0 ≤ r) = xs.any farB ∧ w' = w := by
  obtain ⟨aa, cp, rfl, hlen⟩ := h.form
  have HL : Hid (ListAt w icell 1 (.slice aa xs.length cp) xs) := h
  unfold maxLen at hlen
  clear h
  go_enter Tryd.func90, Tryd.ntmps90
  go_wp2_with fail
  go_loopw [8] (fun u wr => ∃ j : Nat, j ≤ xs.length ∧ u = .int .i64 (j : Int) ∧ Hid ((xs.take j).any farB = false) ∧ wr = w) (fun u _ => (xs.length - intOf u).toNat)
  case atStart => exact ⟨0, by omega, rfl, rfl, rfl⟩
  case round =>
    obtain ⟨j, j1, rfl, j2, rfl⟩ := hrel
    by_cases hj : j < xs.length
    · obtain ⟨y, hy⟩ : ∃ y, xs[j]? = some y := ⟨_, List.getElem?_eq_getElem (by omega)⟩
      obtain ⟨bb, oo, cap, hv, c1, c2, c3, c4⟩ := HL.out.resolve_left (by rintro ⟨_, _, _, h⟩; subst h; simp at hj)
      cases hv
      have d0 := c4 j y hy 0 (.int .i64 y) rfl
      rw [Nat.mul_one, Nat.add_zero] at d0
      have HY : Hid _ := hy
      clear c4 hy
      cases hk : farB y
      · go_wp2_with (go_at_call 45; refine (far_any _ _).mono ?_; rw [hk]; rintro e w1 ⟨rfl, hw1⟩; obtain rfl := hw1.symm)
        go_roundw
        case rel => exact ⟨j + 1, by omega, by go_num, any_next _ _ _ _ HY.out j2.out hk, trivial⟩
        case measure => simp [intOf]; omega
      · go_wp2_with (go_at_call 45; refine (far_any _ _).mono ?_; rw [hk]; rintro e w1 ⟨rfl, hw1⟩; obtain rfl := hw1.symm)
        go_ret
        exact ⟨_, rfl, by rw [any_hit _ _ _ _ HY.out hk]; simp, by first | rfl | trivial⟩
    · have hr : Hid (xs.any farB = false) := by have := j2.out; rwa [List.take_of_length_le (by omega)] at this
      go_wp2
      go_ret
      exact ⟨_, rfl, by rw [hr.out]; rfl, by first | rfl | trivial⟩
theorem hasFar_any (v : Value) (xs : List Int) (w : World) (h : ListAt w icell 1 v xs) : Calls Tryd.prog 46 #[v, .func (.func 45) #[] #[]] w fun e w' => e = .returned (.bool (xs.any farB)) ∧ w' = w := by
  have HH : Hid (ListAt w icell 1 v xs) := h
  clear h
  go_enter Tryd.func46, Tryd.ntmps46
  go_wp2_with (go_at_call 90; refine (idxFar_any v xs w HH.out).mono ?_; rintro e w1 ⟨r, rfl, hr, hw1⟩; obtain rfl := hw1.symm)
  go_ret
  exact ⟨by rw [← hr]; rfl, rfl⟩
set_option maxHeartbeats 1000000 in
theorem idxOut_any (v : Value) (xs : List Int) (size : Int) (b o : Nat) (w : World) (hc : w.cell? ⟨b, o, none⟩ = some (.int .i64 size)) (h : ListAt w icell 1 v xs) : Calls Tryd.prog 90 #[v, .func (.func 89) #[] #[.pointer (some ⟨b, o, none⟩)]] w fun e w' => ∃ r : Int, e = .returned (.int .i64 r) ∧ decide (0 ≤ r) = xs.any (outB size) ∧ w' = w := by
  obtain ⟨aa, cp, rfl, hlen⟩ := h.form
  have HL : Hid (ListAt w icell 1 (.slice aa xs.length cp) xs) := h
  unfold maxLen at hlen
  clear h
  go_enter Tryd.func90, Tryd.ntmps90
  go_wp2_with fail
  go_loopw [8] (fun u wr => ∃ j : Nat, j ≤ xs.length ∧ u = .int .i64 (j : Int) ∧ Hid ((xs.take j).any (outB size) = false) ∧ wr = w) (fun u _ => (xs.length - intOf u).toNat)
  case atStart => exact ⟨0, by omega, rfl, rfl, rfl⟩
  case round =>
    obtain ⟨j, j1, rfl, j2, rfl⟩ := hrel
    by_cases hj : j < xs.length
    · obtain ⟨y, hy⟩ : ∃ y, xs[j]? = some y := ⟨_, List.getElem?_eq_getElem (by omega)⟩
      obtain ⟨bb, oo, cap, hv, c1, c2, c3, c4⟩ := HL.out.resolve_left (by rintro ⟨_, _, _, h⟩; subst h; simp at hj)
      cases hv
      have d0 := c4 j y hy 0 (.int .i64 y) rfl
      rw [Nat.mul_one, Nat.add_zero] at d0
      have HY : Hid _ := hy
      clear c4 hy
      cases hk : outB size y
      · go_wp2_with (go_at_call 89; refine (outside_any _ size _ _ _ hc).mono ?_; rw [hk]; rintro e w1 ⟨rfl, hw1⟩; obtain rfl := hw1.symm)
        go_roundw
        case rel => exact ⟨j + 1, by omega, by go_num, any_next _ _ _ _ HY.out j2.out hk, trivial⟩
        case measure => simp [intOf]; omega
      · go_wp2_with (go_at_call 89; refine (outside_any _ size _ _ _ hc).mono ?_; rw [hk]; rintro e w1 ⟨rfl, hw1⟩; obtain rfl := hw1.symm)
        go_ret
        exact ⟨_, rfl, by rw [any_hit _ _ _ _ HY.out hk]; simp, by first | rfl | trivial⟩
    · have hr : Hid (xs.any (outB size) = false) := by have := j2.out; rwa [List.take_of_length_le (by omega)] at this
      go_wp2
      go_ret
      exact ⟨_, rfl, by rw [hr.out]; rfl, by first | rfl | trivial⟩
theorem hasOut_any (v : Value) (xs : List Int) (size : Int) (b o : Nat) (w : World) (hc : w.cell? ⟨b, o, none⟩ = some (.int .i64 size)) (h : ListAt w icell 1 v xs) : Calls Tryd.prog 46 #[v, .func (.func 89) #[] #[.pointer (some ⟨b, o, none⟩)]] w fun e w' => e = .returned (.bool (xs.any (outB size))) ∧ w' = w := by
  have HH : Hid (ListAt w icell 1 v xs) := h
  clear h
  go_enter Tryd.func46, Tryd.ntmps46
  go_wp2_with (go_at_call 90; refine (idxOut_any v xs size b o w hc HH.out).mono ?_; rintro e w1 ⟨r, rfl, hr, hw1⟩; obtain rfl := hw1.symm)
  go_ret
  exact ⟨by rw [← hr]; rfl, rfl⟩
set_option maxHeartbeats 1000000 in
theorem idxSame_any (v : Value) (xs : List Fn) (nm : ByteArray) (b : Nat) (w : World) (hb : b < w.heap.size) (hc : w.cell? ⟨b, 0, none⟩ = some (.string nm)) (h : ListAt w Fn.cells 3 v xs) : Calls Tryd.prog 115 #[v, .func (.func 87) #[] #[.pointer (some ⟨b, 0, none⟩)]] w fun e w' => ∃ r : Int, e = .returned (.int .i64 r) ∧ decide (0 ≤ r) = xs.any (fun g => decide (g.name = nm)) ∧ Below w.heap.size w w' := by
  obtain ⟨aa, cp, rfl, hlen⟩ := h.form
  have HL : Hid (ListAt w Fn.cells 3 (.slice aa xs.length cp) xs) := h
  unfold maxLen at hlen
  clear h
  go_enter Tryd.func115, Tryd.ntmps115
  go_wp2_with fail
  go_loopw [8] (fun u wr => ∃ j : Nat, j ≤ xs.length ∧ u = .int .i64 (j : Int) ∧ Hid ((xs.take j).any (fun g => decide (g.name = nm)) = false) ∧ Below w.heap.size w wr) (fun u _ => (xs.length - intOf u).toNat)
  case atStart => exact ⟨0, by omega, rfl, rfl, Below.refl _ _⟩
  case round =>
    obtain ⟨j, j1, rfl, j2, bel⟩ := hrel
    have z := bel.size
    by_cases hj : j < xs.length
    · obtain ⟨y, hy⟩ : ∃ y, xs[j]? = some y := ⟨_, List.getElem?_eq_getElem (by omega)⟩
      obtain ⟨bb, oo, cap, hv, c1, c2, c3, c4⟩ := HL.out.resolve_left (by rintro ⟨_, _, _, h⟩; subst h; simp at hj)
      cases hv
      have d0 : wr.cell? ⟨bb, oo + j * 3, none⟩ = some (.string y.name) := (bel.cell (p := ⟨bb, _, none⟩) c3).trans (c4 j y hy 0 _ rfl)
      have d1 : wr.cell? ⟨bb, oo + j * 3 + 1, none⟩ = some (.int .i64 y.start) := (bel.cell (p := ⟨bb, _, none⟩) c3).trans (c4 j y hy 1 _ rfl)
      have d2 : wr.cell? ⟨bb, oo + j * 3 + 2, none⟩ = some (.int .i64 y.size) := (bel.cell (p := ⟨bb, _, none⟩) c3).trans (c4 j y hy 2 _ rfl)
      have hb2 : b < wr.heap.size := by omega
      have hc2 := (bel.cell (p := ⟨b, 0, none⟩) hb).trans hc
      have HY : Hid _ := hy
      have B : Hid _ := bel
      clear c4 hy bel hc
      by_cases hk : y.name = nm
      · have hk2 : Hid (decide (y.name = nm) = true) := decide_eq_true hk
        clear hk
        go_wp2_with (go_at_call 87; refine (same_any y nm b wr hb2 hc2).mono ?_; rw [hk2.out]; rintro e w1 ⟨rfl, hw1⟩)
        go_ret
        exact ⟨_, rfl, by rw [any_hit _ _ _ _ HY.out hk2.out]; simp, B.out.trans (hw1.mono z)⟩
      · have hk2 : Hid (decide (y.name = nm) = false) := decide_eq_false hk
        clear hk
        go_wp2_with (go_at_call 87; refine (same_any y nm b wr hb2 hc2).mono ?_; rw [hk2.out]; rintro e w1 ⟨rfl, hw1⟩)
        go_roundw
        case rel => exact ⟨j + 1, by omega, by go_num, any_next _ _ _ _ HY.out j2.out hk2.out, B.out.trans (hw1.mono z)⟩
        case measure => simp [intOf]; omega
    · have hr : Hid (xs.any (fun g => decide (g.name = nm)) = false) := by have := j2.out; rwa [List.take_of_length_le (by omega)] at this
      go_wp2
      go_ret
      exact ⟨_, rfl, by rw [hr.out]; rfl, bel⟩
theorem hasSame_any (v : Value) (xs : List Fn) (nm : ByteArray) (b : Nat) (w : World) (hb : b < w.heap.size) (hc : w.cell? ⟨b, 0, none⟩ = some (.string nm)) (h : ListAt w Fn.cells 3 v xs) : Calls Tryd.prog 88 #[v, .func (.func 87) #[] #[.pointer (some ⟨b, 0, none⟩)]] w fun e w' => e = .returned (.bool (xs.any (fun g => decide (g.name = nm)))) ∧ Below w.heap.size w w' := by
  have HH : Hid (ListAt w Fn.cells 3 v xs) := h
  clear h
  go_enter Tryd.func88, Tryd.ntmps88
  go_wp2_with (go_at_call 115; refine (idxSame_any v xs nm b w hb hc HH.out).mono ?_; rintro e w1 ⟨r, rfl, hr, hw1⟩)
  go_ret
  exact ⟨by rw [← hr]; rfl, hw1⟩
end Go.Proofs.YtechpdfcgimkkaaDoor
