/-
  image.listOf at api.Line, []int and api.Func, with the reader's closures.
-/
import Derived.Test.YtmibbjjfijcgpacWalkLe
import Derived.Test.YtmibbjjfijcgpacWalkFu
namespace Go.Proofs.Ytmibbjjfijcgpac
open Go.RowKit Go.Joins
/-- The row that listOf fills: the cells of those that are there, then zeros. -/
def lsRow {α : Type} (cells : α → List Value) (z : List Value) (xs : List α) (n : Nat) : List Value := flat cells xs ++ (List.replicate (n - xs.length) z).flatten
theorem lsRow_split {α : Type} {cells : α → List Value} {z : List Value} {xs : List α} {n : Nat} (h : xs.length < n) : lsRow cells z xs n = flat cells xs ++ (z ++ (List.replicate (n - (xs.length + 1)) z).flatten) := by
  unfold lsRow
  rw [show n - xs.length = (n - (xs.length + 1)) + 1 by omega, List.replicate_succ, List.flatten_cons]
theorem lsRow_next {α : Type} {cells : α → List Value} {z : List Value} {xs : List α} {n : Nat} (x : α) : lsRow cells z (xs ++ [x]) n = flat cells xs ++ (cells x ++ (List.replicate (n - (xs.length + 1)) z).flatten) := by
  unfold lsRow flat
  rw [List.flatMap_append, List.length_append]
  simp [List.append_assoc]
theorem set1 (A R : List Value) (z0 c0 : Value) (k : Nat) (hk : A.length = k) : (A ++ ([z0] ++ R)).toArray.setIfInBounds k c0 = (A ++ ([c0] ++ R)).toArray := by
  subst hk; apply Array.toList_inj.1; rw [Array.toList_setIfInBounds]
  show (A ++ ([z0] ++ R)).set A.length c0 = _
  rw [List.set_append_right _ _ (Nat.le_refl _), Nat.sub_self]; rfl
theorem set2 (A R : List Value) (z0 z1 c0 c1 : Value) (k : Nat) (hk : A.length = k) : ((A ++ ([z0, z1] ++ R)).toArray.setIfInBounds k c0).setIfInBounds (k + 1) c1 = (A ++ ([c0, c1] ++ R)).toArray := by
  subst hk; apply Array.toList_inj.1; rw [Array.toList_setIfInBounds, Array.toList_setIfInBounds]
  show ((A ++ ([z0, z1] ++ R)).set A.length c0).set (A.length + 1) c1 = _
  rw [List.set_append_right _ _ (Nat.le_refl _), Nat.sub_self, List.set_append_right _ _ (by omega), show A.length + 1 - A.length = 1 by omega]; rfl
theorem set3 (A R : List Value) (z0 z1 z2 c0 c1 c2 : Value) (k : Nat) (hk : A.length = k) : (((A ++ ([z0, z1, z2] ++ R)).toArray.setIfInBounds k c0).setIfInBounds (k + 1) c1).setIfInBounds (k + 2) c2 = (A ++ ([c0, c1, c2] ++ R)).toArray := by
  subst hk; apply Array.toList_inj.1; rw [Array.toList_setIfInBounds, Array.toList_setIfInBounds, Array.toList_setIfInBounds]
  show (((A ++ ([z0, z1, z2] ++ R)).set A.length c0).set (A.length + 1) c1).set (A.length + 2) c2 = _
  rw [List.set_append_right _ _ (Nat.le_refl _), Nat.sub_self, List.set_append_right _ _ (by omega), show A.length + 1 - A.length = 1 by omega, List.set_append_right _ _ (by omega), show A.length + 2 - A.length = 2 by omega]; rfl
theorem made_flat (z : List Value) (n : Nat) (hz : 0 < z.length) : madeCells z.toArray (n * z.length) = ((List.replicate n z).flatten).toArray := by
  apply Array.ext
  · simp [madeCells]
  · intro i h1 h2
    have hi : i < n * z.length := by simpa [madeCells] using h1
    have key : ∀ (n i : Nat), i < n * z.length → (List.replicate n z).flatten[i]? = z[i % z.length]? := by
      intro n
      induction n with
      | zero => intro i hi; simp at hi
      | succ n ih =>
        intro i hi
        rw [List.replicate_succ, List.flatten_cons]
        rcases Nat.lt_or_ge i z.length with q | q
        · rw [List.getElem?_append_left q, Nat.mod_eq_of_lt q]
        · rw [List.getElem?_append_right q, ih _ (by rw [Nat.succ_mul] at hi; omega), Nat.mod_eq_sub_mod q]
    have hk := key n i hi
    have hm : i % z.length < z.length := Nat.mod_lt _ hz
    rw [List.getElem?_eq_getElem (by simpa using h2), List.getElem?_eq_getElem hm] at hk
    simp [madeCells, hm]
    exact (Option.some.inj hk).symm
set_option maxHeartbeats 2000000 in
theorem listOfLn_any (B g gp : Nat) (r : Rd) (n : Nat) (w : World) (h : RdAt w B g r) (hn : n ≤ 65535) (hp : w.cell? ⟨gp, 0, none⟩ = some (.pointer (some ⟨g, 0, none⟩))) (hgp : gp < w.heap.size) (hne : gp ≠ g) :
    Calls Try.prog 50 #[.int .i64 n, .func (.func 51) #[] #[.pointer (some ⟨gp, 0, none⟩)]] w fun e w' =>
      e = .returned (.slice (some ⟨w.heap.size, 0, none⟩) n n) ∧ RdAt w' B g (many Rd.line n r).2 ∧ w'.heap[w.heap.size]? = some (.cells (flat Ln.cells (many Rd.line n r).1).toArray 42) ∧ FrG g w w' := by
  obtain ⟨i, hi, hz, hs, hb⟩ := info_of inLn
  have hmk := make_wide (P := Try.prog) 26 42 i _ Try.underlying26 hi hz n (by rw [hb]; omega) (by omega) w
  rw [hs, show (Value.agg #[.int .i64 0, .int .i64 0]).cells = ([.int .i64 0, .int .i64 0] : List Value).toArray from rfl, show n * 2 = n * ([.int .i64 0, .int .i64 0] : List Value).length from rfl, made_flat _ _ (by decide)] at hmk
  have HM : Hid _ := hmk
  have HR : Hid (RdAt w B g r) := h
  have hgl := h.lt
  have HGE : Hid (B ≤ g) := h.ge
  clear hmk h
  go_enter Try.func50, Try.ntmps50
  go_wp2_with (first | (at_make; refine wpList_make_run _ rfl (.tmp 7) (.tmp 7) 26 rfl _ _ rfl rfl HM.out ?_))
  go_loopw [11] (fun u wr => ∃ j : Nat, j ≤ n ∧ u = .int .i64 (j : Int) ∧ Hid (RdAt wr B g (many Rd.line j r).2) ∧ Hid (wr.heap[w.heap.size]? = some (.cells (lsRow Ln.cells [.int .i64 0, .int .i64 0] (many Rd.line j r).1 n).toArray 42)) ∧ Hid (FrG g w wr)) (fun u _ => (n - intOf u).toNat)
  case atStart =>
    refine ⟨0, by omega, rfl, HR.out.alloc _, ?_, (FrG.refl g w).alloc _⟩
    show (w.heap.push _)[w.heap.size]? = _; simp; rfl
  case round =>
    obtain ⟨j, j1, rfl, hrd, hrow, hfr⟩ := hrel
    have hlt : w.heap.size < wr.heap.size := (Array.getElem?_eq_some_iff.1 hrow.out).1
    by_cases hj : j < n
    · have hp2 : wr.cell? ⟨gp, 0, none⟩ = some (.pointer (some ⟨g, 0, none⟩)) := (hfr.out.cell hgp hne).trans hp
      have hjj : (j : Int) < (n : Int) := by omega
      go_wp2_with fail
      refine (line_any B g gp _ wr hrd.out hp2 (by omega) hne).mono ?_
      rintro e w1 ⟨rfl, hr1, ho1⟩
      have hgne : w.heap.size ≠ g := by omega
      have hrow1 := (ho1.block w.heap.size hlt hgne).trans hrow.out
      have hml := many_len Rd.line j r
      obtain ⟨xs, hxs⟩ : ∃ xs, (many Rd.line j r).1 = xs := ⟨_, rfl⟩
      rw [hxs] at hml hrow1
      subst hml
      obtain ⟨x, hx⟩ : ∃ x, (many Rd.line xs.length r).2.line.1 = x := ⟨_, rfl⟩
      have hmn : (many Rd.line (xs.length + 1) r).1 = xs ++ [x] := by rw [many, hxs, ← hx]
      have hfl : (flat Ln.cells xs).length = xs.length * 2 := flat_len lcell_len xs
      rw [lsRow_split hj] at hrow1
      have hc : ∀ o, o < 2 → w1.cell? ⟨w.heap.size, xs.length * 2 + o, none⟩ = some (.int .i64 0) := fun o ho => by
        simp only [World.cell?, hrow1, List.getElem?_toArray]
        rw [List.getElem?_append_right (by omega), hfl, show xs.length * 2 + o - xs.length * 2 = o by omega, List.getElem?_append_left (by simpa using ho)]
        match o, ho with
        | 0, _ => rfl
        | 1, _ => rfl
      have c0 := hc 0 (by decide)
      have c1 := hc 1 (by decide)
      have hff : ∀ o, w1.frozen? ⟨w.heap.size, o, none⟩ = false := fun o => by simp [World.frozen?, hrow1]
      have f0 := hff (xs.length * 2)
      have f1 := hff (xs.length * 2 + 1)
      rw [Nat.add_zero] at c0
      obtain ⟨W2, hW2⟩ : ∃ W2, (w1.setCell ⟨w.heap.size, xs.length * 2, none⟩ (.int .i64 x.a)).setCell ⟨w.heap.size, xs.length * 2 + 1, none⟩ (.int .i64 x.n) = W2 := ⟨_, rfl⟩
      have A1 : Hid (RdAt W2 B g (many Rd.line (xs.length + 1) r).2) := by rw [← hW2]; exact (hr1.set (by have := HGE.out; omega) hgne _).set (by have := HGE.out; omega) hgne _
      have A2 : Hid (W2.heap[w.heap.size]? = some (.cells (lsRow Ln.cells [.int .i64 0, .int .i64 0] (many Rd.line (xs.length + 1) r).1 n).toArray 42)) := by
        show _ = _
        rw [hmn, lsRow_next, ← hW2]
        have := heap_setCell_same _ w.heap.size (xs.length * 2 + 1) _ _ (.int .i64 x.n) (heap_setCell_same w1 w.heap.size (xs.length * 2) _ _ (.int .i64 x.a) hrow1)
        rwa [set2 _ _ _ _ _ _ _ hfl] at this
      have A3 : Hid (FrG g w W2) := by rw [← hW2]; exact ((hfr.out.trans ho1).set (Nat.le_refl _) _).set (Nat.le_refl _) _
      have HW : Hid _ := hW2
      rw [hx]
      clear hc hff hr1 ho1 hrow1 hmn hW2 hxs hrd hrow hfr hp2 hfl
      go_wp2
      go_roundw
      case rel => exact ⟨xs.length + 1, by omega, by go_num, by rw [HW.out]; exact A1.out, by rw [HW.out]; exact A2.out, by rw [HW.out]; exact A3.out⟩
      case measure => simp [intOf]; omega
    · have hjn : j = n := by omega
      subst hjn
      have hml := many_len Rd.line j r
      have hrw := hrow.out
      have e : lsRow Ln.cells [.int .i64 0, .int .i64 0] (many Rd.line j r).1 j = flat Ln.cells (many Rd.line j r).1 := by unfold lsRow; rw [hml, Nat.sub_self]; simp
      rw [e] at hrw
      have HRW : Hid _ := hrw
      clear e hml hrw
      go_wp2
      go_ret
      exact ⟨rfl, hrd.out, HRW.out, hfr.out⟩
set_option maxHeartbeats 2000000 in
theorem listOfTb_any (B g gp : Nat) (r : Rd) (n : Nat) (w : World) (h : RdAt w B g r) (hn : n ≤ 65535) (hp : w.cell? ⟨gp, 0, none⟩ = some (.pointer (some ⟨g, 0, none⟩))) (hgp : gp < w.heap.size) (hne : gp ≠ g) :
    Calls Try.prog 45 #[.int .i64 n, .func (.func 46) #[] #[.pointer (some ⟨gp, 0, none⟩)]] w fun e w' =>
      e = .returned (.slice (some ⟨w.heap.size, 0, none⟩) n n) ∧ RdAt w' B g (many Rd.tab n r).2 ∧ FrG g w w' ∧ ∃ us : List Value, us.length = n ∧ w'.heap[w.heap.size]? = some (.cells (flat vcell us).toArray 25) ∧
        ∀ (i : Nat) (u : Value) (t : List Int), us[i]? = some u → (many Rd.tab n r).1[i]? = some t → ∃ bb, u = .slice (some ⟨bb, 0, none⟩) t.length t.length ∧ w.heap.size < bb ∧ w'.heap[bb]? = some (.cells (t.map (Value.int .i64)).toArray 3) := by
  obtain ⟨i, hi, hz, hs, hb⟩ := info_of inInts
  have hmk := make_wide (P := Try.prog) 24 25 i _ Try.underlying24 hi hz n (by rw [hb]; omega) (by omega) w
  rw [hs, show (Value.slice none 0 0).cells = ([.slice none 0 0] : List Value).toArray from rfl, show n * 1 = n * ([.slice none 0 0] : List Value).length from rfl, made_flat _ _ (by decide)] at hmk
  have HM : Hid _ := hmk
  have HR : Hid (RdAt w B g r) := h
  have hgl := h.lt
  have HGE : Hid (B ≤ g) := h.ge
  clear hmk h
  go_enter Try.func45, Try.ntmps45
  go_wp2_with (first | (at_make; refine wpList_make_run _ rfl (.tmp 7) (.tmp 7) 24 rfl _ _ rfl rfl HM.out ?_))
  go_loopw [11] (fun u wr => ∃ (j : Nat) (us : List Value), j ≤ n ∧ u = .int .i64 (j : Int) ∧ Hid (us.length = j) ∧ Hid (RdAt wr B g (many Rd.tab j r).2) ∧ Hid (wr.heap[w.heap.size]? = some (.cells (lsRow vcell [.slice none 0 0] us n).toArray 25)) ∧ Hid (FrG g w wr) ∧
    Hid (∀ (i : Nat) (u : Value) (t : List Int), us[i]? = some u → (many Rd.tab j r).1[i]? = some t → ∃ bb, u = .slice (some ⟨bb, 0, none⟩) t.length t.length ∧ w.heap.size < bb ∧ wr.heap[bb]? = some (.cells (t.map (Value.int .i64)).toArray 3))) (fun u _ => (n - intOf u).toNat)
  case atStart =>
    refine ⟨0, [], by omega, rfl, rfl, HR.out.alloc _, ?_, (FrG.refl g w).alloc _, fun i u t hu => by simp at hu⟩
    show (w.heap.push _)[w.heap.size]? = _
    rw [Array.getElem?_push_size]; simp [lsRow, flat]
  case round =>
    obtain ⟨j, us, j1, rfl, hul, hrd, hrow, hfr, hel⟩ := hrel
    have hlt : w.heap.size < wr.heap.size := (Array.getElem?_eq_some_iff.1 hrow.out).1
    by_cases hj : j < n
    · have hp2 : wr.cell? ⟨gp, 0, none⟩ = some (.pointer (some ⟨g, 0, none⟩)) := (hfr.out.cell hgp hne).trans hp
      have hjj : (j : Int) < (n : Int) := by omega
      go_wp2_with fail
      refine (tab_any B g gp _ wr hrd.out hp2 (by omega) hne).mono ?_
      rintro e w1 ⟨rfl, hr1, hnew, ho1⟩
      have hgne : w.heap.size ≠ g := by omega
      have hrow1 := (ho1.block w.heap.size hlt hgne).trans hrow.out
      have huj := hul.out
      subst huj
      obtain ⟨t, ht⟩ : ∃ t, (many Rd.tab us.length r).2.tab.1 = t := ⟨_, rfl⟩
      have hmn : (many Rd.tab (us.length + 1) r).1 = (many Rd.tab us.length r).1 ++ [t] := by rw [many, ← ht]
      have hml := many_len Rd.tab us.length r
      have hfl : (flat vcell us).length = us.length := by rw [flat_len vcell_len]; omega
      rw [ht] at hnew
      rw [lsRow_split hj] at hrow1
      have c0 : w1.cell? ⟨w.heap.size, us.length, none⟩ = some (.slice none 0 0) := by
        simp only [World.cell?, hrow1, List.getElem?_toArray]
        rw [List.getElem?_append_right (by omega), hfl, Nat.sub_self]; rfl
      have f0 : w1.frozen? ⟨w.heap.size, us.length, none⟩ = false := by simp [World.frozen?, hrow1]
      obtain ⟨W2, hW2⟩ : ∃ W2, w1.setCell ⟨w.heap.size, us.length, none⟩ (.slice (some ⟨wr.heap.size, 0, none⟩) t.length t.length) = W2 := ⟨_, rfl⟩
      have hoth : ∀ k, k ≠ w.heap.size → W2.heap[k]? = w1.heap[k]? := fun k hk => by rw [← hW2]; exact heap_setCell_other _ _ _ _ (by simpa using hk)
      have A1 : Hid (RdAt W2 B g (many Rd.tab (us.length + 1) r).2) := by rw [← hW2]; exact hr1.set (by have := HGE.out; omega) hgne _
      have A2 : Hid (W2.heap[w.heap.size]? = some (.cells (lsRow vcell [.slice none 0 0] (us ++ [.slice (some ⟨wr.heap.size, 0, none⟩) t.length t.length]) n).toArray 25)) := by
        show _ = _
        rw [lsRow_next, ← hW2]
        have := heap_setCell_same w1 w.heap.size us.length _ _ (.slice (some ⟨wr.heap.size, 0, none⟩) t.length t.length) hrow1
        rwa [set1 _ _ _ _ _ hfl] at this
      have A3 : Hid (FrG g w W2) := by rw [← hW2]; exact (hfr.out.trans ho1).set (Nat.le_refl _) _
      have A4 : Hid (∀ (i : Nat) (u : Value) (t' : List Int), (us ++ [.slice (some ⟨wr.heap.size, 0, none⟩) t.length t.length])[i]? = some u → (many Rd.tab (us.length + 1) r).1[i]? = some t' → ∃ bb, u = .slice (some ⟨bb, 0, none⟩) t'.length t'.length ∧ w.heap.size < bb ∧ W2.heap[bb]? = some (.cells (t'.map (Value.int .i64)).toArray 3)) := by
        intro i u t' hu ht'
        rw [hmn] at ht'
        rcases Nat.lt_or_ge i us.length with q | q
        · rw [List.getElem?_append_left q] at hu
          rw [List.getElem?_append_left (by omega)] at ht'
          obtain ⟨bb, hb1, hb2, hb3⟩ := hel.out i u t' hu ht'
          have hbl := (Array.getElem?_eq_some_iff.1 hb3).1
          exact ⟨bb, hb1, hb2, (hoth bb (by omega)).trans ((ho1.block bb hbl (by omega)).trans hb3)⟩
        · have hi : i = us.length := by
            have := (List.getElem?_eq_some_iff.1 hu).1
            simp at this; omega
          subst hi
          rw [List.getElem?_append_right (Nat.le_refl _), Nat.sub_self] at hu
          rw [List.getElem?_append_right (by omega), hml, Nat.sub_self] at ht'
          simp at hu ht'
          subst hu ht'
          exact ⟨wr.heap.size, rfl, hlt, (hoth _ (by omega)).trans hnew⟩
      have HW : Hid _ := hW2
      rw [ht]
      clear hr1 ho1 hrow1 hmn hW2 hrd hrow hfr hp2 hfl hel hoth hnew hul
      go_wp2
      go_roundw
      case rel => exact ⟨us.length + 1, us ++ [.slice (some ⟨wr.heap.size, 0, none⟩) t.length t.length], by omega, by go_num, by show _ = _; simp, by rw [HW.out]; exact A1.out, by rw [HW.out]; exact A2.out, by rw [HW.out]; exact A3.out, by rw [HW.out]; exact A4.out⟩
      case measure => simp [intOf]; omega
    · have hjn : j = n := by omega
      subst hjn
      have hrw := hrow.out
      have e : lsRow vcell [.slice none 0 0] us j = flat vcell us := by unfold lsRow; rw [hul.out, Nat.sub_self]; simp
      rw [e] at hrw
      have HRW : Hid _ := hrw
      clear e hrw
      go_wp2
      go_ret
      exact ⟨rfl, hrd.out, hfr.out, us, hul.out, HRW.out, hel.out⟩
theorem rdFn_size (s : Rd × Int) (h : ∀ x ∈ s.1.left, 0 ≤ x ∧ x ≤ 255) : 0 ≤ (rdFn s).1.size ∧ (rdFn s).1.size ≤ 65535 ∧ (rdFn s).2.2 = s.2 + (rdFn s).1.size :=
  ⟨(num_bd _ (take_left _ _ (take_left s.1 1 h))).2.1, (num_bd _ (take_left _ _ (take_left s.1 1 h))).2.2, rfl⟩
set_option maxHeartbeats 4000000 in
theorem listOfFn_any (B g gp ge : Nat) (r : Rd) (n : Nat) (w : World) (h : RdAt w B g r) (hn : n ≤ 65535) (hp : w.cell? ⟨gp, 0, none⟩ = some (.pointer (some ⟨g, 0, none⟩))) (hgp : gp < w.heap.size) (hne : gp ≠ g) (he : w.heap[ge]? = some (.cells #[.int .i64 0] 3)) (hge : ge ≠ g) (hpe : gp ≠ ge) (hBe : B ≤ ge) :
    Calls Try.prog 43 #[.int .i64 n, .func (.func 44) #[] #[.pointer (some ⟨ge, 0, none⟩), .pointer (some ⟨gp, 0, none⟩)]] w fun e w' =>
      e = .returned (.slice (some ⟨w.heap.size, 0, none⟩) n n) ∧ RdAt w' B g (many rdFn n (r, 0)).2.1 ∧ w'.heap[w.heap.size]? = some (.cells (flat Fn.cells (many rdFn n (r, 0)).1).toArray 46) ∧ Fr2 g ge w w' := by
  obtain ⟨i, hi, hz, hs, hb⟩ := info_of inFn
  have hmk := make_wide (P := Try.prog) 23 46 i _ Try.underlying23 hi hz n (by rw [hb]; omega) (by omega) w
  rw [hs, show (Value.agg #[.string ByteArray.empty, .int .i64 0, .int .i64 0]).cells = ([.string ByteArray.empty, .int .i64 0, .int .i64 0] : List Value).toArray from rfl, show n * 3 = n * ([.string ByteArray.empty, .int .i64 0, .int .i64 0] : List Value).length from rfl, made_flat _ _ (by decide)] at hmk
  have HM : Hid _ := hmk
  have HR : Hid (RdAt w B g r) := h
  have hgl := h.lt
  have hel : ge < w.heap.size := (Array.getElem?_eq_some_iff.1 he).1
  have HGE : Hid (B ≤ g) := h.ge
  have HE : Hid _ := he
  clear hmk h he
  go_enter Try.func43, Try.ntmps43
  go_wp2_with (first | (at_make; refine wpList_make_run _ rfl (.tmp 7) (.tmp 7) 23 rfl _ _ rfl rfl HM.out ?_))
  go_loopw [11] (fun u wr => ∃ j : Nat, j ≤ n ∧ u = .int .i64 (j : Int) ∧ Hid (RdAt wr B g (many rdFn j (r, 0)).2.1) ∧ Hid (wr.heap[w.heap.size]? = some (.cells (lsRow Fn.cells [.string ByteArray.empty, .int .i64 0, .int .i64 0] (many rdFn j (r, 0)).1 n).toArray 46)) ∧ Hid (Fr2 g ge w wr) ∧ Hid (wr.heap[ge]? = some (.cells #[.int .i64 (many rdFn j (r, 0)).2.2] 3)) ∧ Hid (0 ≤ (many rdFn j (r, 0)).2.2 ∧ (many rdFn j (r, 0)).2.2 ≤ j * 65535)) (fun u _ => (n - intOf u).toNat)
  case atStart =>
    refine ⟨0, by omega, rfl, HR.out.alloc _, ?_, ((FrG.refl g w).alloc _).two, ?_, ⟨by simp [many], by simp [many]⟩⟩
    · show (w.heap.push _)[w.heap.size]? = _
      rw [Array.getElem?_push_size]; rfl
    · show (w.heap.push _)[ge]? = _
      rw [Array.getElem?_push_lt hel, ← Array.getElem?_eq_getElem hel]; exact HE.out
  case round =>
    obtain ⟨j, j1, rfl, hrd, hrow, hfr, hend, hbd⟩ := hrel
    have hlt : w.heap.size < wr.heap.size := (Array.getElem?_eq_some_iff.1 hrow.out).1
    by_cases hj : j < n
    · have hp2 : wr.cell? ⟨gp, 0, none⟩ = some (.pointer (some ⟨g, 0, none⟩)) := (World.cell?_of_block (a := ⟨gp, 0, none⟩) (hfr.out.block gp hgp hne hpe)).trans hp
      have hjj : (j : Int) < (n : Int) := by omega
      obtain ⟨u1, u2, u3⟩ := rdFn_size (many rdFn j (r, 0)).2 hrd.out.bytes
      obtain ⟨q1, q2⟩ := hbd.out
      have hb40 : (many rdFn j (r, 0)).2.2 ≤ 1099511627776 := by omega
      have hmn0 : (many rdFn (j + 1) (r, 0)).2.2 = (many rdFn j (r, 0)).2.2 + (rdFn (many rdFn j (r, 0)).2).1.size := u3
      have A5 : Hid (0 ≤ (many rdFn (j + 1) (r, 0)).2.2 ∧ (many rdFn (j + 1) (r, 0)).2.2 ≤ ((j + 1 : Nat) : Int) * 65535) := by rw [hmn0]; constructor <;> omega
      clear u1 u2 u3 hmn0
      have hgpw : gp < wr.heap.size := by omega
      go_wp2_with fail
      refine (fn_any B g gp ge (many rdFn j (r, 0)).2.1 (many rdFn j (r, 0)).2.2 wr hrd.out hp2 hgpw hne hend.out hge hBe q1 hb40).mono ?_
      rintro e w1 ⟨rfl, hr1, hend1, ho1⟩
      have hgne : w.heap.size ≠ g := by omega
      have hrow1 := (ho1.block w.heap.size hlt hgne (by omega)).trans hrow.out
      have hml := many_len rdFn j (r, 0)
      obtain ⟨xs, hxs⟩ : ∃ xs, (many rdFn j (r, 0)).1 = xs := ⟨_, rfl⟩
      rw [hxs] at hml hrow1
      subst hml
      obtain ⟨x, hx⟩ : ∃ x, (rdFn ((many rdFn xs.length (r, 0)).2.1, (many rdFn xs.length (r, 0)).2.2)).1 = x := ⟨_, rfl⟩
      have hmn : (many rdFn (xs.length + 1) (r, 0)).1 = xs ++ [x] := by rw [many, hxs, ← hx]
      have hfl : (flat Fn.cells xs).length = xs.length * 3 := flat_len fcell_len xs
      rw [lsRow_split hj] at hrow1
      have hc : ∀ o, o < 3 → w1.cell? ⟨w.heap.size, xs.length * 3 + o, none⟩ = ([.string ByteArray.empty, .int .i64 0, .int .i64 0] : List Value)[o]? := fun o ho => by
        simp only [World.cell?, hrow1, List.getElem?_toArray]
        rw [List.getElem?_append_right (by omega), hfl, show xs.length * 3 + o - xs.length * 3 = o by omega, List.getElem?_append_left (by simpa using ho)]
        match o, ho with
        | 0, _ => rfl
        | 1, _ => rfl
        | 2, _ => rfl
      have c0 : w1.cell? ⟨w.heap.size, xs.length * 3, none⟩ = some (.string ByteArray.empty) := hc 0 (by decide)
      have c1 : w1.cell? ⟨w.heap.size, xs.length * 3 + 1, none⟩ = some (.int .i64 0) := hc 1 (by decide)
      have c2 : w1.cell? ⟨w.heap.size, xs.length * 3 + 2, none⟩ = some (.int .i64 0) := hc 2 (by decide)
      have hff : ∀ o, w1.frozen? ⟨w.heap.size, o, none⟩ = false := fun o => by simp [World.frozen?, hrow1]
      have f0 := hff (xs.length * 3)
      have f1 := hff (xs.length * 3 + 1)
      have f2 := hff (xs.length * 3 + 2)
      obtain ⟨W2, hW2⟩ : ∃ W2, ((w1.setCell ⟨w.heap.size, xs.length * 3, none⟩ (.string x.name)).setCell ⟨w.heap.size, xs.length * 3 + 1, none⟩ (.int .i64 x.start)).setCell ⟨w.heap.size, xs.length * 3 + 2, none⟩ (.int .i64 x.size) = W2 := ⟨_, rfl⟩
      have hoth : ∀ k, k ≠ w.heap.size → W2.heap[k]? = w1.heap[k]? := fun k hk => by
        rw [← hW2]
        iterate 3 rw [heap_setCell_other _ _ _ _ (by simpa using hk)]
      have A1 : Hid (RdAt W2 B g (many rdFn (xs.length + 1) (r, 0)).2.1) := by rw [← hW2]; exact ((hr1.set (by have := HGE.out; omega) hgne _).set (by have := HGE.out; omega) hgne _).set (by have := HGE.out; omega) hgne _
      have A2 : Hid (W2.heap[w.heap.size]? = some (.cells (lsRow Fn.cells [.string ByteArray.empty, .int .i64 0, .int .i64 0] (many rdFn (xs.length + 1) (r, 0)).1 n).toArray 46)) := by
        show _ = _
        rw [hmn, lsRow_next, ← hW2]
        have := heap_setCell_same _ w.heap.size (xs.length * 3 + 2) _ _ (.int .i64 x.size) (heap_setCell_same _ w.heap.size (xs.length * 3 + 1) _ _ (.int .i64 x.start) (heap_setCell_same w1 w.heap.size (xs.length * 3) _ _ (.string x.name) hrow1))
        rwa [set3 _ _ _ _ _ _ _ _ _ hfl] at this
      have A3 : Hid (Fr2 g ge w W2) := by rw [← hW2]; exact (((hfr.out.trans ho1).set (Or.inl (Nat.le_refl _)) _).set (Or.inl (Nat.le_refl _)) _).set (Or.inl (Nat.le_refl _)) _
      have A4 : Hid (W2.heap[ge]? = some (.cells #[.int .i64 (many rdFn (xs.length + 1) (r, 0)).2.2] 3)) := (hoth ge (by omega)).trans hend1
      have HW : Hid _ := hW2
      rw [hx]
      clear hc hff hr1 ho1 hrow1 hmn hW2 hxs hrd hrow hfr hp2 hfl hend hend1 hoth hbd
      go_wp2
      go_roundw
      case rel => exact ⟨xs.length + 1, by omega, by go_num, by rw [HW.out]; exact A1.out, by rw [HW.out]; exact A2.out, by rw [HW.out]; exact A3.out, by rw [HW.out]; exact A4.out, A5.out⟩
      case measure => simp [intOf]; omega
    · have hjn : j = n := by omega
      subst hjn
      have hml := many_len rdFn j (r, 0)
      have hrw := hrow.out
      have e : lsRow Fn.cells [.string ByteArray.empty, .int .i64 0, .int .i64 0] (many rdFn j (r, 0)).1 j = flat Fn.cells (many rdFn j (r, 0)).1 := by unfold lsRow; rw [hml, Nat.sub_self]; simp
      rw [e] at hrw
      have HRW : Hid _ := hrw
      clear e hml hrw
      go_wp2
      go_ret
      exact ⟨rfl, hrd.out, HRW.out, hfr.out⟩
end Go.Proofs.Ytmibbjjfijcgpac
