/-
  image.listOf at int, with the reader's two closures that take a number; the closure that takes a table.
-/
import Derived.Test.YtmibbjjfijcgpacWalkNu
namespace Go.Proofs.Ytmibbjjfijcgpac
open Go.RowKit Go.Joins
/-- So many things, one behind the other. -/
def many {σ α : Type} (f : σ → α × σ) : Nat → σ → List α × σ
  | 0, r => ([], r)
  | n + 1, r => ((many f n r).1 ++ [(f (many f n r).2).1], (f (many f n r).2).2)
theorem many_len {σ α : Type} (f : σ → α × σ) (n : Nat) (r : σ) : (many f n r).1.length = n := by
  induction n with
  | zero => rfl
  | succ n ih => simp [many, ih]
theorem Only.rd {g g2 : Nat} {w w' : World} {B : Nat} {r : Rd} (h : Only g2 w w') (hr : RdAt w B g r) (hg : g ≠ g2) (hB : B ≤ g2) : RdAt w' B g r := by
  obtain ⟨⟨a, c, h1, h2, h3⟩, h4, h5⟩ := hr
  refine ⟨⟨a, c, (h.block g hg).trans h1, h.list h2 (fun bb oo n c' he => ?_), h3⟩, h4, h5⟩
  rcases Nat.eq_zero_or_pos r.left.length with q | q
  · cases he; exact Or.inr q
  · obtain ⟨b2, o2, ha, hb⟩ := h3 q
    subst ha
    cases he
    exact Or.inl (by omega)
theorem RdAt.up {w w' : World} {B g : Nat} {r : Rd} (h : RdAt w B g r) (hb : Below w.heap.size w w') : RdAt w' B g r := by
  obtain ⟨⟨a, c, h1, h2, h3⟩, h4, h5⟩ := h
  exact ⟨⟨a, c, (hb.block g (Array.getElem?_eq_some_iff.1 h1).1).trans h1, h2.stays (Nat.le_refl _) hb, h3⟩, h4, h5⟩
theorem RdAt.lt {w : World} {B g : Nat} {r : Rd} (h : RdAt w B g r) : g < w.heap.size := by obtain ⟨⟨a, c, h1, _, _⟩, _, _⟩ := h; exact (Array.getElem?_eq_some_iff.1 h1).1
theorem num2_any (B g gp : Nat) (r : Rd) (w : World) (h : RdAt w B g r) (hp : w.cell? ⟨gp, 0, none⟩ = some (.pointer (some ⟨g, 0, none⟩))) :
    Calls Try.prog 48 #[.pointer (some ⟨gp, 0, none⟩)] w fun e w' => e = .returned (.int .i64 (r.num 2).1) ∧ RdAt w' B g (r.num 2).2 ∧ Only g w w' := by
  have HR : Hid (RdAt w B g r) := h
  clear h
  go_enter Try.func48, Try.ntmps48
  go_wp2_with (go_at_call 42; refine (number_any B g r 2 w HR.out (by decide)).mono ?_; rintro e w1 ⟨rfl, hr1, ho1⟩)
  go_ret
  exact ⟨rfl, hr1, ho1⟩
theorem num8_any (B g gp : Nat) (r : Rd) (w : World) (h : RdAt w B g r) (hp : w.cell? ⟨gp, 0, none⟩ = some (.pointer (some ⟨g, 0, none⟩))) :
    Calls Try.prog 49 #[.pointer (some ⟨gp, 0, none⟩)] w fun e w' => e = .returned (.int .i64 (r.num 8).1) ∧ RdAt w' B g (r.num 8).2 ∧ Only g w w' := by
  have HR : Hid (RdAt w B g r) := h
  clear h
  go_enter Try.func49, Try.ntmps49
  go_wp2_with (go_at_call 42; refine (number_any B g r 8 w HR.out (by decide)).mono ?_; rintro e w1 ⟨rfl, hr1, ho1⟩)
  go_ret
  exact ⟨rfl, hr1, ho1⟩
/-- The row that listOf fills. -/
def liRow (xs : List Int) (n : Nat) : List Value := (xs ++ List.replicate (n - xs.length) 0).map (Value.int .i64)
theorem liRow_set (xs : List Int) (n : Nat) (x : Int) (h : xs.length < n) : (liRow xs n).toArray.setIfInBounds xs.length (.int .i64 x) = (liRow (xs ++ [x]) n).toArray := by
  apply Array.toList_inj.1
  rw [Array.toList_setIfInBounds]
  show (liRow xs n).set xs.length _ = liRow (xs ++ [x]) n
  unfold liRow
  rw [show n - xs.length = (n - (xs ++ [x]).length) + 1 by simp; omega, List.replicate_succ, List.map_append, List.map_cons, List.set_append_right _ _ (by simp)]
  simp
theorem li_made (n : Nat) : madeCells (Value.int .i64 0).cells (n * 1) = (liRow [] n).toArray := by
  apply Array.ext
  · simp [madeCells, liRow]
  · intro i h1 h2
    simp [madeCells, Value.cells, Nat.mod_one, liRow]
set_option maxHeartbeats 2000000 in
theorem listOf2_any (B g gp : Nat) (r : Rd) (n : Nat) (w : World) (h : RdAt w B g r) (hn : n ≤ 65535) (hp : w.cell? ⟨gp, 0, none⟩ = some (.pointer (some ⟨g, 0, none⟩))) (hgp : gp < w.heap.size) (hne : gp ≠ g) :
    Calls Try.prog 47 #[.int .i64 n, .func (.func 48) #[] #[.pointer (some ⟨gp, 0, none⟩)]] w fun e w' =>
      e = .returned (.slice (some ⟨w.heap.size, 0, none⟩) n n) ∧ RdAt w' B g (many (fun r : Rd => r.num 2) n r).2 ∧ w'.heap[w.heap.size]? = some (.cells ((many (fun r : Rd => r.num 2) n r).1.map (Value.int .i64)).toArray 3) ∧ w'.heap.size = w.heap.size + 1 ∧ Only g (w.alloc (.cells ((many (fun r : Rd => r.num 2) n r).1.map (Value.int .i64)).toArray 3)) w' := by
  obtain ⟨i, hi, hz, hs, hb⟩ := info_of inInt
  have hmk := make_wide (P := Try.prog) 25 3 i _ Try.underlying25 hi hz n (by rw [hb]; omega) (by omega) w
  rw [hs, li_made] at hmk
  have HM : Hid _ := hmk
  have HR : Hid (RdAt w B g r) := h
  have hgl := h.lt
  have HGE : Hid (B ≤ g) := h.ge
  clear hmk h
  go_enter Try.func47, Try.ntmps47
  go_wp2_with (first | (at_make; refine wpList_make_run _ rfl (.tmp 7) (.tmp 7) 25 rfl _ _ rfl rfl HM.out ?_))
  go_loopw [11] (fun u wr => ∃ j : Nat, j ≤ n ∧ u = .int .i64 (j : Int) ∧ Hid (RdAt wr B g (many (fun r : Rd => r.num 2) j r).2) ∧ Hid (wr.heap[w.heap.size]? = some (.cells (liRow (many (fun r : Rd => r.num 2) j r).1 n).toArray 3)) ∧ Hid (∀ k, k ≠ g → k ≠ w.heap.size → wr.heap[k]? = w.heap[k]?) ∧ Hid (wr.heap.size = w.heap.size + 1) ∧ Hid (wr.os = w.os ∧ wr.tape = w.tape ∧ wr.output = w.output)) (fun u _ => (n - intOf u).toNat)
  case atStart =>
    refine ⟨0, by omega, rfl, ?_, ?_, ?_, ?_, ⟨rfl, rfl, rfl⟩⟩
    · exact HR.out.up ((Below.refl _ _).alloc (Nat.le_refl _) _)
    · show (w.heap.push _)[w.heap.size]? = _; simp; rfl
    · intro k _ hk
      show (w.heap.push _)[k]? = _
      rw [Array.getElem?_push]; simp [hk]
    · show _ = _; simp
  case round =>
    obtain ⟨j, j1, rfl, hrd, hrow, hoth, hsz, hw⟩ := hrel
    by_cases hj : j < n
    · have hp2 : wr.cell? ⟨gp, 0, none⟩ = some (.pointer (some ⟨g, 0, none⟩)) := (World.cell?_of_block (a := ⟨gp, 0, none⟩) (hoth.out gp hne (by omega))).trans hp
      have hjj : (j : Int) < (n : Int) := by omega
      go_wp2_with fail
      refine (num2_any B g gp _ wr hrd.out hp2).mono ?_
      rintro e w1 ⟨rfl, hr1, ho1⟩
      have hgne : g ≠ w.heap.size := by omega
      have hrow1 := (ho1.block w.heap.size (by omega)).trans hrow.out
      have hml := many_len (fun r : Rd => r.num 2) j r
      obtain ⟨xs, hxs⟩ : ∃ xs, (many (fun r : Rd => r.num 2) j r).1 = xs := ⟨_, rfl⟩
      rw [hxs] at hml hrow1
      subst hml
      obtain ⟨x, hx⟩ : ∃ x, ((many (fun r : Rd => r.num 2) xs.length r).2.num 2).1 = x := ⟨_, rfl⟩
      have hmn : (many (fun r : Rd => r.num 2) (xs.length + 1) r).1 = xs ++ [x] := by rw [many, hxs, ← hx]
      have hmr : (many (fun r : Rd => r.num 2) (xs.length + 1) r).2 = ((many (fun r : Rd => r.num 2) xs.length r).2.num 2).2 := rfl
      have hc1 : ∃ u, w1.cell? ⟨w.heap.size, xs.length, none⟩ = some u := by
        simp only [World.cell?, hrow1, List.getElem?_toArray]
        exact ⟨_, by rw [List.getElem?_eq_getElem (by simp [liRow]; omega)]; rfl⟩
      obtain ⟨u, hu⟩ := hc1
      have hf1 : w1.frozen? ⟨w.heap.size, xs.length, none⟩ = false := by simp [World.frozen?, hrow1]
      have hset := setCell_eq_setRow w1 w.heap.size xs.length _ _ _ (.int .i64 x) hrow1
      rw [liRow_set xs n x hj] at hset
      obtain ⟨W2, hW2⟩ : ∃ W2, w1.setCell ⟨w.heap.size, xs.length, none⟩ (.int .i64 x) = W2 := ⟨_, rfl⟩
      have hon : Only w.heap.size w1 W2 := by rw [← hW2]; exact (Only.refl _ _).set _ _
      have A1 : Hid (RdAt W2 B g (many (fun r : Rd => r.num 2) (xs.length + 1) r).2) := by rw [hmr]; exact hon.rd hr1 hgne (by have := HGE.out; omega)
      have A2 : Hid (W2.heap[w.heap.size]? = some (.cells (liRow (many (fun r : Rd => r.num 2) (xs.length + 1) r).1 n).toArray 3)) := by show _ = _; rw [hmn, ← hW2, hset]; exact setRow_heap _ _ _ _ _ _ hrow1
      have A3 : Hid (∀ k, k ≠ g → k ≠ w.heap.size → W2.heap[k]? = w.heap[k]?) := fun k h1 h2 => (hon.block k h2).trans ((ho1.block k h1).trans (hoth.out k h1 h2))
      have A4 : Hid (W2.heap.size = w.heap.size + 1) := by show _ = _; rw [hon.size, ho1.size]; exact hsz.out
      have A5 : Hid (W2.os = w.os ∧ W2.tape = w.tape ∧ W2.output = w.output) := ⟨hon.os.trans (ho1.os.trans hw.out.1), hon.tape.trans (ho1.tape.trans hw.out.2.1), hon.output.trans (ho1.output.trans hw.out.2.2)⟩
      have HW : Hid _ := hW2
      rw [hx]
      clear hset hon hr1 ho1 hrow1 hmn hmr hW2 hxs hrd hrow hoth hw hp2
      go_wp2
      go_roundw
      case rel => exact ⟨xs.length + 1, by omega, by go_num, by rw [HW.out]; exact A1.out, by rw [HW.out]; exact A2.out, by rw [HW.out]; exact A3.out, by rw [HW.out]; exact A4.out, by rw [HW.out]; exact A5.out⟩
      case measure => simp [intOf]; omega
    · have hjn : j = n := by omega
      subst hjn
      have hml := many_len (fun r : Rd => r.num 2) j r
      have hrw := hrow.out
      have e : liRow (many (fun r : Rd => r.num 2) j r).1 j = (many (fun r : Rd => r.num 2) j r).1.map (Value.int .i64) := by unfold liRow; rw [hml, Nat.sub_self, List.replicate_zero, List.append_nil]
      rw [e] at hrw
      have HRW : Hid _ := hrw
      clear e hml hrw
      go_wp2
      go_ret
      refine ⟨rfl, hrd.out, HRW.out, hsz.out, ⟨hw.out.1, hw.out.2.1, hw.out.2.2, by rw [hsz.out]; simp, fun k hk => ?_⟩⟩
      show _ = (w.heap.push _)[k]?
      by_cases hkk : k = w.heap.size
      · subst hkk; rw [HRW.out]; simp
      · rw [hoth.out k hk hkk, Array.getElem?_push]; simp [hkk]
set_option maxHeartbeats 2000000 in
theorem listOf8_any (B g gp : Nat) (r : Rd) (n : Nat) (w : World) (h : RdAt w B g r) (hn : n ≤ 65535) (hp : w.cell? ⟨gp, 0, none⟩ = some (.pointer (some ⟨g, 0, none⟩))) (hgp : gp < w.heap.size) (hne : gp ≠ g) :
    Calls Try.prog 47 #[.int .i64 n, .func (.func 49) #[] #[.pointer (some ⟨gp, 0, none⟩)]] w fun e w' =>
      e = .returned (.slice (some ⟨w.heap.size, 0, none⟩) n n) ∧ RdAt w' B g (many (fun r : Rd => r.num 8) n r).2 ∧ w'.heap[w.heap.size]? = some (.cells ((many (fun r : Rd => r.num 8) n r).1.map (Value.int .i64)).toArray 3) ∧ w'.heap.size = w.heap.size + 1 ∧ Only g (w.alloc (.cells ((many (fun r : Rd => r.num 8) n r).1.map (Value.int .i64)).toArray 3)) w' := by
  obtain ⟨i, hi, hz, hs, hb⟩ := info_of inInt
  have hmk := make_wide (P := Try.prog) 25 3 i _ Try.underlying25 hi hz n (by rw [hb]; omega) (by omega) w
  rw [hs, li_made] at hmk
  have HM : Hid _ := hmk
  have HR : Hid (RdAt w B g r) := h
  have hgl := h.lt
  have HGE : Hid (B ≤ g) := h.ge
  clear hmk h
  go_enter Try.func47, Try.ntmps47
  go_wp2_with (first | (at_make; refine wpList_make_run _ rfl (.tmp 7) (.tmp 7) 25 rfl _ _ rfl rfl HM.out ?_))
  go_loopw [11] (fun u wr => ∃ j : Nat, j ≤ n ∧ u = .int .i64 (j : Int) ∧ Hid (RdAt wr B g (many (fun r : Rd => r.num 8) j r).2) ∧ Hid (wr.heap[w.heap.size]? = some (.cells (liRow (many (fun r : Rd => r.num 8) j r).1 n).toArray 3)) ∧ Hid (∀ k, k ≠ g → k ≠ w.heap.size → wr.heap[k]? = w.heap[k]?) ∧ Hid (wr.heap.size = w.heap.size + 1) ∧ Hid (wr.os = w.os ∧ wr.tape = w.tape ∧ wr.output = w.output)) (fun u _ => (n - intOf u).toNat)
  case atStart =>
    refine ⟨0, by omega, rfl, ?_, ?_, ?_, ?_, ⟨rfl, rfl, rfl⟩⟩
    · exact HR.out.up ((Below.refl _ _).alloc (Nat.le_refl _) _)
    · show (w.heap.push _)[w.heap.size]? = _; simp; rfl
    · intro k _ hk
      show (w.heap.push _)[k]? = _
      rw [Array.getElem?_push]; simp [hk]
    · show _ = _; simp
  case round =>
    obtain ⟨j, j1, rfl, hrd, hrow, hoth, hsz, hw⟩ := hrel
    by_cases hj : j < n
    · have hp2 : wr.cell? ⟨gp, 0, none⟩ = some (.pointer (some ⟨g, 0, none⟩)) := (World.cell?_of_block (a := ⟨gp, 0, none⟩) (hoth.out gp hne (by omega))).trans hp
      have hjj : (j : Int) < (n : Int) := by omega
      go_wp2_with fail
      refine (num8_any B g gp _ wr hrd.out hp2).mono ?_
      rintro e w1 ⟨rfl, hr1, ho1⟩
      have hgne : g ≠ w.heap.size := by omega
      have hrow1 := (ho1.block w.heap.size (by omega)).trans hrow.out
      have hml := many_len (fun r : Rd => r.num 8) j r
      obtain ⟨xs, hxs⟩ : ∃ xs, (many (fun r : Rd => r.num 8) j r).1 = xs := ⟨_, rfl⟩
      rw [hxs] at hml hrow1
      subst hml
      obtain ⟨x, hx⟩ : ∃ x, ((many (fun r : Rd => r.num 8) xs.length r).2.num 8).1 = x := ⟨_, rfl⟩
      have hmn : (many (fun r : Rd => r.num 8) (xs.length + 1) r).1 = xs ++ [x] := by rw [many, hxs, ← hx]
      have hmr : (many (fun r : Rd => r.num 8) (xs.length + 1) r).2 = ((many (fun r : Rd => r.num 8) xs.length r).2.num 8).2 := rfl
      have hc1 : ∃ u, w1.cell? ⟨w.heap.size, xs.length, none⟩ = some u := by
        simp only [World.cell?, hrow1, List.getElem?_toArray]
        exact ⟨_, by rw [List.getElem?_eq_getElem (by simp [liRow]; omega)]; rfl⟩
      obtain ⟨u, hu⟩ := hc1
      have hf1 : w1.frozen? ⟨w.heap.size, xs.length, none⟩ = false := by simp [World.frozen?, hrow1]
      have hset := setCell_eq_setRow w1 w.heap.size xs.length _ _ _ (.int .i64 x) hrow1
      rw [liRow_set xs n x hj] at hset
      obtain ⟨W2, hW2⟩ : ∃ W2, w1.setCell ⟨w.heap.size, xs.length, none⟩ (.int .i64 x) = W2 := ⟨_, rfl⟩
      have hon : Only w.heap.size w1 W2 := by rw [← hW2]; exact (Only.refl _ _).set _ _
      have A1 : Hid (RdAt W2 B g (many (fun r : Rd => r.num 8) (xs.length + 1) r).2) := by rw [hmr]; exact hon.rd hr1 hgne (by have := HGE.out; omega)
      have A2 : Hid (W2.heap[w.heap.size]? = some (.cells (liRow (many (fun r : Rd => r.num 8) (xs.length + 1) r).1 n).toArray 3)) := by show _ = _; rw [hmn, ← hW2, hset]; exact setRow_heap _ _ _ _ _ _ hrow1
      have A3 : Hid (∀ k, k ≠ g → k ≠ w.heap.size → W2.heap[k]? = w.heap[k]?) := fun k h1 h2 => (hon.block k h2).trans ((ho1.block k h1).trans (hoth.out k h1 h2))
      have A4 : Hid (W2.heap.size = w.heap.size + 1) := by show _ = _; rw [hon.size, ho1.size]; exact hsz.out
      have A5 : Hid (W2.os = w.os ∧ W2.tape = w.tape ∧ W2.output = w.output) := ⟨hon.os.trans (ho1.os.trans hw.out.1), hon.tape.trans (ho1.tape.trans hw.out.2.1), hon.output.trans (ho1.output.trans hw.out.2.2)⟩
      have HW : Hid _ := hW2
      rw [hx]
      clear hset hon hr1 ho1 hrow1 hmn hmr hW2 hxs hrd hrow hoth hw hp2
      go_wp2
      go_roundw
      case rel => exact ⟨xs.length + 1, by omega, by go_num, by rw [HW.out]; exact A1.out, by rw [HW.out]; exact A2.out, by rw [HW.out]; exact A3.out, by rw [HW.out]; exact A4.out, by rw [HW.out]; exact A5.out⟩
      case measure => simp [intOf]; omega
    · have hjn : j = n := by omega
      subst hjn
      have hml := many_len (fun r : Rd => r.num 8) j r
      have hrw := hrow.out
      have e : liRow (many (fun r : Rd => r.num 8) j r).1 j = (many (fun r : Rd => r.num 8) j r).1.map (Value.int .i64) := by unfold liRow; rw [hml, Nat.sub_self, List.replicate_zero, List.append_nil]
      rw [e] at hrw
      have HRW : Hid _ := hrw
      clear e hml hrw
      go_wp2
      go_ret
      refine ⟨rfl, hrd.out, HRW.out, hsz.out, ⟨hw.out.1, hw.out.2.1, hw.out.2.2, by rw [hsz.out]; simp, fun k hk => ?_⟩⟩
      show _ = (w.heap.push _)[k]?
      by_cases hkk : k = w.heap.size
      · subst hkk; rw [HRW.out]; simp
      · rw [hoth.out k hk hkk, Array.getElem?_push]; simp [hkk]
end Go.Proofs.Ytmibbjjfijcgpac
