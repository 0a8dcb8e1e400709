/-
  The reader's functions: its closure that takes one.
-/
import Derived.Test.YtechpdfcgimkkaaDoorMNCC
import Derived.Test.YtechpdfcgimkkaaDoorWalkSmC
import Derived.Deep.RegionWith
import Derived.Test.YtechpdfcgimkkaaDoorMNAC
namespace Go.Proofs.YtechpdfcgimkkaaDoor
open Go.RowKit Go.Joins
set_option maxRecDepth 100000
/-- A function; where it begins is where the one ahead ends. -/
def rdFn (s : Rd × Int) : Fn × (Rd × Int) :=
  let a := s.1.num 1
  let b := a.2.take a.1.toNat
  let c := b.2.num 2
  (⟨jstr b.1, s.2, c.1⟩, (c.2, s.2 + c.1))
theorem take_left (r : Rd) (n : Nat) (h : ∀ x ∈ r.left, 0 ≤ x ∧ x ≤ 255) : ∀ x ∈ (r.take n).2.left, 0 ≤ x ∧ x ≤ 255 := by
  unfold Rd.take
  split
  · intro x hx; cases hx
  · intro x hx; exact h x (List.mem_of_mem_drop hx)
/-- All that was there is as it was, but for two blocks. -/
structure Fr2 (g g2 : Nat) (w w' : World) : Prop where
  os : w'.os = w.os
  tape : w'.tape = w.tape
  output : w'.output = w.output
  size : w.heap.size ≤ w'.heap.size
  block : ∀ k, k < w.heap.size → k ≠ g → k ≠ g2 → w'.heap[k]? = w.heap[k]?
theorem FrG.two {g g2 : Nat} {w w' : World} (h : FrG g w w') : Fr2 g g2 w w' := ⟨h.os, h.tape, h.output, h.size, fun k hk h1 _ => h.block k hk h1⟩
theorem Fr2.trans {g g2 : Nat} {w w1 w2 : World} (h1 : Fr2 g g2 w w1) (h2 : Fr2 g g2 w1 w2) : Fr2 g g2 w w2 :=
  ⟨h2.os.trans h1.os, h2.tape.trans h1.tape, h2.output.trans h1.output, Nat.le_trans h1.size h2.size, fun k hk h3 h4 => (h2.block k (Nat.lt_of_lt_of_le hk h1.size) h3 h4).trans (h1.block k hk h3 h4)⟩
theorem Fr2.set {g g2 : Nat} {w w1 : World} (h : Fr2 g g2 w w1) {k o : Nat} (hk : w.heap.size ≤ k ∨ k = g2) (u : Value) : Fr2 g g2 w (w1.setCell ⟨k, o, none⟩ u) :=
  ⟨h.os, h.tape, h.output, by rw [World.size_setCell]; exact h.size, fun j hj h1 h2 => (heap_setCell_other _ _ _ _ (by simp; omega)).trans (h.block j hj h1 h2)⟩
theorem RdAt.drew {w : World} {B g : Nat} {r : Rd} (h : RdAt w B g r) : RdAt w.drew B g r := ⟨h.box, h.bytes, h.ge⟩
set_option maxHeartbeats 4000000 in
theorem fn_any (B g gp ge : Nat) (r : Rd) (en : Int) (w : World) (h : RdAt w B g r) (hp : w.cell? ⟨gp, 0, none⟩ = some (.pointer (some ⟨g, 0, none⟩))) (hgp : gp < w.heap.size) (hne : gp ≠ g) (he : w.heap[ge]? = some (.cells #[.int .i64 en] 3)) (hge : ge ≠ g) (hBe : B ≤ ge) (e0 : 0 ≤ en) (e1 : en ≤ 1099511627776) :
    Calls Tryd.prog 78 #[.pointer (some ⟨ge, 0, none⟩), .pointer (some ⟨gp, 0, none⟩)] w fun e w' =>
      e = .returned (.agg #[.string (rdFn (r, en)).1.name, .int .i64 (rdFn (r, en)).1.start, .int .i64 (rdFn (r, en)).1.size]) ∧ RdAt w' B g (rdFn (r, en)).2.1 ∧ w'.heap[ge]? = some (.cells #[.int .i64 (rdFn (r, en)).2.2] 3) ∧ Fr2 g ge w w' := by
  have HR : Hid (RdAt w B g r) := h
  have hgl := h.lt
  have hgB := h.ge
  have hel : ge < w.heap.size := (Array.getElem?_eq_some_iff.1 he).1
  have hec : w.cell? ⟨ge, 0, none⟩ = some (.int .i64 en) := by simp [World.cell?, he]
  have hef : w.frozen? ⟨ge, 0, none⟩ = false := by simp [World.frozen?, he]
  obtain ⟨⟨q1, q2⟩, _⟩ := num_bd r h.bytes
  obtain ⟨n, hn⟩ := Int.eq_ofNat_of_zero_le q1
  have hn2 : n ≤ 255 := by omega
  have HN : Hid ((r.num 1).1 = (n : Int)) := hn
  have HE : Hid _ := he
  clear h q1 q2 hn he
  go_enter Tryd.func78, Tryd.ntmps78
  go_wp2_with fail
  obtain ⟨W, hW⟩ : ∃ W, (w.alloc (.cells #[.string ⟨#[]⟩, .int .i64 0, .int .i64 0] 47)).alloc (.cells #[.string ⟨#[]⟩, .int .i64 en, .int .i64 0] 47) = W := ⟨_, rfl⟩
  have zW : W.heap.size = w.heap.size + 2 := by rw [← hW]; simp
  have bW : Below w.heap.size w W := by rw [← hW]; exact ((Below.refl _ _).alloc (Nat.le_refl _) _).alloc (by simp) _
  have hbf : W.heap[w.heap.size + 1]? = some (.cells #[.string ⟨#[]⟩, .int .i64 en, .int .i64 0] 47) := by
    rw [← hW]; show ((w.heap.push _).push _)[w.heap.size + 1]? = _; rw [show w.heap.size + 1 = (w.heap.push (.cells #[.string ⟨#[]⟩, .int .i64 0, .int .i64 0] 47)).size from (Array.size_push ..).symm]; exact Array.getElem?_push_size
  have hbr : W.heap[w.heap.size]? = some (.cells #[.string ⟨#[]⟩, .int .i64 0, .int .i64 0] 47) := by
    rw [← hW]; show ((w.heap.push _).push _)[w.heap.size]? = _; rw [Array.getElem?_push_lt (by simp), Array.getElem_push_eq]
  have RW : Hid (RdAt W B g r) := HR.out.up bW
  have pW : W.cell? ⟨gp, 0, none⟩ = some (.pointer (some ⟨g, 0, none⟩)) := (bW.cell (p := ⟨gp, 0, none⟩) hgp).trans hp
  have eW : W.heap[ge]? = some (.cells #[.int .i64 en] 3) := (bW.block ge hel).trans HE.out
  have FW : Hid (FrG g w W) := ⟨bW.os, bW.tape, bW.output, bW.size, fun k hk _ => bW.block k hk⟩
  have HZ : Hid (W.heap.size = w.heap.size + 2) := zW
  have HBF : Hid _ := hbf
  have HBR : Hid _ := hbr
  have EW : Hid _ := eW
  rw [hW]
  clear hW zW bW hbf hbr eW hec hef hp
  have PP : Hid (∀ w1, Only g W.drew w1 → w1.cell? ⟨gp, 0, none⟩ = some (.pointer (some ⟨g, 0, none⟩)) ∧ w1.heap[w.heap.size + 1]? = some (.cells #[.string ⟨#[]⟩, .int .i64 en, .int .i64 0] 47) ∧ w1.heap[w.heap.size]? = some (.cells #[.string ⟨#[]⟩, .int .i64 0, .int .i64 0] 47) ∧ w1.heap[ge]? = some (.cells #[.int .i64 en] 3)) := fun w1 h1 =>
    ⟨(World.cell?_of_block (a := ⟨gp, 0, none⟩) (h1.block gp hne)).trans pW, (h1.block _ (by omega)).trans HBF.out, (h1.block _ (by omega)).trans HBR.out, (h1.block _ hge).trans EW.out⟩
  go_region_with
    (first
      | (go_at_call 76; refine (inumber_any B g r 1 _ RW.out.drew (by decide)).mono ?_; rintro e w1 ⟨rfl, hr1, ho1⟩; rw [HN.out]; have p1 := (PP.out w1 ho1).1)
      | (go_at_call 75; refine (take_any B g _ n w1 hr1 (by omega)).mono ?_; rintro e w2 ⟨v2, rfl, hr2, hl2, _, ho2⟩; obtain ⟨av, kv, rfl, _⟩ := hl2.form; have p2 := (PP.out w2 (ho1.trans ho2)).1; have b2 := (PP.out w2 (ho1.trans ho2)).2.1; have cv := conv_list hl2; have c0 : w2.cell? ⟨w.heap.size + 1, 0, none⟩ = some (.string ⟨#[]⟩) := (by simp [World.cell?, b2]); have f0 : w2.frozen? ⟨w.heap.size + 1, 0, none⟩ = false := (by simp [World.frozen?, b2])))
  all_goals
    obtain ⟨bs, hbs⟩ : ∃ bs, ((r.num 1).2.take n).1 = bs := ⟨_, rfl⟩
    have o2 := ho1.trans ho2
    obtain ⟨_, _, rb2, eb2⟩ := PP.out w2 o2
    obtain ⟨W3, hW3⟩ : ∃ W3, w2.setCell ⟨w.heap.size + 1, 0, none⟩ (.string (jstr bs)) = W3 := ⟨_, rfl⟩
    have hz2 : w2.heap.size = W.heap.size := o2.size
    have gn1 : w.heap.size + 1 ≠ g := by omega
    have R3 : Hid (RdAt W3 B g ((r.num 1).2.take n).2) := by rw [← hW3]; exact hr2.set (by omega) gn1 _
    have on3 : Only (w.heap.size + 1) w2 W3 := by rw [← hW3]; exact (Only.refl _ _).set _ _
    have bf3 : W3.heap[w.heap.size + 1]? = some (.cells #[.string (jstr bs), .int .i64 en, .int .i64 0] 47) := by rw [← hW3]; exact heap_setCell_same w2 _ 0 _ _ _ b2
    have br3 := (on3.block w.heap.size (by omega)).trans rb2
    have be3 := (on3.block ge (by omega)).trans eb2
    have F3 : Hid (FrG g w W3) := by rw [← hW3]; exact (FW.out.trans (FrG.trans (FrG.refl g W).drew o2.fr)).set (by omega) _
    have p3 : W3.cell? ⟨gp, 0, none⟩ = some (.pointer (some ⟨g, 0, none⟩)) := (World.cell?_of_block (a := ⟨gp, 0, none⟩) (on3.block gp (by omega))).trans p2
    have z3 : W3.heap.size = w.heap.size + 2 := by rw [on3.size, hz2, HZ.out]
    obtain ⟨_, ⟨q1, q2⟩⟩ := num_bd _ (take_left _ n (take_left r 1 HR.out.bytes))
    have Q : Hid (0 ≤ (((r.num 1).2.take n).2.num 2).1 ∧ (((r.num 1).2.take n).2.num 2).1 ≤ 65535) := ⟨q1, q2⟩
    have BF3 : Hid _ := bf3
    have BR3 : Hid _ := br3
    have BE3 : Hid _ := be3
    have Z3 : Hid _ := z3
    have HBS : Hid _ := hbs
    rw [hbs]
    rw [hW3]
    clear hr1 ho1 hr2 hl2 ho2 p1 p2 b2 cv c0 f0 o2 rb2 eb2 hW3 hz2 on3 bf3 br3 be3 z3 q1 q2 hbs pW
    go_wp2_with fail
    refine (inumber_any B g _ 2 W3 R3.out (by decide)).mono ?_
    rintro e w4 ⟨rfl, hr4, ho4⟩
    obtain ⟨sz, hsz⟩ : ∃ sz, (((r.num 1).2.take n).2.num 2).1 = sz := ⟨_, rfl⟩
    obtain ⟨q1, q2⟩ := Q.out
    rw [hsz] at q1 q2
    rw [hsz]
    have bf4 := (ho4.block (w.heap.size + 1) (by omega)).trans BF3.out
    have br4 := (ho4.block w.heap.size (by omega)).trans BR3.out
    have be4 := (ho4.block ge hge).trans BE3.out
    have hfn : rdFn (r, en) = (⟨jstr bs, en, sz⟩, ((((r.num 1).2.take n).2.num 2).2, en + sz)) := by
      unfold rdFn
      simp only []
      rw [HN.out, Int.toNat_natCast, HBS.out, hsz]
    have a0 : w4.cell? ⟨w.heap.size + 1, 0, none⟩ = some (.string (jstr bs)) := by simp [World.cell?, bf4]
    have a1 : w4.cell? ⟨w.heap.size + 1, 1, none⟩ = some (.int .i64 en) := by simp [World.cell?, bf4]
    have a2 : w4.cell? ⟨w.heap.size + 1, 2, none⟩ = some (.int .i64 0) := by simp [World.cell?, bf4]
    have g2 : w4.frozen? ⟨w.heap.size + 1, 2, none⟩ = false := by simp [World.frozen?, bf4]
    have c0 : w4.cell? ⟨w.heap.size, 0, none⟩ = some (.string ⟨#[]⟩) := by simp [World.cell?, br4]
    have c1 : w4.cell? ⟨w.heap.size, 1, none⟩ = some (.int .i64 0) := by simp [World.cell?, br4]
    have c2 : w4.cell? ⟨w.heap.size, 2, none⟩ = some (.int .i64 0) := by simp [World.cell?, br4]
    have g3 : ∀ o, w4.frozen? ⟨w.heap.size, o, none⟩ = false := fun o => by simp [World.frozen?, br4]
    have g30 := g3 0; have g31 := g3 1; have g32 := g3 2
    have d0 : w4.cell? ⟨ge, 0, none⟩ = some (.int .i64 en) := by simp [World.cell?, be4]
    have g4 : w4.frozen? ⟨ge, 0, none⟩ = false := by simp [World.frozen?, be4]
    have hs4 : w4.heap.size = w.heap.size + 2 := by rw [ho4.size, Z3.out]
    have nge1 : ¬ ge = w.heap.size + 1 := by omega
    have nge0 : ¬ ge = w.heap.size := by omega
    have HS4 : Hid _ := hs4
    have HFN : Hid _ := hfn
    have HR4 : Hid _ := hr4
    have HO4 : Hid _ := ho4
    have BE4 : Hid _ := be4
    clear g3 hfn hr4 ho4 bf4 br4 be4 hs4 hsz
    have E4 : Hid ((((((w4.setCell ⟨w.heap.size + 1, 2, none⟩ (.int .i64 sz)).setCell ⟨ge, 0, none⟩ (.int .i64 (en + sz))).setCell ⟨w.heap.size, 0, none⟩ (.string (jstr bs))).setCell ⟨w.heap.size, 1, none⟩ (.int .i64 en)).setCell ⟨w.heap.size, 2, none⟩ (.int .i64 sz)).heap[ge]? = some (.cells #[.int .i64 (en + sz)] 3)) := by
      show _ = _
      rw [heap_setCell_other _ _ _ _ (by simpa using nge0), heap_setCell_other _ _ _ _ (by simpa using nge0), heap_setCell_other _ _ _ _ (by simpa using nge0)]
      exact heap_setCell_same _ ge 0 _ _ _ ((heap_setCell_other _ _ _ _ (by simpa using nge1)).trans BE4.out)
    have gn0 : w.heap.size ≠ g := by omega
    have gn1' : w.heap.size + 1 ≠ g := by omega
    have R5 : Hid (RdAt (((((w4.setCell ⟨w.heap.size + 1, 2, none⟩ (.int .i64 sz)).setCell ⟨ge, 0, none⟩ (.int .i64 (en + sz))).setCell ⟨w.heap.size, 0, none⟩ (.string (jstr bs))).setCell ⟨w.heap.size, 1, none⟩ (.int .i64 en)).setCell ⟨w.heap.size, 2, none⟩ (.int .i64 sz)) B g _) := ((((HR4.out.set (by omega) gn1' _).set hBe hge _).set (by omega) gn0 _).set (by omega) gn0 _).set (by omega) gn0 _
    have F5 : Hid (Fr2 g ge w (((((w4.setCell ⟨w.heap.size + 1, 2, none⟩ (.int .i64 sz)).setCell ⟨ge, 0, none⟩ (.int .i64 (en + sz))).setCell ⟨w.heap.size, 0, none⟩ (.string (jstr bs))).setCell ⟨w.heap.size, 1, none⟩ (.int .i64 en)).setCell ⟨w.heap.size, 2, none⟩ (.int .i64 sz))) := (((((F3.out.trans HO4.out.fr).two.set (Or.inl (by omega)) _).set (Or.inr rfl) _).set (Or.inl (by omega)) _).set (Or.inl (by omega)) _).set (Or.inl (by omega)) _
    go_wp2_with fail
    exact bodyPost_ret (v := .agg #[.string (jstr bs), .int .i64 en, .int .i64 sz]) (by simp [results, Tryd.results78, go_sem, c0, c1, c2]) rfl ⟨by rw [HFN.out], by rw [HFN.out]; exact R5.out, by rw [HFN.out]; exact E4.out, F5.out⟩
end Go.Proofs.YtechpdfcgimkkaaDoor
/-
  image.listOf at api.Line, []int and api.Func, with the reader's closures.
-/
namespace Go.Proofs.YtechpdfcgimkkaaDoor
open Go.RowKit Go.Joins
set_option maxRecDepth 100000
/-- The row that listOf fills: the cells of those that are there, then zeros. -/
def lsRow {α : Type} (cells : α → List Value) (z : List Value) (xs : List α) (n : Nat) : List Value := flat cells xs ++ (List.replicate (n - xs.length) z).flatten
theorem lsRow_split {α : Type} {cells : α → List Value} {z : List Value} {xs : List α} {n : Nat} (h : xs.length < n) : lsRow cells z xs n = flat cells xs ++ (z ++ (List.replicate (n - (xs.length + 1)) z).flatten) := by
  unfold lsRow
  rw [show n - xs.length = (n - (xs.length + 1)) + 1 by omega, List.replicate_succ, List.flatten_cons]
theorem lsRow_next {α : Type} {cells : α → List Value} {z : List Value} {xs : List α} {n : Nat} (x : α) : lsRow cells z (xs ++ [x]) n = flat cells xs ++ (cells x ++ (List.replicate (n - (xs.length + 1)) z).flatten) := by
  unfold lsRow flat
  rw [List.flatMap_append, List.length_append]
  simp [List.append_assoc]
theorem set1 (A R : List Value) (z0 c0 : Value) (k : Nat) (hk : A.length = k) : (A ++ ([z0] ++ R)).toArray.setIfInBounds k c0 = (A ++ ([c0] ++ R)).toArray := by
  subst hk; apply Array.toList_inj.1; rw [Array.toList_setIfInBounds]
  show (A ++ ([z0] ++ R)).set A.length c0 = _
  rw [List.set_append_right _ _ (Nat.le_refl _), Nat.sub_self]; rfl
theorem set2 (A R : List Value) (z0 z1 c0 c1 : Value) (k : Nat) (hk : A.length = k) : ((A ++ ([z0, z1] ++ R)).toArray.setIfInBounds k c0).setIfInBounds (k + 1) c1 = (A ++ ([c0, c1] ++ R)).toArray := by
  subst hk; apply Array.toList_inj.1; rw [Array.toList_setIfInBounds, Array.toList_setIfInBounds]
  show ((A ++ ([z0, z1] ++ R)).set A.length c0).set (A.length + 1) c1 = _
  rw [List.set_append_right _ _ (Nat.le_refl _), Nat.sub_self, List.set_append_right _ _ (by omega), show A.length + 1 - A.length = 1 by omega]; rfl
theorem set3 (A R : List Value) (z0 z1 z2 c0 c1 c2 : Value) (k : Nat) (hk : A.length = k) : (((A ++ ([z0, z1, z2] ++ R)).toArray.setIfInBounds k c0).setIfInBounds (k + 1) c1).setIfInBounds (k + 2) c2 = (A ++ ([c0, c1, c2] ++ R)).toArray := by
  subst hk; apply Array.toList_inj.1; rw [Array.toList_setIfInBounds, Array.toList_setIfInBounds, Array.toList_setIfInBounds]
  show (((A ++ ([z0, z1, z2] ++ R)).set A.length c0).set (A.length + 1) c1).set (A.length + 2) c2 = _
  rw [List.set_append_right _ _ (Nat.le_refl _), Nat.sub_self, List.set_append_right _ _ (by omega), show A.length + 1 - A.length = 1 by omega, List.set_append_right _ _ (by omega), show A.length + 2 - A.length = 2 by omega]; rfl
theorem made_flat (z : List Value) (n : Nat) (hz : 0 < z.length) : madeCells z.toArray (n * z.length) = ((List.replicate n z).flatten).toArray := by
  apply Array.ext
  · simp [madeCells]
  · intro i h1 h2
    have hi : i < n * z.length := by simpa [madeCells] using h1
    have key : ∀ (n i : Nat), i < n * z.length → (List.replicate n z).flatten[i]? = z[i % z.length]? := by
      intro n
      induction n with
      | zero => intro i hi; simp at hi
      | succ n ih =>
        intro i hi
        rw [List.replicate_succ, List.flatten_cons]
        rcases Nat.lt_or_ge i z.length with q | q
        · rw [List.getElem?_append_left q, Nat.mod_eq_of_lt q]
        · rw [List.getElem?_append_right q, ih _ (by rw [Nat.succ_mul] at hi; omega), Nat.mod_eq_sub_mod q]
    have hk := key n i hi
    have hm : i % z.length < z.length := Nat.mod_lt _ hz
    rw [List.getElem?_eq_getElem (by simpa using h2), List.getElem?_eq_getElem hm] at hk
    simp [madeCells, hm]
    exact (Option.some.inj hk).symm
set_option maxHeartbeats 2000000 in
theorem listOfLn_any (B g gp : Nat) (r : Rd) (n : Nat) (w : World) (h : RdAt w B g r) (hn : n ≤ 65535) (hp : w.cell? ⟨gp, 0, none⟩ = some (.pointer (some ⟨g, 0, none⟩))) (hgp : gp < w.heap.size) (hne : gp ≠ g) :
    Calls Tryd.prog 84 #[.int .i64 n, .func (.func 85) #[] #[.pointer (some ⟨gp, 0, none⟩)]] w fun e w' =>
      e = .returned (.slice (some ⟨w.heap.size, 0, none⟩) n n) ∧ RdAt w' B g (many Rd.line n r).2 ∧ w'.heap[w.heap.size]? = some (.cells (flat Ln.cells (many Rd.line n r).1).toArray 43) ∧ FrG g w w' := by
  obtain ⟨i, hi, hz, hs, hb⟩ := info_of inLn
  have hmk := make_wide (P := Tryd.prog) 27 43 i _ Tryd.underlying27 hi hz n (by rw [hb]; omega) (by omega) w
  rw [hs, show (Value.agg #[.int .i64 0, .int .i64 0]).cells = ([.int .i64 0, .int .i64 0] : List Value).toArray from rfl, show n * 2 = n * ([.int .i64 0, .int .i64 0] : List Value).length from rfl, made_flat _ _ (by decide)] at hmk
  have HM : Hid _ := hmk
  have HR : Hid (RdAt w B g r) := h
  have hgl := h.lt
  have HGE : Hid (B ≤ g) := h.ge
  clear hmk h
  go_enter Tryd.func84, Tryd.ntmps84
  go_wp2_with (first | (at_make; refine wpList_make_run _ rfl (.tmp 7) (.tmp 7) 27 rfl _ _ rfl rfl HM.out ?_))
  go_loopw [11] (fun u wr => ∃ j : Nat, j ≤ n ∧ u = .int .i64 (j : Int) ∧ Hid (RdAt wr B g (many Rd.line j r).2) ∧ Hid (wr.heap[w.heap.size]? = some (.cells (lsRow Ln.cells [.int .i64 0, .int .i64 0] (many Rd.line j r).1 n).toArray 43)) ∧ Hid (FrG g w wr)) (fun u _ => (n - intOf u).toNat)
  case atStart =>
    refine ⟨0, by omega, rfl, HR.out.alloc _, ?_, (FrG.refl g w).alloc _⟩
    show (w.heap.push _)[w.heap.size]? = _; simp; rfl
  case round =>
    obtain ⟨j, j1, rfl, hrd, hrow, hfr⟩ := hrel
    have hlt : w.heap.size < wr.heap.size := (Array.getElem?_eq_some_iff.1 hrow.out).1
    by_cases hj : j < n
    · have hp2 : wr.cell? ⟨gp, 0, none⟩ = some (.pointer (some ⟨g, 0, none⟩)) := (hfr.out.cell hgp hne).trans hp
      have hjj : (j : Int) < (n : Int) := by omega
      go_wp2_with fail
      refine (line_any B g gp _ wr hrd.out hp2 (by omega) hne).mono ?_
      rintro e w1 ⟨rfl, hr1, ho1⟩
      have hgne : w.heap.size ≠ g := by omega
      have hrow1 := (ho1.block w.heap.size hlt hgne).trans hrow.out
      have hml := many_len Rd.line j r
      obtain ⟨xs, hxs⟩ : ∃ xs, (many Rd.line j r).1 = xs := ⟨_, rfl⟩
      rw [hxs] at hml hrow1
      subst hml
      obtain ⟨x, hx⟩ : ∃ x, (many Rd.line xs.length r).2.line.1 = x := ⟨_, rfl⟩
      have hmn : (many Rd.line (xs.length + 1) r).1 = xs ++ [x] := by rw [many, hxs, ← hx]
      have hfl : (flat Ln.cells xs).length = xs.length * 2 := flat_len lcell_len xs
      rw [lsRow_split hj] at hrow1
      have hc : ∀ o, o < 2 → w1.cell? ⟨w.heap.size, xs.length * 2 + o, none⟩ = some (.int .i64 0) := fun o ho => by
        simp only [World.cell?, hrow1, List.getElem?_toArray]
        rw [List.getElem?_append_right (by omega), hfl, show xs.length * 2 + o - xs.length * 2 = o by omega, List.getElem?_append_left (by simpa using ho)]
        match o, ho with
        | 0, _ => rfl
        | 1, _ => rfl
      have c0 := hc 0 (by decide)
      have c1 := hc 1 (by decide)
      have hff : ∀ o, w1.frozen? ⟨w.heap.size, o, none⟩ = false := fun o => by simp [World.frozen?, hrow1]
      have f0 := hff (xs.length * 2)
      have f1 := hff (xs.length * 2 + 1)
      rw [Nat.add_zero] at c0
      obtain ⟨W2, hW2⟩ : ∃ W2, (w1.setCell ⟨w.heap.size, xs.length * 2, none⟩ (.int .i64 x.a)).setCell ⟨w.heap.size, xs.length * 2 + 1, none⟩ (.int .i64 x.n) = W2 := ⟨_, rfl⟩
      have A1 : Hid (RdAt W2 B g (many Rd.line (xs.length + 1) r).2) := by rw [← hW2]; exact (hr1.set (by have := HGE.out; omega) hgne _).set (by have := HGE.out; omega) hgne _
      have A2 : Hid (W2.heap[w.heap.size]? = some (.cells (lsRow Ln.cells [.int .i64 0, .int .i64 0] (many Rd.line (xs.length + 1) r).1 n).toArray 43)) := by
        show _ = _
        rw [hmn, lsRow_next, ← hW2]
        have := heap_setCell_same _ w.heap.size (xs.length * 2 + 1) _ _ (.int .i64 x.n) (heap_setCell_same w1 w.heap.size (xs.length * 2) _ _ (.int .i64 x.a) hrow1)
        rwa [set2 _ _ _ _ _ _ _ hfl] at this
      have A3 : Hid (FrG g w W2) := by rw [← hW2]; exact ((hfr.out.trans ho1).set (Nat.le_refl _) _).set (Nat.le_refl _) _
      have HW : Hid _ := hW2
      rw [hx]
      clear hc hff hr1 ho1 hrow1 hmn hW2 hxs hrd hrow hfr hp2 hfl
      go_wp2
      go_roundw
      case rel => exact ⟨xs.length + 1, by omega, by go_num, by rw [HW.out]; exact A1.out, by rw [HW.out]; exact A2.out, by rw [HW.out]; exact A3.out⟩
      case measure => simp [intOf]; omega
    · have hjn : j = n := by omega
      subst hjn
      have hml := many_len Rd.line j r
      have hrw := hrow.out
      have e : lsRow Ln.cells [.int .i64 0, .int .i64 0] (many Rd.line j r).1 j = flat Ln.cells (many Rd.line j r).1 := by unfold lsRow; rw [hml, Nat.sub_self]; simp
      rw [e] at hrw
      have HRW : Hid _ := hrw
      clear e hml hrw
      go_wp2
      go_ret
      exact ⟨rfl, hrd.out, HRW.out, hfr.out⟩
set_option maxHeartbeats 2000000 in
theorem listOfTb_any (B g gp : Nat) (r : Rd) (n : Nat) (w : World) (h : RdAt w B g r) (hn : n ≤ 65535) (hp : w.cell? ⟨gp, 0, none⟩ = some (.pointer (some ⟨g, 0, none⟩))) (hgp : gp < w.heap.size) (hne : gp ≠ g) :
    Calls Tryd.prog 79 #[.int .i64 n, .func (.func 80) #[] #[.pointer (some ⟨gp, 0, none⟩)]] w fun e w' =>
      e = .returned (.slice (some ⟨w.heap.size, 0, none⟩) n n) ∧ RdAt w' B g (many Rd.tab n r).2 ∧ FrG g w w' ∧ ∃ us : List Value, us.length = n ∧ w'.heap[w.heap.size]? = some (.cells (flat vcell us).toArray 26) ∧
        ∀ (i : Nat) (u : Value) (t : List Int), us[i]? = some u → (many Rd.tab n r).1[i]? = some t → ∃ bb, u = .slice (some ⟨bb, 0, none⟩) t.length t.length ∧ w.heap.size < bb ∧ w'.heap[bb]? = some (.cells (t.map (Value.int .i64)).toArray 3) := by
  obtain ⟨i, hi, hz, hs, hb⟩ := info_of inInts
  have hmk := make_wide (P := Tryd.prog) 25 26 i _ Tryd.underlying25 hi hz n (by rw [hb]; omega) (by omega) w
  rw [hs, show (Value.slice none 0 0).cells = ([.slice none 0 0] : List Value).toArray from rfl, show n * 1 = n * ([.slice none 0 0] : List Value).length from rfl, made_flat _ _ (by decide)] at hmk
  have HM : Hid _ := hmk
  have HR : Hid (RdAt w B g r) := h
  have hgl := h.lt
  have HGE : Hid (B ≤ g) := h.ge
  clear hmk h
  go_enter Tryd.func79, Tryd.ntmps79
  go_wp2_with (first | (at_make; refine wpList_make_run _ rfl (.tmp 7) (.tmp 7) 25 rfl _ _ rfl rfl HM.out ?_))
  go_loopw [11] (fun u wr => ∃ (j : Nat) (us : List Value), j ≤ n ∧ u = .int .i64 (j : Int) ∧ Hid (us.length = j) ∧ Hid (RdAt wr B g (many Rd.tab j r).2) ∧ Hid (wr.heap[w.heap.size]? = some (.cells (lsRow vcell [.slice none 0 0] us n).toArray 26)) ∧ Hid (FrG g w wr) ∧
    Hid (∀ (i : Nat) (u : Value) (t : List Int), us[i]? = some u → (many Rd.tab j r).1[i]? = some t → ∃ bb, u = .slice (some ⟨bb, 0, none⟩) t.length t.length ∧ w.heap.size < bb ∧ wr.heap[bb]? = some (.cells (t.map (Value.int .i64)).toArray 3))) (fun u _ => (n - intOf u).toNat)
  case atStart =>
    refine ⟨0, [], by omega, rfl, rfl, HR.out.alloc _, ?_, (FrG.refl g w).alloc _, fun i u t hu => by simp at hu⟩
    show (w.heap.push _)[w.heap.size]? = _
    rw [Array.getElem?_push_size]; simp [lsRow, flat]
  case round =>
    obtain ⟨j, us, j1, rfl, hul, hrd, hrow, hfr, hel⟩ := hrel
    have hlt : w.heap.size < wr.heap.size := (Array.getElem?_eq_some_iff.1 hrow.out).1
    by_cases hj : j < n
    · have hp2 : wr.cell? ⟨gp, 0, none⟩ = some (.pointer (some ⟨g, 0, none⟩)) := (hfr.out.cell hgp hne).trans hp
      have hjj : (j : Int) < (n : Int) := by omega
      go_wp2_with fail
      refine (tab_any B g gp _ wr hrd.out hp2 (by omega) hne).mono ?_
      rintro e w1 ⟨rfl, hr1, hnew, ho1⟩
      have hgne : w.heap.size ≠ g := by omega
      have hrow1 := (ho1.block w.heap.size hlt hgne).trans hrow.out
      have huj := hul.out
      subst huj
      obtain ⟨t, ht⟩ : ∃ t, (many Rd.tab us.length r).2.tab.1 = t := ⟨_, rfl⟩
      have hmn : (many Rd.tab (us.length + 1) r).1 = (many Rd.tab us.length r).1 ++ [t] := by rw [many, ← ht]
      have hml := many_len Rd.tab us.length r
      have hfl : (flat vcell us).length = us.length := by rw [flat_len vcell_len]; omega
      rw [ht] at hnew
      rw [lsRow_split hj] at hrow1
      have c0 : w1.cell? ⟨w.heap.size, us.length, none⟩ = some (.slice none 0 0) := by
        simp only [World.cell?, hrow1, List.getElem?_toArray]
        rw [List.getElem?_append_right (by omega), hfl, Nat.sub_self]; rfl
      have f0 : w1.frozen? ⟨w.heap.size, us.length, none⟩ = false := by simp [World.frozen?, hrow1]
      obtain ⟨W2, hW2⟩ : ∃ W2, w1.setCell ⟨w.heap.size, us.length, none⟩ (.slice (some ⟨wr.heap.size, 0, none⟩) t.length t.length) = W2 := ⟨_, rfl⟩
      have hoth : ∀ k, k ≠ w.heap.size → W2.heap[k]? = w1.heap[k]? := fun k hk => by rw [← hW2]; exact heap_setCell_other _ _ _ _ (by simpa using hk)
      have A1 : Hid (RdAt W2 B g (many Rd.tab (us.length + 1) r).2) := by rw [← hW2]; exact hr1.set (by have := HGE.out; omega) hgne _
      have A2 : Hid (W2.heap[w.heap.size]? = some (.cells (lsRow vcell [.slice none 0 0] (us ++ [.slice (some ⟨wr.heap.size, 0, none⟩) t.length t.length]) n).toArray 26)) := by
        show _ = _
        rw [lsRow_next, ← hW2]
        have := heap_setCell_same w1 w.heap.size us.length _ _ (.slice (some ⟨wr.heap.size, 0, none⟩) t.length t.length) hrow1
        rwa [set1 _ _ _ _ _ hfl] at this
      have A3 : Hid (FrG g w W2) := by rw [← hW2]; exact (hfr.out.trans ho1).set (Nat.le_refl _) _
      have A4 : Hid (∀ (i : Nat) (u : Value) (t' : List Int), (us ++ [.slice (some ⟨wr.heap.size, 0, none⟩) t.length t.length])[i]? = some u → (many Rd.tab (us.length + 1) r).1[i]? = some t' → ∃ bb, u = .slice (some ⟨bb, 0, none⟩) t'.length t'.length ∧ w.heap.size < bb ∧ W2.heap[bb]? = some (.cells (t'.map (Value.int .i64)).toArray 3)) := by
        intro i u t' hu ht'
        rw [hmn] at ht'
        rcases Nat.lt_or_ge i us.length with q | q
        · rw [List.getElem?_append_left q] at hu
          rw [List.getElem?_append_left (by omega)] at ht'
          obtain ⟨bb, hb1, hb2, hb3⟩ := hel.out i u t' hu ht'
          have hbl := (Array.getElem?_eq_some_iff.1 hb3).1
          exact ⟨bb, hb1, hb2, (hoth bb (by omega)).trans ((ho1.block bb hbl (by omega)).trans hb3)⟩
        · have hi : i = us.length := by
            have := (List.getElem?_eq_some_iff.1 hu).1
            simp at this; omega
          subst hi
          rw [List.getElem?_append_right (Nat.le_refl _), Nat.sub_self] at hu
          rw [List.getElem?_append_right (by omega), hml, Nat.sub_self] at ht'
          simp at hu ht'
          subst hu ht'
          exact ⟨wr.heap.size, rfl, hlt, (hoth _ (by omega)).trans hnew⟩
      have HW : Hid _ := hW2
      rw [ht]
      clear hr1 ho1 hrow1 hmn hW2 hrd hrow hfr hp2 hfl hel hoth hnew hul
      go_wp2
      go_roundw
      case rel => exact ⟨us.length + 1, us ++ [.slice (some ⟨wr.heap.size, 0, none⟩) t.length t.length], by omega, by go_num, by show _ = _; simp, by rw [HW.out]; exact A1.out, by rw [HW.out]; exact A2.out, by rw [HW.out]; exact A3.out, by rw [HW.out]; exact A4.out⟩
      case measure => simp [intOf]; omega
    · have hjn : j = n := by omega
      subst hjn
      have hrw := hrow.out
      have e : lsRow vcell [.slice none 0 0] us j = flat vcell us := by unfold lsRow; rw [hul.out, Nat.sub_self]; simp
      rw [e] at hrw
      have HRW : Hid _ := hrw
      clear e hrw
      go_wp2
      go_ret
      exact ⟨rfl, hrd.out, hfr.out, us, hul.out, HRW.out, hel.out⟩
theorem rdFn_size (s : Rd × Int) (h : ∀ x ∈ s.1.left, 0 ≤ x ∧ x ≤ 255) : 0 ≤ (rdFn s).1.size ∧ (rdFn s).1.size ≤ 65535 ∧ (rdFn s).2.2 = s.2 + (rdFn s).1.size :=
  ⟨(num_bd _ (take_left _ _ (take_left s.1 1 h))).2.1, (num_bd _ (take_left _ _ (take_left s.1 1 h))).2.2, rfl⟩
set_option maxHeartbeats 4000000 in
theorem listOfFn_any (B g gp ge : Nat) (r : Rd) (n : Nat) (w : World) (h : RdAt w B g r) (hn : n ≤ 65535) (hp : w.cell? ⟨gp, 0, none⟩ = some (.pointer (some ⟨g, 0, none⟩))) (hgp : gp < w.heap.size) (hne : gp ≠ g) (he : w.heap[ge]? = some (.cells #[.int .i64 0] 3)) (hge : ge ≠ g) (hpe : gp ≠ ge) (hBe : B ≤ ge) :
    Calls Tryd.prog 77 #[.int .i64 n, .func (.func 78) #[] #[.pointer (some ⟨ge, 0, none⟩), .pointer (some ⟨gp, 0, none⟩)]] w fun e w' =>
      e = .returned (.slice (some ⟨w.heap.size, 0, none⟩) n n) ∧ RdAt w' B g (many rdFn n (r, 0)).2.1 ∧ w'.heap[w.heap.size]? = some (.cells (flat Fn.cells (many rdFn n (r, 0)).1).toArray 47) ∧ Fr2 g ge w w' := by
  obtain ⟨i, hi, hz, hs, hb⟩ := info_of inFn
  have hmk := make_wide (P := Tryd.prog) 24 47 i _ Tryd.underlying24 hi hz n (by rw [hb]; omega) (by omega) w
  rw [hs, show (Value.agg #[.string ByteArray.empty, .int .i64 0, .int .i64 0]).cells = ([.string ByteArray.empty, .int .i64 0, .int .i64 0] : List Value).toArray from rfl, show n * 3 = n * ([.string ByteArray.empty, .int .i64 0, .int .i64 0] : List Value).length from rfl, made_flat _ _ (by decide)] at hmk
  have HM : Hid _ := hmk
  have HR : Hid (RdAt w B g r) := h
  have hgl := h.lt
  have hel : ge < w.heap.size := (Array.getElem?_eq_some_iff.1 he).1
  have HGE : Hid (B ≤ g) := h.ge
  have HE : Hid _ := he
  clear hmk h he
  go_enter Tryd.func77, Tryd.ntmps77
  go_wp2_with (first | (at_make; refine wpList_make_run _ rfl (.tmp 7) (.tmp 7) 24 rfl _ _ rfl rfl HM.out ?_))
  go_loopw [11] (fun u wr => ∃ j : Nat, j ≤ n ∧ u = .int .i64 (j : Int) ∧ Hid (RdAt wr B g (many rdFn j (r, 0)).2.1) ∧ Hid (wr.heap[w.heap.size]? = some (.cells (lsRow Fn.cells [.string ByteArray.empty, .int .i64 0, .int .i64 0] (many rdFn j (r, 0)).1 n).toArray 47)) ∧ Hid (Fr2 g ge w wr) ∧ Hid (wr.heap[ge]? = some (.cells #[.int .i64 (many rdFn j (r, 0)).2.2] 3)) ∧ Hid (0 ≤ (many rdFn j (r, 0)).2.2 ∧ (many rdFn j (r, 0)).2.2 ≤ j * 65535)) (fun u _ => (n - intOf u).toNat)
  case atStart =>
    refine ⟨0, by omega, rfl, HR.out.alloc _, ?_, ((FrG.refl g w).alloc _).two, ?_, ⟨by simp [many], by simp [many]⟩⟩
    · show (w.heap.push _)[w.heap.size]? = _
      rw [Array.getElem?_push_size]; rfl
    · show (w.heap.push _)[ge]? = _
      rw [Array.getElem?_push_lt hel, ← Array.getElem?_eq_getElem hel]; exact HE.out
  case round =>
    obtain ⟨j, j1, rfl, hrd, hrow, hfr, hend, hbd⟩ := hrel
    have hlt : w.heap.size < wr.heap.size := (Array.getElem?_eq_some_iff.1 hrow.out).1
    by_cases hj : j < n
    · have hp2 : wr.cell? ⟨gp, 0, none⟩ = some (.pointer (some ⟨g, 0, none⟩)) := (World.cell?_of_block (a := ⟨gp, 0, none⟩) (hfr.out.block gp hgp hne hpe)).trans hp
      have hjj : (j : Int) < (n : Int) := by omega
      obtain ⟨u1, u2, u3⟩ := rdFn_size (many rdFn j (r, 0)).2 hrd.out.bytes
      obtain ⟨q1, q2⟩ := hbd.out
      have hb40 : (many rdFn j (r, 0)).2.2 ≤ 1099511627776 := by omega
      have hmn0 : (many rdFn (j + 1) (r, 0)).2.2 = (many rdFn j (r, 0)).2.2 + (rdFn (many rdFn j (r, 0)).2).1.size := u3
      have A5 : Hid (0 ≤ (many rdFn (j + 1) (r, 0)).2.2 ∧ (many rdFn (j + 1) (r, 0)).2.2 ≤ ((j + 1 : Nat) : Int) * 65535) := by rw [hmn0]; constructor <;> omega
      clear u1 u2 u3 hmn0
      have hgpw : gp < wr.heap.size := by omega
      go_wp2_with fail
      refine (fn_any B g gp ge (many rdFn j (r, 0)).2.1 (many rdFn j (r, 0)).2.2 wr hrd.out hp2 hgpw hne hend.out hge hBe q1 hb40).mono ?_
      rintro e w1 ⟨rfl, hr1, hend1, ho1⟩
      have hgne : w.heap.size ≠ g := by omega
      have hrow1 := (ho1.block w.heap.size hlt hgne (by omega)).trans hrow.out
      have hml := many_len rdFn j (r, 0)
      obtain ⟨xs, hxs⟩ : ∃ xs, (many rdFn j (r, 0)).1 = xs := ⟨_, rfl⟩
      rw [hxs] at hml hrow1
      subst hml
      obtain ⟨x, hx⟩ : ∃ x, (rdFn ((many rdFn xs.length (r, 0)).2.1, (many rdFn xs.length (r, 0)).2.2)).1 = x := ⟨_, rfl⟩
      have hmn : (many rdFn (xs.length + 1) (r, 0)).1 = xs ++ [x] := by rw [many, hxs, ← hx]
      have hfl : (flat Fn.cells xs).length = xs.length * 3 := flat_len fcell_len xs
      rw [lsRow_split hj] at hrow1
      have hc : ∀ o, o < 3 → w1.cell? ⟨w.heap.size, xs.length * 3 + o, none⟩ = ([.string ByteArray.empty, .int .i64 0, .int .i64 0] : List Value)[o]? := fun o ho => by
        simp only [World.cell?, hrow1, List.getElem?_toArray]
        rw [List.getElem?_append_right (by omega), hfl, show xs.length * 3 + o - xs.length * 3 = o by omega, List.getElem?_append_left (by simpa using ho)]
        match o, ho with
        | 0, _ => rfl
        | 1, _ => rfl
        | 2, _ => rfl
      have c0 : w1.cell? ⟨w.heap.size, xs.length * 3, none⟩ = some (.string ByteArray.empty) := hc 0 (by decide)
      have c1 : w1.cell? ⟨w.heap.size, xs.length * 3 + 1, none⟩ = some (.int .i64 0) := hc 1 (by decide)
      have c2 : w1.cell? ⟨w.heap.size, xs.length * 3 + 2, none⟩ = some (.int .i64 0) := hc 2 (by decide)
      have hff : ∀ o, w1.frozen? ⟨w.heap.size, o, none⟩ = false := fun o => by simp [World.frozen?, hrow1]
      have f0 := hff (xs.length * 3)
      have f1 := hff (xs.length * 3 + 1)
      have f2 := hff (xs.length * 3 + 2)
      obtain ⟨W2, hW2⟩ : ∃ W2, ((w1.setCell ⟨w.heap.size, xs.length * 3, none⟩ (.string x.name)).setCell ⟨w.heap.size, xs.length * 3 + 1, none⟩ (.int .i64 x.start)).setCell ⟨w.heap.size, xs.length * 3 + 2, none⟩ (.int .i64 x.size) = W2 := ⟨_, rfl⟩
      have hoth : ∀ k, k ≠ w.heap.size → W2.heap[k]? = w1.heap[k]? := fun k hk => by
        rw [← hW2]
        iterate 3 rw [heap_setCell_other _ _ _ _ (by simpa using hk)]
      have A1 : Hid (RdAt W2 B g (many rdFn (xs.length + 1) (r, 0)).2.1) := by rw [← hW2]; exact ((hr1.set (by have := HGE.out; omega) hgne _).set (by have := HGE.out; omega) hgne _).set (by have := HGE.out; omega) hgne _
      have A2 : Hid (W2.heap[w.heap.size]? = some (.cells (lsRow Fn.cells [.string ByteArray.empty, .int .i64 0, .int .i64 0] (many rdFn (xs.length + 1) (r, 0)).1 n).toArray 47)) := by
        show _ = _
        rw [hmn, lsRow_next, ← hW2]
        have := heap_setCell_same _ w.heap.size (xs.length * 3 + 2) _ _ (.int .i64 x.size) (heap_setCell_same _ w.heap.size (xs.length * 3 + 1) _ _ (.int .i64 x.start) (heap_setCell_same w1 w.heap.size (xs.length * 3) _ _ (.string x.name) hrow1))
        rwa [set3 _ _ _ _ _ _ _ _ _ hfl] at this
      have A3 : Hid (Fr2 g ge w W2) := by rw [← hW2]; exact (((hfr.out.trans ho1).set (Or.inl (Nat.le_refl _)) _).set (Or.inl (Nat.le_refl _)) _).set (Or.inl (Nat.le_refl _)) _
      have A4 : Hid (W2.heap[ge]? = some (.cells #[.int .i64 (many rdFn (xs.length + 1) (r, 0)).2.2] 3)) := (hoth ge (by omega)).trans hend1
      have HW : Hid _ := hW2
      rw [hx]
      clear hc hff hr1 ho1 hrow1 hmn hW2 hxs hrd hrow hfr hp2 hfl hend hend1 hoth hbd
      go_wp2
      go_roundw
      case rel => exact ⟨xs.length + 1, by omega, by go_num, by rw [HW.out]; exact A1.out, by rw [HW.out]; exact A2.out, by rw [HW.out]; exact A3.out, by rw [HW.out]; exact A4.out, A5.out⟩
      case measure => simp [intOf]; omega
    · have hjn : j = n := by omega
      subst hjn
      have hml := many_len rdFn j (r, 0)
      have hrw := hrow.out
      have e : lsRow Fn.cells [.string ByteArray.empty, .int .i64 0, .int .i64 0] (many rdFn j (r, 0)).1 j = flat Fn.cells (many rdFn j (r, 0)).1 := by unfold lsRow; rw [hml, Nat.sub_self]; simp
      rw [e] at hrw
      have HRW : Hid _ := hrw
      clear e hml hrw
      go_wp2
      go_ret
      exact ⟨rfl, hrd.out, HRW.out, hfr.out⟩
end Go.Proofs.YtechpdfcgimkkaaDoor
/-
  The reader's image: whatever the bytes say, whether it may be or not.
-/
namespace Go.Proofs.YtechpdfcgimkkaaDoor
open Go.RowKit Go.Joins
set_option maxRecDepth 100000
/-- P2.4, behind the mark. -/
def rdImg (r : Rd) : Img × Rd :=
  let a := r.num 2
  let t := a.2.take a.1.toNat
  let nf := t.2.num 1
  let fs := many rdFn nf.1.toNat (nf.2, 0)
  let en := fs.2.1.num 1
  let nt := en.2.num 1
  let ts := many Rd.tab nt.1.toNat nt.2
  let nd := ts.2.num 1
  let ds := many (fun r : Rd => r.num 8) nd.1.toNat nd.2
  let nl := ds.2.num 2
  let ls := many Rd.line nl.1.toNat nl.2
  (⟨t.1, fs.1, ts.1, ds.1, ls.1, en.1⟩, ls.2)
/-- Where the reader's image stands: the reader, the box of its pointer, the answer's box, the image's box. -/
structure Im (w0 : World) (B g : Nat) (w : World) (r : Rd) (a b c d e f : Value) : Prop where
  rd : RdAt w B g r
  bp : w.heap[w0.heap.size]? = some (.cells #[.pointer (some ⟨g, 0, none⟩)] 122)
  br : w.heap[w0.heap.size + 1]? = some (.cells #[.slice none 0 0, .slice none 0 0, .slice none 0 0, .slice none 0 0, .slice none 0 0, .int .i64 0] 29)
  bm : w.heap[w0.heap.size + 2]? = some (.cells #[a, b, c, d, e, f] 29)
  fr : FrG g w0 w
  gl : g < w0.heap.size
theorem Im.lt {w0 : World} {B g : Nat} {w : World} {r : Rd} {a b c d e f : Value} (h : Im w0 B g w r a b c d e f) : w0.heap.size + 2 < w.heap.size := (Array.getElem?_eq_some_iff.1 h.bm).1
theorem Im.step {w' : World} {r' : Rd} {w0 : World} {B g : Nat} {w : World} {r : Rd} {a b c d e f : Value} (h : Im w0 B g w r a b c d e f) (hf : FrG g w w') (hr : RdAt w' B g r') : Im w0 B g w' r' a b c d e f := by
  have hl := h.lt
  have hg := h.gl
  exact ⟨hr, (hf.block _ (by omega) (by omega)).trans h.bp, (hf.block _ (by omega) (by omega)).trans h.br, (hf.block _ (by omega) (by omega)).trans h.bm, h.fr.trans hf, hg⟩
theorem Im.step2 {w' : World} {r' : Rd} {ge : Nat} {w0 : World} {B g : Nat} {w : World} {r : Rd} {a b c d e f : Value} (h : Im w0 B g w r a b c d e f) (hf : Fr2 g ge w w') (hr : RdAt w' B g r') (hge : w0.heap.size + 2 < ge) : Im w0 B g w' r' a b c d e f := by
  have hl := h.lt
  have hg := h.gl
  exact ⟨hr, (hf.block _ (by omega) (by omega) (by omega)).trans h.bp, (hf.block _ (by omega) (by omega) (by omega)).trans h.br, (hf.block _ (by omega) (by omega) (by omega)).trans h.bm, ⟨hf.os.trans h.fr.os, hf.tape.trans h.fr.tape, hf.output.trans h.fr.output, Nat.le_trans h.fr.size hf.size, fun k hk hg => (hf.block k (Nat.lt_of_lt_of_le hk h.fr.size) hg (by omega)).trans (h.fr.block k hk hg)⟩, hg⟩
theorem Im.drew {w0 : World} {B g : Nat} {w : World} {r : Rd} {a b c d e f : Value} (h : Im w0 B g w r a b c d e f) : Im w0 B g w.drew r a b c d e f := ⟨h.rd.drew, h.bp, h.br, h.bm, h.fr.drew, h.gl⟩
theorem Im.ptr {w0 : World} {B g : Nat} {w : World} {r : Rd} {a b c d e f : Value} (h : Im w0 B g w r a b c d e f) : w.cell? ⟨w0.heap.size, 0, none⟩ = some (.pointer (some ⟨g, 0, none⟩)) := by simp [World.cell?, h.bp]
theorem Im.cells {w0 : World} {B g : Nat} {w : World} {r : Rd} {a b c d e f : Value} (h : Im w0 B g w r a b c d e f) :
    w.cell? ⟨w0.heap.size + 2, 0, none⟩ = some a ∧ w.cell? ⟨w0.heap.size + 2, 1, none⟩ = some b ∧ w.cell? ⟨w0.heap.size + 2, 2, none⟩ = some c ∧ w.cell? ⟨w0.heap.size + 2, 3, none⟩ = some d ∧ w.cell? ⟨w0.heap.size + 2, 4, none⟩ = some e ∧ w.cell? ⟨w0.heap.size + 2, 5, none⟩ = some f := by
  refine ⟨?_, ?_, ?_, ?_, ?_, ?_⟩ <;> simp [World.cell?, h.bm]
theorem Im.frozen {w0 : World} {B g : Nat} {w : World} {r : Rd} {a b c d e f : Value} (h : Im w0 B g w r a b c d e f) (o : Nat) : w.frozen? ⟨w0.heap.size + 2, o, none⟩ = false := by simp [World.frozen?, h.bm]
theorem Im.rfrozen {w0 : World} {B g : Nat} {w : World} {r : Rd} {a b c d e f : Value} (h : Im w0 B g w r a b c d e f) (o : Nat) : w.frozen? ⟨w0.heap.size + 1, o, none⟩ = false := by simp [World.frozen?, h.br]
theorem Im.made {w' : World} {o : Obj} {w0 : World} {B g : Nat} {w : World} {r : Rd} {a b c d e f : Value} (h : Im w0 B g w r a b c d e f) (hw : w' = w.alloc o) : Im w0 B g w' r a b c d e f := hw ▸ h.step ((FrG.refl g w).alloc _) (h.rd.alloc _)
theorem a_new (w : World) (o : Obj) : (w.alloc o).heap[w.heap.size]? = some o := by show (w.heap.push _)[w.heap.size]? = _; simp
theorem a_old (w : World) (o : Obj) (k : Nat) (hk : k < w.heap.size) : (w.alloc o).heap[k]? = w.heap[k]? := by show (w.heap.push _)[k]? = _; rw [Array.getElem?_push_lt hk, ← Array.getElem?_eq_getElem hk]
theorem a_three (w : World) (a b c : Obj) : (((w.alloc a).alloc b).alloc c).heap[w.heap.size]? = some a ∧ (((w.alloc a).alloc b).alloc c).heap[w.heap.size + 1]? = some b ∧ (((w.alloc a).alloc b).alloc c).heap[w.heap.size + 2]? = some c := by
  have z1 : (w.alloc a).heap.size = w.heap.size + 1 := by simp
  have z2 : ((w.alloc a).alloc b).heap.size = w.heap.size + 2 := by simp
  have n3 := a_new ((w.alloc a).alloc b) c
  have n2 := a_new (w.alloc a) b
  rw [z2] at n3
  rw [z1] at n2
  exact ⟨by rw [a_old _ _ _ (by omega), a_old _ _ _ (by omega)]; exact a_new w a, by rw [a_old _ _ _ (by omega)]; exact n2, n3⟩
theorem Im.put0 {w0 : World} {B g : Nat} {w : World} {r : Rd} {a b c d e f : Value} (h : Im w0 B g w r a b c d e f) (u : Value) : Im w0 B g (w.setCell ⟨w0.heap.size + 2, 0, none⟩ u) r u b c d e f := by
  have hg := h.gl
  have hB := h.rd.ge
  exact ⟨h.rd.set (by omega) (by omega) _, (heap_setCell_other _ _ _ _ (by simp)).trans h.bp, (heap_setCell_other _ _ _ _ (by simp)).trans h.br, heap_setCell_same w _ 0 _ _ u h.bm, h.fr.set (by omega) u, hg⟩
theorem Im.put1 {w0 : World} {B g : Nat} {w : World} {r : Rd} {a b c d e f : Value} (h : Im w0 B g w r a b c d e f) (u : Value) : Im w0 B g (w.setCell ⟨w0.heap.size + 2, 1, none⟩ u) r a u c d e f := by
  have hg := h.gl
  have hB := h.rd.ge
  exact ⟨h.rd.set (by omega) (by omega) _, (heap_setCell_other _ _ _ _ (by simp)).trans h.bp, (heap_setCell_other _ _ _ _ (by simp)).trans h.br, heap_setCell_same w _ 1 _ _ u h.bm, h.fr.set (by omega) u, hg⟩
theorem Im.put2 {w0 : World} {B g : Nat} {w : World} {r : Rd} {a b c d e f : Value} (h : Im w0 B g w r a b c d e f) (u : Value) : Im w0 B g (w.setCell ⟨w0.heap.size + 2, 2, none⟩ u) r a b u d e f := by
  have hg := h.gl
  have hB := h.rd.ge
  exact ⟨h.rd.set (by omega) (by omega) _, (heap_setCell_other _ _ _ _ (by simp)).trans h.bp, (heap_setCell_other _ _ _ _ (by simp)).trans h.br, heap_setCell_same w _ 2 _ _ u h.bm, h.fr.set (by omega) u, hg⟩
theorem Im.put3 {w0 : World} {B g : Nat} {w : World} {r : Rd} {a b c d e f : Value} (h : Im w0 B g w r a b c d e f) (u : Value) : Im w0 B g (w.setCell ⟨w0.heap.size + 2, 3, none⟩ u) r a b c u e f := by
  have hg := h.gl
  have hB := h.rd.ge
  exact ⟨h.rd.set (by omega) (by omega) _, (heap_setCell_other _ _ _ _ (by simp)).trans h.bp, (heap_setCell_other _ _ _ _ (by simp)).trans h.br, heap_setCell_same w _ 3 _ _ u h.bm, h.fr.set (by omega) u, hg⟩
theorem Im.put4 {w0 : World} {B g : Nat} {w : World} {r : Rd} {a b c d e f : Value} (h : Im w0 B g w r a b c d e f) (u : Value) : Im w0 B g (w.setCell ⟨w0.heap.size + 2, 4, none⟩ u) r a b c d u f := by
  have hg := h.gl
  have hB := h.rd.ge
  exact ⟨h.rd.set (by omega) (by omega) _, (heap_setCell_other _ _ _ _ (by simp)).trans h.bp, (heap_setCell_other _ _ _ _ (by simp)).trans h.br, heap_setCell_same w _ 4 _ _ u h.bm, h.fr.set (by omega) u, hg⟩
theorem Im.put5 {w0 : World} {B g : Nat} {w : World} {r : Rd} {a b c d e f : Value} (h : Im w0 B g w r a b c d e f) (u : Value) : Im w0 B g (w.setCell ⟨w0.heap.size + 2, 5, none⟩ u) r a b c d e u := by
  have hg := h.gl
  have hB := h.rd.ge
  exact ⟨h.rd.set (by omega) (by omega) _, (heap_setCell_other _ _ _ _ (by simp)).trans h.bp, (heap_setCell_other _ _ _ _ (by simp)).trans h.br, heap_setCell_same w _ 5 _ _ u h.bm, h.fr.set (by omega) u, hg⟩
theorem Fr2.refl (g g2 : Nat) (w : World) : Fr2 g g2 w w := ⟨rfl, rfl, rfl, Nat.le_refl _, fun _ _ _ _ => rfl⟩
theorem FrG.of2 {g ge : Nat} {w w1 w2 : World} (h1 : FrG g w w1) (h2 : Fr2 g ge w1 w2) (he : w.heap.size ≤ ge) : FrG g w w2 :=
  ⟨h2.os.trans h1.os, h2.tape.trans h1.tape, h2.output.trans h1.output, Nat.le_trans h1.size h2.size, fun k hk hg => (h2.block k (Nat.lt_of_lt_of_le hk h1.size) hg (by omega)).trans (h1.block k hk hg)⟩
theorem Fr2.at {g g2 : Nat} {w w' : World} (h : Fr2 g g2 w w') {k : Nat} {o : Obj} (hk : w.heap[k]? = some o) (h1 : k ≠ g) (h2 : k ≠ g2) : w'.heap[k]? = some o := (h.block k (Array.getElem?_eq_some_iff.1 hk).1 h1 h2).trans hk
/-- A list that was made, whole, in a block of its own. -/
theorem list_block {α : Type} {w : World} {cells : α → List Value} {sz k : Nat} {xs : List α} {e : TypeId} {n : Nat} (hl : ∀ a, (cells a).length = sz) (hb : w.heap[k]? = some (.cells (flat cells xs).toArray e)) (hn : n = xs.length) (hm : xs.length ≤ maxLen) :
    ListAt w cells sz (.slice (some ⟨k, 0, none⟩) n n) xs := by
  subst hn
  refine Or.inr ⟨k, 0, xs.length, rfl, Nat.le_refl _, hm, (Array.getElem?_eq_some_iff.1 hb).1, fun j x hx o u hu => ?_⟩
  have ho : o < sz := by
    rcases Nat.lt_or_ge o sz with q | q
    · exact q
    · rw [List.getElem?_eq_none (by rw [hl]; exact q)] at hu; cases hu
  simp only [World.cell?, hb, List.getElem?_toArray, Nat.zero_add]
  rw [flat_at hl xs j x hx o ho]
  exact hu
theorem Im.num {w0 : World} {B g : Nat} {w : World} {r : Rd} {a b c d e f : Value} (h : Im w0 B g w r a b c d e f) {k : Nat} {x : Int} {r' : Rd} (hq : r.num k = (x, r')) (hk : k ≤ 8) : Calls Tryd.prog 76 #[.pointer (some ⟨g, 0, none⟩), .int .i64 k] w fun ed w' => ed = .returned (.int .i64 x) ∧ Im w0 B g w' r' a b c d e f ∧ Only g w w' := by
  have q := inumber_any B g r k w h.rd hk
  rw [hq] at q
  exact q.mono fun ed w' ⟨q1, q2, q3⟩ => ⟨q1, h.step q3.fr q2, q3⟩
theorem Im.take {w0 : World} {B g : Nat} {w : World} {r : Rd} {a b c d e f : Value} (h : Im w0 B g w r a b c d e f) {n : Nat} {xs : List Int} {r' : Rd} (hq : r.take n = (xs, r')) (hn : n ≤ 100000) : Calls Tryd.prog 75 #[.pointer (some ⟨g, 0, none⟩), .int .i64 n] w fun ed w' => ∃ v, ed = .returned v ∧ Im w0 B g w' r' a b c d e f ∧ ListAt w' ucell 1 v xs ∧ Only g w w' := by
  have q := take_any B g r n w h.rd hn
  rw [hq] at q
  exact q.mono fun ed w' ⟨v, q1, q2, q3, _, q4⟩ => ⟨v, q1, h.step q4.fr q2, q3, q4⟩
theorem Im.lines {w0 : World} {B g : Nat} {w : World} {r : Rd} {a b c d e f : Value} (h : Im w0 B g w r a b c d e f) {n : Nat} {xs : List Ln} {r' : Rd} (hq : many Rd.line n r = (xs, r')) (hn : n ≤ 65535) : Calls Tryd.prog 84 #[.int .i64 n, .func (.func 85) #[] #[.pointer (some ⟨w0.heap.size, 0, none⟩)]] w fun ed w' => ed = .returned (.slice (some ⟨w.heap.size, 0, none⟩) n n) ∧ Im w0 B g w' r' a b c d e f ∧ w'.heap[w.heap.size]? = some (.cells (flat Ln.cells xs).toArray 43) ∧ FrG g w w' := by
  have hl := h.lt
  have hg := h.gl
  have q := listOfLn_any B g w0.heap.size r n w h.rd hn h.ptr (by omega) (by omega)
  rw [hq] at q
  exact q.mono fun ed w' ⟨q1, q2, q3, q4⟩ => ⟨q1, h.step q4 q2, q3, q4⟩
theorem flat_icell (xs : List Int) : flat icell xs = xs.map (Value.int .i64) := by
  induction xs with
  | nil => rfl
  | cons x xs ih => rw [List.map_cons, ← ih]; rfl
theorem Im.datas {w0 : World} {B g : Nat} {w : World} {r : Rd} {a b c d e f : Value} (h : Im w0 B g w r a b c d e f) {n : Nat} {xs : List Int} {r' : Rd} (hq : many (fun r : Rd => r.num 8) n r = (xs, r')) (hn : n ≤ 65535) : Calls Tryd.prog 81 #[.int .i64 n, .func (.func 83) #[] #[.pointer (some ⟨w0.heap.size, 0, none⟩)]] w fun ed w' => ed = .returned (.slice (some ⟨w.heap.size, 0, none⟩) n n) ∧ Im w0 B g w' r' a b c d e f ∧ w'.heap[w.heap.size]? = some (.cells (flat icell xs).toArray 3) ∧ FrG g w w' := by
  have hl := h.lt
  have hg := h.gl
  have q := listOf8_any B g w0.heap.size r n w h.rd hn h.ptr (by omega) (by omega)
  rw [hq] at q
  exact q.mono fun ed w' ⟨q1, q2, q3, _, q4⟩ => ⟨q1, h.step (FrG.trans ((FrG.refl g w).alloc _) q4.fr) q2, by rw [flat_icell]; exact q3, FrG.trans ((FrG.refl g w).alloc _) q4.fr⟩
theorem Im.tabs {w0 : World} {B g : Nat} {w : World} {r : Rd} {a b c d e f : Value} (h : Im w0 B g w r a b c d e f) {n : Nat} {xs : List (List Int)} {r' : Rd} (hq : many Rd.tab n r = (xs, r')) (hn : n ≤ 65535) : Calls Tryd.prog 79 #[.int .i64 n, .func (.func 80) #[] #[.pointer (some ⟨w0.heap.size, 0, none⟩)]] w fun ed w' => ed = .returned (.slice (some ⟨w.heap.size, 0, none⟩) n n) ∧ Im w0 B g w' r' a b c d e f ∧ FrG g w w' ∧ ∃ us : List Value, us.length = n ∧ w'.heap[w.heap.size]? = some (.cells (flat vcell us).toArray 26) ∧ ∀ (i : Nat) (u : Value) (t : List Int), us[i]? = some u → xs[i]? = some t → ∃ bb, u = .slice (some ⟨bb, 0, none⟩) t.length t.length ∧ w.heap.size < bb ∧ w'.heap[bb]? = some (.cells (flat icell t).toArray 3) := by
  have hl := h.lt
  have hg := h.gl
  have q := listOfTb_any B g w0.heap.size r n w h.rd hn h.ptr (by omega) (by omega)
  rw [hq] at q
  exact q.mono fun ed w' ⟨q1, q2, q3, us, q4, q5, q6⟩ => ⟨q1, h.step q3 q2, q3, us, q4, q5, fun i u t hu ht => by rw [flat_icell]; exact q6 i u t hu ht⟩
theorem Im.funcs {w0 : World} {B g : Nat} {w : World} {r : Rd} {a b c d e f : Value} (h : Im w0 B g w r a b c d e f) {n ge : Nat} {xs : List Fn} {r' : Rd} {z : Int} (hq : many rdFn n (r, 0) = (xs, (r', z))) (hn : n ≤ 65535) (he : w.heap[ge]? = some (.cells #[.int .i64 0] 3)) (hge : w0.heap.size + 2 < ge) : Calls Tryd.prog 77 #[.int .i64 n, .func (.func 78) #[] #[.pointer (some ⟨ge, 0, none⟩), .pointer (some ⟨w0.heap.size, 0, none⟩)]] w fun ed w' => ed = .returned (.slice (some ⟨w.heap.size, 0, none⟩) n n) ∧ Im w0 B g w' r' a b c d e f ∧ w'.heap[w.heap.size]? = some (.cells (flat Fn.cells xs).toArray 47) ∧ Fr2 g ge w w' := by
  have hl := h.lt
  have hg := h.gl
  have hB := h.rd.ge
  have q := listOfFn_any B g w0.heap.size ge r n w h.rd hn h.ptr (by omega) (by omega) he (by omega) (by omega) (by omega)
  rw [hq] at q
  exact q.mono fun ed w' ⟨q1, q2, q3, q4⟩ => ⟨q1, h.step2 q4 q2 hge, q3, q4⟩
theorem Fr2.via {g m ge : Nat} {w w1 w2 : World} (h1 : Fr2 g m w w1) (h2 : Fr2 g ge w1 w2) (he : w.heap.size ≤ ge) : Fr2 g m w w2 :=
  ⟨h2.os.trans h1.os, h2.tape.trans h1.tape, h2.output.trans h1.output, Nat.le_trans h1.size h2.size, fun k hk h3 h4 => (h2.block k (Nat.lt_of_lt_of_le hk h1.size) h3 (by omega)).trans (h1.block k hk h3 h4)⟩
theorem rdImg_parts {r ra r1 r2 r3 r4 r5 r6 r7 r8 r9 r10 : Rd} {n nf nt nd nl : Nat} {xs : List Int} {fs : List Fn} {z en : Int} {ts : List (List Int)} {ds : List Int} {ls : List Ln}
    (h1 : r.num 2 = ((n : Int), ra)) (h2 : ra.take n = (xs, r1)) (h3 : r1.num 1 = ((nf : Int), r2)) (h4 : many rdFn nf (r2, 0) = (fs, (r3, z))) (h5 : r3.num 1 = (en, r4)) (h6 : r4.num 1 = ((nt : Int), r5)) (h7 : many Rd.tab nt r5 = (ts, r6))
    (h8 : r6.num 1 = ((nd : Int), r7)) (h9 : many (fun r : Rd => r.num 8) nd r7 = (ds, r8)) (h10 : r8.num 2 = ((nl : Int), r9)) (h11 : many Rd.line nl r9 = (ls, r10)) : rdImg r = (⟨xs, fs, ts, ds, ls, en⟩, r10) := by
  simp [rdImg, h1, h2, h3, h4, h5, h6, h7, h8, h9, h10, h11]
theorem num_left (r : Rd) (k : Nat) (h : ∀ x ∈ r.left, 0 ≤ x ∧ x ≤ 255) : ∀ x ∈ (r.num k).2.left, 0 ≤ x ∧ x ≤ 255 := take_left r k h
theorem many_left {σ α : Type} (p : σ → Rd) (f : σ → α × σ) (hf : ∀ s, (∀ x ∈ (p s).left, 0 ≤ x ∧ x ≤ 255) → ∀ x ∈ (p (f s).2).left, 0 ≤ x ∧ x ≤ 255) (n : Nat) (s : σ) (h : ∀ x ∈ (p s).left, 0 ≤ x ∧ x ≤ 255) : ∀ x ∈ (p (many f n s).2).left, 0 ≤ x ∧ x ≤ 255 := by
  induction n with
  | zero => exact h
  | succ n ih => exact hf _ ih
theorem num1_nat (r : Rd) (h : ∀ x ∈ r.left, 0 ≤ x ∧ x ≤ 255) : ∃ (n : Nat) (r' : Rd), r.num 1 = ((n : Int), r') ∧ n ≤ 255 ∧ ∀ x ∈ r'.left, 0 ≤ x ∧ x ≤ 255 := by
  obtain ⟨⟨q1, q2⟩, _⟩ := num_bd r h
  obtain ⟨n, hn⟩ := Int.eq_ofNat_of_zero_le q1
  exact ⟨n, (r.num 1).2, by rw [← hn], by omega, num_left r 1 h⟩
theorem num2_nat (r : Rd) (h : ∀ x ∈ r.left, 0 ≤ x ∧ x ≤ 255) : ∃ (n : Nat) (r' : Rd), r.num 2 = ((n : Int), r') ∧ n ≤ 65535 ∧ ∀ x ∈ r'.left, 0 ≤ x ∧ x ≤ 255 := by
  obtain ⟨_, ⟨q1, q2⟩⟩ := num_bd r h
  obtain ⟨n, hn⟩ := Int.eq_ofNat_of_zero_le q1
  exact ⟨n, (r.num 2).2, by rw [← hn], by omega, num_left r 2 h⟩
theorem rdFn_left (s : Rd × Int) (h : ∀ x ∈ s.1.left, 0 ≤ x ∧ x ≤ 255) : ∀ x ∈ (rdFn s).2.1.left, 0 ≤ x ∧ x ≤ 255 := num_left _ 2 (take_left _ _ (num_left s.1 1 h))
theorem tab_left (r : Rd) (h : ∀ x ∈ r.left, 0 ≤ x ∧ x ≤ 255) : ∀ x ∈ r.tab.2.left, 0 ≤ x ∧ x ≤ 255 := many_left id _ (fun s hs => num_left s 2 hs) _ _ (num_left r 1 h)
theorem line_left (r : Rd) (h : ∀ x ∈ r.left, 0 ≤ x ∧ x ≤ 255) : ∀ x ∈ r.line.2.left, 0 ≤ x ∧ x ≤ 255 := num_left _ 2 (num_left r 2 h)
/-- The image that is read, part by part. -/
theorem rdImg_all (r : Rd) (h : ∀ x ∈ r.left, 0 ≤ x ∧ x ≤ 255) : ∃ (ra r1 r2 r3 r4 r5 r6 r7 r8 r9 r10 : Rd) (n nf nt nd nl : Nat) (xs : List Int) (fs : List Fn) (z en : Int) (ts : List (List Int)) (ds : List Int) (ls : List Ln),
    (r.num 2 = ((n : Int), ra) ∧ ra.take n = (xs, r1) ∧ r1.num 1 = ((nf : Int), r2) ∧ many rdFn nf (r2, 0) = (fs, (r3, z)) ∧ r3.num 1 = (en, r4) ∧ r4.num 1 = ((nt : Int), r5) ∧ many Rd.tab nt r5 = (ts, r6) ∧
    r6.num 1 = ((nd : Int), r7) ∧ many (fun r : Rd => r.num 8) nd r7 = (ds, r8) ∧ r8.num 2 = ((nl : Int), r9) ∧ many Rd.line nl r9 = (ls, r10)) ∧ n ≤ 65535 ∧ nf ≤ 255 ∧ nt ≤ 255 ∧ nd ≤ 255 ∧ nl ≤ 65535 ∧ xs.length ≤ 65535 ∧ fs.length = nf ∧ ts.length = nt ∧ ds.length = nd ∧ ls.length = nl ∧ ∀ t ∈ ts, t.length ≤ 255 := by
  obtain ⟨n, ra, e1, b1, l1⟩ := num2_nat r h
  have l2 := take_left ra n l1
  have b2 := take_len ra n
  obtain ⟨nf, r2, e3, b3, l3⟩ := num1_nat _ l2
  have l4 := many_left Prod.fst rdFn rdFn_left nf (r2, 0) l3
  have b4 := many_len rdFn nf (r2, 0)
  have l5 := num_left _ 1 l4
  obtain ⟨nt, r5, e6, b6, l6⟩ := num1_nat _ l5
  have l7 := many_left id Rd.tab tab_left nt r5 l6
  have b7 := many_len Rd.tab nt r5
  obtain ⟨nd, r7, e8, b8, l8⟩ := num1_nat _ l7
  have l9 := many_left id (fun r : Rd => r.num 8) (fun s hs => num_left s 8 hs) nd r7 l8
  have b9 := many_len (fun r : Rd => r.num 8) nd r7
  obtain ⟨nl, r9, e10, b10, l10⟩ := num2_nat _ l9
  have b11 := many_len Rd.line nl r9
  refine ⟨ra, _, r2, _, _, r5, _, r7, _, r9, _, n, nf, nt, nd, nl, _, _, _, _, _, _, _, ⟨e1, rfl, e3, rfl, rfl, e6, rfl, e8, rfl, e10, rfl⟩, b1, b3, b6, b8, b10, Nat.le_trans b2 b1, b4, b7, b9, b11, ?_⟩
  have key : ∀ (k : Nat) (s : Rd), (∀ x ∈ s.left, 0 ≤ x ∧ x ≤ 255) → ∀ t ∈ (many Rd.tab k s).1, t.length ≤ 255 := by
    intro k s hs
    induction k with
    | zero => intro t ht; cases ht
    | succ k ih =>
      intro t ht
      rw [many] at ht
      rcases List.mem_append.1 ht with q | q
      · exact ih t q
      · simp only [List.mem_singleton] at q
        have hl := many_left id Rd.tab tab_left k s hs
        obtain ⟨⟨q1, q2⟩, _⟩ := num_bd (many Rd.tab k s).2 hl
        rw [q, Rd.tab, many_len]
        omega
  exact key nt r5 l6
theorem Im.last {w0 : World} {B g : Nat} {w : World} {r : Rd} {a b c d e f : Value} (h : Im w0 B g w r a b c d e f) : ((((((w.setCell ⟨w0.heap.size + 1, 0, none⟩ a).setCell ⟨w0.heap.size + 1, 1, none⟩ b).setCell ⟨w0.heap.size + 1, 2, none⟩ c).setCell ⟨w0.heap.size + 1, 3, none⟩ d).setCell ⟨w0.heap.size + 1, 4, none⟩ e).setCell ⟨w0.heap.size + 1, 5, none⟩ f).heap[w0.heap.size + 1]? = some (.cells #[a, b, c, d, e, f] 29) ∧ RdAt ((((((w.setCell ⟨w0.heap.size + 1, 0, none⟩ a).setCell ⟨w0.heap.size + 1, 1, none⟩ b).setCell ⟨w0.heap.size + 1, 2, none⟩ c).setCell ⟨w0.heap.size + 1, 3, none⟩ d).setCell ⟨w0.heap.size + 1, 4, none⟩ e).setCell ⟨w0.heap.size + 1, 5, none⟩ f) B g r ∧ FrG g w0 ((((((w.setCell ⟨w0.heap.size + 1, 0, none⟩ a).setCell ⟨w0.heap.size + 1, 1, none⟩ b).setCell ⟨w0.heap.size + 1, 2, none⟩ c).setCell ⟨w0.heap.size + 1, 3, none⟩ d).setCell ⟨w0.heap.size + 1, 4, none⟩ e).setCell ⟨w0.heap.size + 1, 5, none⟩ f) ∧ ∀ k, k ≠ w0.heap.size + 1 → ((((((w.setCell ⟨w0.heap.size + 1, 0, none⟩ a).setCell ⟨w0.heap.size + 1, 1, none⟩ b).setCell ⟨w0.heap.size + 1, 2, none⟩ c).setCell ⟨w0.heap.size + 1, 3, none⟩ d).setCell ⟨w0.heap.size + 1, 4, none⟩ e).setCell ⟨w0.heap.size + 1, 5, none⟩ f).heap[k]? = w.heap[k]? := by
  have hg := h.gl
  have hB := h.rd.ge
  have b0 := heap_setCell_same w _ 0 _ _ a h.br
  have b1 := heap_setCell_same _ _ 1 _ _ b b0
  have b2 := heap_setCell_same _ _ 2 _ _ c b1
  have b3 := heap_setCell_same _ _ 3 _ _ d b2
  have b4 := heap_setCell_same _ _ 4 _ _ e b3
  have b5 := heap_setCell_same _ _ 5 _ _ f b4
  refine ⟨b5, (((((h.rd.set (by omega) (by omega) _).set (by omega) (by omega) _).set (by omega) (by omega) _).set (by omega) (by omega) _).set (by omega) (by omega) _).set (by omega) (by omega) _, (((((h.fr.set (by omega) _).set (by omega) _).set (by omega) _).set (by omega) _).set (by omega) _).set (by omega) _, fun k hk => ?_⟩
  iterate 6 rw [heap_setCell_other _ _ _ _ (by simpa using hk)]
/-- An image whose memory is all from B on. -/
def ImgNew (w : World) (B : Nat) (vT vF vB vD vL : Value) (m : Img) : Prop := ∀ w2 : World, (∀ k, B ≤ k → k < w.heap.size → w2.heap[k]? = w.heap[k]?) → ImgAt w2 vT vF vB vD vL m
theorem ImgNew.img {w : World} {B : Nat} {vT vF vB vD vL : Value} {m : Img} (h : ImgNew w B vT vF vB vD vL m) : ImgAt w vT vF vB vD vL m := h w fun _ _ _ => rfl
theorem ImgNew.on {w w' : World} {B B' : Nat} {vT vF vB vD vL : Value} {m : Img} (h : ImgNew w B vT vF vB vD vL m) (hs : w.heap.size ≤ w'.heap.size) (hk : ∀ k, B ≤ k → k < w.heap.size → w'.heap[k]? = w.heap[k]?) (hB : B' ≤ B) : ImgNew w' B' vT vF vB vD vL m :=
  fun w2 h2 => h w2 fun k k1 k2 => (h2 k (by omega) (by omega)).trans (hk k k1 k2)
end Go.Proofs.YtechpdfcgimkkaaDoor
