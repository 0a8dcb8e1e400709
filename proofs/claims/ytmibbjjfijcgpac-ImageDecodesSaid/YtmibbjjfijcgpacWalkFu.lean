/-
  The reader's functions: its closure that takes one.
-/
import Derived.Test.YtmibbjjfijcgpacWalkTb
import Derived.Test.YtmibbjjfijcgpacWalkSm
import Derived.Deep.RegionWith
namespace Go.Proofs.Ytmibbjjfijcgpac
open Go.RowKit Go.Joins
/-- A function; where it begins is where the one ahead ends. -/
def rdFn (s : Rd × Int) : Fn × (Rd × Int) :=
  let a := s.1.num 1
  let b := a.2.take a.1.toNat
  let c := b.2.num 2
  (⟨jstr b.1, s.2, c.1⟩, (c.2, s.2 + c.1))
theorem take_left (r : Rd) (n : Nat) (h : ∀ x ∈ r.left, 0 ≤ x ∧ x ≤ 255) : ∀ x ∈ (r.take n).2.left, 0 ≤ x ∧ x ≤ 255 := by
  unfold Rd.take
  split
  · intro x hx; cases hx
  · intro x hx; exact h x (List.mem_of_mem_drop hx)
/-- All that was there is as it was, but for two blocks. -/
structure Fr2 (g g2 : Nat) (w w' : World) : Prop where
  os : w'.os = w.os
  tape : w'.tape = w.tape
  output : w'.output = w.output
  size : w.heap.size ≤ w'.heap.size
  block : ∀ k, k < w.heap.size → k ≠ g → k ≠ g2 → w'.heap[k]? = w.heap[k]?
theorem FrG.two {g g2 : Nat} {w w' : World} (h : FrG g w w') : Fr2 g g2 w w' := ⟨h.os, h.tape, h.output, h.size, fun k hk h1 _ => h.block k hk h1⟩
theorem Fr2.trans {g g2 : Nat} {w w1 w2 : World} (h1 : Fr2 g g2 w w1) (h2 : Fr2 g g2 w1 w2) : Fr2 g g2 w w2 :=
  ⟨h2.os.trans h1.os, h2.tape.trans h1.tape, h2.output.trans h1.output, Nat.le_trans h1.size h2.size, fun k hk h3 h4 => (h2.block k (Nat.lt_of_lt_of_le hk h1.size) h3 h4).trans (h1.block k hk h3 h4)⟩
theorem Fr2.set {g g2 : Nat} {w w1 : World} (h : Fr2 g g2 w w1) {k o : Nat} (hk : w.heap.size ≤ k ∨ k = g2) (u : Value) : Fr2 g g2 w (w1.setCell ⟨k, o, none⟩ u) :=
  ⟨h.os, h.tape, h.output, by rw [World.size_setCell]; exact h.size, fun j hj h1 h2 => (heap_setCell_other _ _ _ _ (by simp; omega)).trans (h.block j hj h1 h2)⟩
theorem RdAt.drew {w : World} {B g : Nat} {r : Rd} (h : RdAt w B g r) : RdAt w.drew B g r := ⟨h.box, h.bytes, h.ge⟩
set_option maxHeartbeats 4000000 in
theorem fn_any (B g gp ge : Nat) (r : Rd) (en : Int) (w : World) (h : RdAt w B g r) (hp : w.cell? ⟨gp, 0, none⟩ = some (.pointer (some ⟨g, 0, none⟩))) (hgp : gp < w.heap.size) (hne : gp ≠ g) (he : w.heap[ge]? = some (.cells #[.int .i64 en] 3)) (hge : ge ≠ g) (hBe : B ≤ ge) (e0 : 0 ≤ en) (e1 : en ≤ 1099511627776) :
    Calls Try.prog 44 #[.pointer (some ⟨ge, 0, none⟩), .pointer (some ⟨gp, 0, none⟩)] w fun e w' =>
      e = .returned (.agg #[.string (rdFn (r, en)).1.name, .int .i64 (rdFn (r, en)).1.start, .int .i64 (rdFn (r, en)).1.size]) ∧ RdAt w' B g (rdFn (r, en)).2.1 ∧ w'.heap[ge]? = some (.cells #[.int .i64 (rdFn (r, en)).2.2] 3) ∧ Fr2 g ge w w' := by
  have HR : Hid (RdAt w B g r) := h
  have hgl := h.lt
  have hgB := h.ge
  have hel : ge < w.heap.size := (Array.getElem?_eq_some_iff.1 he).1
  have hec : w.cell? ⟨ge, 0, none⟩ = some (.int .i64 en) := by simp [World.cell?, he]
  have hef : w.frozen? ⟨ge, 0, none⟩ = false := by simp [World.frozen?, he]
  obtain ⟨⟨q1, q2⟩, _⟩ := num_bd r h.bytes
  obtain ⟨n, hn⟩ := Int.eq_ofNat_of_zero_le q1
  have hn2 : n ≤ 255 := by omega
  have HN : Hid ((r.num 1).1 = (n : Int)) := hn
  have HE : Hid _ := he
  clear h q1 q2 hn he
  go_enter Try.func44, Try.ntmps44
  go_wp2_with fail
  obtain ⟨W, hW⟩ : ∃ W, (w.alloc (.cells #[.string ⟨#[]⟩, .int .i64 0, .int .i64 0] 46)).alloc (.cells #[.string ⟨#[]⟩, .int .i64 en, .int .i64 0] 46) = W := ⟨_, rfl⟩
  have zW : W.heap.size = w.heap.size + 2 := by rw [← hW]; simp
  have bW : Below w.heap.size w W := by rw [← hW]; exact ((Below.refl _ _).alloc (Nat.le_refl _) _).alloc (by simp) _
  have hbf : W.heap[w.heap.size + 1]? = some (.cells #[.string ⟨#[]⟩, .int .i64 en, .int .i64 0] 46) := by
    rw [← hW]; show ((w.heap.push _).push _)[w.heap.size + 1]? = _; rw [show w.heap.size + 1 = (w.heap.push (.cells #[.string ⟨#[]⟩, .int .i64 0, .int .i64 0] 46)).size from (Array.size_push ..).symm]; exact Array.getElem?_push_size
  have hbr : W.heap[w.heap.size]? = some (.cells #[.string ⟨#[]⟩, .int .i64 0, .int .i64 0] 46) := by
    rw [← hW]; show ((w.heap.push _).push _)[w.heap.size]? = _; rw [Array.getElem?_push_lt (by simp), Array.getElem_push_eq]
  have RW : Hid (RdAt W B g r) := HR.out.up bW
  have pW : W.cell? ⟨gp, 0, none⟩ = some (.pointer (some ⟨g, 0, none⟩)) := (bW.cell (p := ⟨gp, 0, none⟩) hgp).trans hp
  have eW : W.heap[ge]? = some (.cells #[.int .i64 en] 3) := (bW.block ge hel).trans HE.out
  have FW : Hid (FrG g w W) := ⟨bW.os, bW.tape, bW.output, bW.size, fun k hk _ => bW.block k hk⟩
  have HZ : Hid (W.heap.size = w.heap.size + 2) := zW
  have HBF : Hid _ := hbf
  have HBR : Hid _ := hbr
  have EW : Hid _ := eW
  rw [hW]
  clear hW zW bW hbf hbr eW hec hef hp
  have PP : Hid (∀ w1, Only g W.drew w1 → w1.cell? ⟨gp, 0, none⟩ = some (.pointer (some ⟨g, 0, none⟩)) ∧ w1.heap[w.heap.size + 1]? = some (.cells #[.string ⟨#[]⟩, .int .i64 en, .int .i64 0] 46) ∧ w1.heap[w.heap.size]? = some (.cells #[.string ⟨#[]⟩, .int .i64 0, .int .i64 0] 46) ∧ w1.heap[ge]? = some (.cells #[.int .i64 en] 3)) := fun w1 h1 =>
    ⟨(World.cell?_of_block (a := ⟨gp, 0, none⟩) (h1.block gp hne)).trans pW, (h1.block _ (by omega)).trans HBF.out, (h1.block _ (by omega)).trans HBR.out, (h1.block _ hge).trans EW.out⟩
  go_region_with
    (first
      | (go_at_call 42; refine (number_any B g r 1 _ RW.out.drew (by decide)).mono ?_; rintro e w1 ⟨rfl, hr1, ho1⟩; rw [HN.out]; have p1 := (PP.out w1 ho1).1)
      | (go_at_call 41; refine (take_any B g _ n w1 hr1 (by omega)).mono ?_; rintro e w2 ⟨v2, rfl, hr2, hl2, _, ho2⟩; obtain ⟨av, kv, rfl, _⟩ := hl2.form; have p2 := (PP.out w2 (ho1.trans ho2)).1; have b2 := (PP.out w2 (ho1.trans ho2)).2.1; have cv := conv_list hl2; have c0 : w2.cell? ⟨w.heap.size + 1, 0, none⟩ = some (.string ⟨#[]⟩) := (by simp [World.cell?, b2]); have f0 : w2.frozen? ⟨w.heap.size + 1, 0, none⟩ = false := (by simp [World.frozen?, b2])))
  all_goals
    obtain ⟨bs, hbs⟩ : ∃ bs, ((r.num 1).2.take n).1 = bs := ⟨_, rfl⟩
    have o2 := ho1.trans ho2
    obtain ⟨_, _, rb2, eb2⟩ := PP.out w2 o2
    obtain ⟨W3, hW3⟩ : ∃ W3, w2.setCell ⟨w.heap.size + 1, 0, none⟩ (.string (jstr bs)) = W3 := ⟨_, rfl⟩
    have hz2 : w2.heap.size = W.heap.size := o2.size
    have gn1 : w.heap.size + 1 ≠ g := by omega
    have R3 : Hid (RdAt W3 B g ((r.num 1).2.take n).2) := by rw [← hW3]; exact hr2.set (by omega) gn1 _
    have on3 : Only (w.heap.size + 1) w2 W3 := by rw [← hW3]; exact (Only.refl _ _).set _ _
    have bf3 : W3.heap[w.heap.size + 1]? = some (.cells #[.string (jstr bs), .int .i64 en, .int .i64 0] 46) := by rw [← hW3]; exact heap_setCell_same w2 _ 0 _ _ _ b2
    have br3 := (on3.block w.heap.size (by omega)).trans rb2
    have be3 := (on3.block ge (by omega)).trans eb2
    have F3 : Hid (FrG g w W3) := by rw [← hW3]; exact (FW.out.trans (FrG.trans (FrG.refl g W).drew o2.fr)).set (by omega) _
    have p3 : W3.cell? ⟨gp, 0, none⟩ = some (.pointer (some ⟨g, 0, none⟩)) := (World.cell?_of_block (a := ⟨gp, 0, none⟩) (on3.block gp (by omega))).trans p2
    have z3 : W3.heap.size = w.heap.size + 2 := by rw [on3.size, hz2, HZ.out]
    obtain ⟨_, ⟨q1, q2⟩⟩ := num_bd _ (take_left _ n (take_left r 1 HR.out.bytes))
    have Q : Hid (0 ≤ (((r.num 1).2.take n).2.num 2).1 ∧ (((r.num 1).2.take n).2.num 2).1 ≤ 65535) := ⟨q1, q2⟩
    have BF3 : Hid _ := bf3
    have BR3 : Hid _ := br3
    have BE3 : Hid _ := be3
    have Z3 : Hid _ := z3
    have HBS : Hid _ := hbs
    rw [hbs]
    rw [hW3]
    clear hr1 ho1 hr2 hl2 ho2 p1 p2 b2 cv c0 f0 o2 rb2 eb2 hW3 hz2 on3 bf3 br3 be3 z3 q1 q2 hbs pW
    go_wp2_with fail
    refine (number_any B g _ 2 W3 R3.out (by decide)).mono ?_
    rintro e w4 ⟨rfl, hr4, ho4⟩
    obtain ⟨sz, hsz⟩ : ∃ sz, (((r.num 1).2.take n).2.num 2).1 = sz := ⟨_, rfl⟩
    obtain ⟨q1, q2⟩ := Q.out
    rw [hsz] at q1 q2
    rw [hsz]
    have bf4 := (ho4.block (w.heap.size + 1) (by omega)).trans BF3.out
    have br4 := (ho4.block w.heap.size (by omega)).trans BR3.out
    have be4 := (ho4.block ge hge).trans BE3.out
    have hfn : rdFn (r, en) = (⟨jstr bs, en, sz⟩, ((((r.num 1).2.take n).2.num 2).2, en + sz)) := by
      unfold rdFn
      simp only []
      rw [HN.out, Int.toNat_natCast, HBS.out, hsz]
    have a0 : w4.cell? ⟨w.heap.size + 1, 0, none⟩ = some (.string (jstr bs)) := by simp [World.cell?, bf4]
    have a1 : w4.cell? ⟨w.heap.size + 1, 1, none⟩ = some (.int .i64 en) := by simp [World.cell?, bf4]
    have a2 : w4.cell? ⟨w.heap.size + 1, 2, none⟩ = some (.int .i64 0) := by simp [World.cell?, bf4]
    have g2 : w4.frozen? ⟨w.heap.size + 1, 2, none⟩ = false := by simp [World.frozen?, bf4]
    have c0 : w4.cell? ⟨w.heap.size, 0, none⟩ = some (.string ⟨#[]⟩) := by simp [World.cell?, br4]
    have c1 : w4.cell? ⟨w.heap.size, 1, none⟩ = some (.int .i64 0) := by simp [World.cell?, br4]
    have c2 : w4.cell? ⟨w.heap.size, 2, none⟩ = some (.int .i64 0) := by simp [World.cell?, br4]
    have g3 : ∀ o, w4.frozen? ⟨w.heap.size, o, none⟩ = false := fun o => by simp [World.frozen?, br4]
    have g30 := g3 0; have g31 := g3 1; have g32 := g3 2
    have d0 : w4.cell? ⟨ge, 0, none⟩ = some (.int .i64 en) := by simp [World.cell?, be4]
    have g4 : w4.frozen? ⟨ge, 0, none⟩ = false := by simp [World.frozen?, be4]
    have hs4 : w4.heap.size = w.heap.size + 2 := by rw [ho4.size, Z3.out]
    have nge1 : ¬ ge = w.heap.size + 1 := by omega
    have nge0 : ¬ ge = w.heap.size := by omega
    have HS4 : Hid _ := hs4
    have HFN : Hid _ := hfn
    have HR4 : Hid _ := hr4
    have HO4 : Hid _ := ho4
    have BE4 : Hid _ := be4
    clear g3 hfn hr4 ho4 bf4 br4 be4 hs4 hsz
    have E4 : Hid ((((((w4.setCell ⟨w.heap.size + 1, 2, none⟩ (.int .i64 sz)).setCell ⟨ge, 0, none⟩ (.int .i64 (en + sz))).setCell ⟨w.heap.size, 0, none⟩ (.string (jstr bs))).setCell ⟨w.heap.size, 1, none⟩ (.int .i64 en)).setCell ⟨w.heap.size, 2, none⟩ (.int .i64 sz)).heap[ge]? = some (.cells #[.int .i64 (en + sz)] 3)) := by
      show _ = _
      rw [heap_setCell_other _ _ _ _ (by simpa using nge0), heap_setCell_other _ _ _ _ (by simpa using nge0), heap_setCell_other _ _ _ _ (by simpa using nge0)]
      exact heap_setCell_same _ ge 0 _ _ _ ((heap_setCell_other _ _ _ _ (by simpa using nge1)).trans BE4.out)
    have gn0 : w.heap.size ≠ g := by omega
    have gn1' : w.heap.size + 1 ≠ g := by omega
    have R5 : Hid (RdAt (((((w4.setCell ⟨w.heap.size + 1, 2, none⟩ (.int .i64 sz)).setCell ⟨ge, 0, none⟩ (.int .i64 (en + sz))).setCell ⟨w.heap.size, 0, none⟩ (.string (jstr bs))).setCell ⟨w.heap.size, 1, none⟩ (.int .i64 en)).setCell ⟨w.heap.size, 2, none⟩ (.int .i64 sz)) B g _) := ((((HR4.out.set (by omega) gn1' _).set hBe hge _).set (by omega) gn0 _).set (by omega) gn0 _).set (by omega) gn0 _
    have F5 : Hid (Fr2 g ge w (((((w4.setCell ⟨w.heap.size + 1, 2, none⟩ (.int .i64 sz)).setCell ⟨ge, 0, none⟩ (.int .i64 (en + sz))).setCell ⟨w.heap.size, 0, none⟩ (.string (jstr bs))).setCell ⟨w.heap.size, 1, none⟩ (.int .i64 en)).setCell ⟨w.heap.size, 2, none⟩ (.int .i64 sz))) := (((((F3.out.trans HO4.out.fr).two.set (Or.inl (by omega)) _).set (Or.inr rfl) _).set (Or.inl (by omega)) _).set (Or.inl (by omega)) _).set (Or.inl (by omega)) _
    go_wp2_with fail
    exact bodyPost_ret (v := .agg #[.string (jstr bs), .int .i64 en, .int .i64 sz]) (by simp [results, Try.results44, go_sem, c0, c1, c2]) rfl ⟨by rw [HFN.out], by rw [HFN.out]; exact R5.out, by rw [HFN.out]; exact E4.out, F5.out⟩
end Go.Proofs.Ytmibbjjfijcgpac
