/-
  An image in rows of the call's own: bytes more, functions more.
-/
import Derived.Test.YtechpdfcgimkkaaDoorMYC
import Derived.Test.YtechpdfcgimkkaaDoorWalkRunC
import Derived.Test.YtechpdfcgimkkaaDoorMSC
import Derived.Test.YtechpdfcgimkkaaDoorMAC
import Derived.Test.YtechpdfcgimkkaaDoorMCC
import Derived.Deep.QuietTactic
import Derived.BigQuiet
namespace Go.Proofs.YtechpdfcgimkkaaDoor
open Go.RowKit Go.Joins Isa
theorem OwnImg.at {W : World} {B : Nat} {vT vF vB vD vL : Value} {m : Img} (h : OwnImg W B vT vF vB vD vL m) : ImgAt W vT vF vB vD vL m := by
  obtain ⟨us, h1, h2, h3⟩ := h.tables
  exact ⟨row_list (fun _ => rfl) h.text, row_list (fun _ => rfl) h.funcs, ⟨us, row_list (fun _ => rfl) h1, h2, fun j u t a b => row_list (fun _ => rfl) (h3 j u t a b)⟩, row_list (fun _ => rfl) h.data, row_list (fun _ => rfl) h.lines⟩
theorem ProgI.entry {l : List Rw} {m : Img} (h : ProgI l m) : m.entry = 0 := by
  obtain ⟨cs, _, _, _, rfl⟩ := h
  rfl
theorem OwnImg.up {W W' : World} {B : Nat} {vT vF vB vD vL : Value} {m : Img} (h : OwnImg W B vT vF vB vD vL m) (hb : Below W.heap.size W W') : OwnImg W' B vT vF vB vD vL m := by
  obtain ⟨us, h1, h2, h3⟩ := h.tables
  exact ⟨row_up h.text hb, row_up h.funcs hb, ⟨us, row_up h1 hb, h2, fun j u t a b => row_up (h3 j u t a b) hb⟩, row_up h.data hb, row_up h.lines hb⟩
section
variable {W : World} {B g : Nat} {vT vF vB vD vL en : Value} {m : Img}
theorem OwnImg.addT (h : OwnImg W B vT vF vB vD vL m) (hI : W.heap[g]? = some (.cells #[vT, vF, vB, vD, vL, en] 29)) (hB : B ≤ W.heap.size) (C : Nat) (hCB : C ≤ B) (hCg : C ≤ g) (gn k cap : Nat) (ns : List Int) (hk : k = ns.length)
    (hc : ∀ j u, (flat ucell ns)[j]? = some u → W.cell? ⟨gn, 0 + j, none⟩ = some u) (hs : m.text.length + ns.length ≤ 1000000) :
    ∃ a' c W2, (Builtin.append_ #[23, 23] 23 #[vT, .slice (some ⟨gn, 0, none⟩) k cap]).run Tryd.prog W = .ok (.slice a' (m.text.length + ns.length) c) W2 ∧
      W2.frozen? ⟨g, 0, none⟩ = false ∧ (∃ u, W2.cell? ⟨g, 0, none⟩ = some u) ∧ g < W2.heap.size ∧
      (W2.setCell ⟨g, 0, none⟩ (.slice a' (m.text.length + ns.length) c)).heap[g]? = some (.cells #[.slice a' (m.text.length + ns.length) c, vF, vB, vD, vL, en] 29) ∧
      OwnImg (W2.setCell ⟨g, 0, none⟩ (.slice a' (m.text.length + ns.length) c)) B (.slice a' (m.text.length + ns.length) c) vF vB vD vL ⟨m.text ++ ns, m.funcs, m.tables, m.data, m.lines, m.entry⟩ ∧
      Below C W (W2.setCell ⟨g, 0, none⟩ (.slice a' (m.text.length + ns.length) c)) := by
  subst hk
  obtain ⟨v', W2, hr, ho, gr⟩ := orow_apps 5 23 1 1 _ Tryd.underlying23 inOct rfl (by decide) h.text hB gn 0 ns.length cap (flat ucell ns) (flat_len ucell_len ns) hc (flat_one ucell_one ns) (by omega) (by unfold maxLen; omega)
  obtain ⟨a', c, rfl⟩ := orow_form' ho
  obtain ⟨i2, k1, k2, i3, ho3⟩ := img_grow (o := 0) hI h.text gr ho (by decide)
  obtain ⟨us, h1, h2, h3⟩ := h.tables
  have e1 : flat ucell m.text ++ flat ucell ns = flat ucell (m.text ++ ns) := by simp [flat]
  have e2 : m.text.length + ns.length = (m.text ++ ns).length := by simp
  rw [e1] at ho3
  have hgl := (Array.getElem?_eq_some_iff.1 hI).1
  refine ⟨a', c, W2, hr, by simp [World.frozen?, i2], ⟨vT, by simp [World.cell?, i2]⟩, (Array.getElem?_eq_some_iff.1 i2).1, i3,
    ⟨?_, row_keeps (row_keeps h.funcs k1 (by decide)) k2 (by decide), ⟨us, row_keeps (row_keeps h1 k1 (by decide)) k2 (by decide), h2, fun j u t a b => row_keeps (row_keeps (h3 j u t a b) k1 (by decide)) k2 (by decide)⟩, row_keeps (row_keeps h.data k1 (by decide)) k2 (by decide), row_keeps (row_keeps h.lines k1 (by decide)) k2 (by decide)⟩,
    (obelow_grown (C := C) h.text gr hCB (by omega)).setCell (p := ⟨g, 0, none⟩) hCg _⟩
  show World.ownsRow _ _ _ _ _ (m.text ++ ns).length _
  conv => arg 6; rw [← e2]
  exact ho3
theorem OwnImg.addF (h : OwnImg W B vT vF vB vD vL m) (hI : W.heap[g]? = some (.cells #[vT, vF, vB, vD, vL, en] 29)) (hB : B ≤ W.heap.size) (C : Nat) (hCB : C ≤ B) (hCg : C ≤ g) (gn k cap : Nat) (ns : List Fn) (hk : k = ns.length) (W1 : World) (hW : Below W.heap.size W W1)
    (hc : ∀ j u, (flat Fn.cells ns)[j]? = some u → W1.cell? ⟨gn, 0 + j, none⟩ = some u) (hs : m.funcs.length + ns.length ≤ 1000000) :
    ∃ a' c W2, (Builtin.append_ #[24, 24] 24 #[vF, .slice (some ⟨gn, 0, none⟩) k cap]).run Tryd.prog W1 = .ok (.slice a' (m.funcs.length + ns.length) c) W2 ∧
      W2.frozen? ⟨g, 1, none⟩ = false ∧ (∃ u, W2.cell? ⟨g, 1, none⟩ = some u) ∧ g < W2.heap.size ∧
      (W2.setCell ⟨g, 1, none⟩ (.slice a' (m.funcs.length + ns.length) c)).heap[g]? = some (.cells #[vT, .slice a' (m.funcs.length + ns.length) c, vB, vD, vL, en] 29) ∧
      OwnImg (W2.setCell ⟨g, 1, none⟩ (.slice a' (m.funcs.length + ns.length) c)) B vT (.slice a' (m.funcs.length + ns.length) c) vB vD vL ⟨m.text, m.funcs ++ ns, m.tables, m.data, m.lines, m.entry⟩ ∧
      Below C W (W2.setCell ⟨g, 1, none⟩ (.slice a' (m.funcs.length + ns.length) c)) := by
  subst hk
  have hgl := (Array.getElem?_eq_some_iff.1 hI).1
  replace hI := (hW.block _ hgl).trans hI
  replace h := h.up hW
  have hz := hW.size
  obtain ⟨v', W2, hr, ho, gr⟩ := orow_apps 47 24 3 32 _ Tryd.underlying24 inFn3 rfl (by decide) h.funcs (by omega) gn 0 ns.length cap (flat Fn.cells ns) (flat_len fcell_len ns) hc (flat_one fcell_one ns) (by omega) (by unfold maxLen; omega)
  obtain ⟨a', c, rfl⟩ := orow_form' ho
  obtain ⟨i2, k1, k2, i3, ho3⟩ := img_grow (o := 1) hI h.funcs gr ho (by decide)
  obtain ⟨us, h1, h2, h3⟩ := h.tables
  have e1 : flat Fn.cells m.funcs ++ flat Fn.cells ns = flat Fn.cells (m.funcs ++ ns) := by simp [flat]
  have e2 : m.funcs.length + ns.length = (m.funcs ++ ns).length := by simp
  rw [e1] at ho3
  refine ⟨a', c, W2, hr, by simp [World.frozen?, i2], ⟨vF, by simp [World.cell?, i2]⟩, (Array.getElem?_eq_some_iff.1 i2).1, i3,
    ⟨row_keeps (row_keeps h.text k1 (by decide)) k2 (by decide), ?_, ⟨us, row_keeps (row_keeps h1 k1 (by decide)) k2 (by decide), h2, fun j u t a b => row_keeps (row_keeps (h3 j u t a b) k1 (by decide)) k2 (by decide)⟩, row_keeps (row_keeps h.data k1 (by decide)) k2 (by decide), row_keeps (row_keeps h.lines k1 (by decide)) k2 (by decide)⟩,
    (hW.mono (by omega)).trans ((obelow_grown (C := C) h.funcs gr hCB (by omega)).setCell (p := ⟨g, 1, none⟩) hCg _)⟩
  show World.ownsRow _ _ _ _ _ (m.funcs ++ ns).length _
  conv => arg 6; rw [← e2]
  exact ho3
end
end Go.Proofs.YtechpdfcgimkkaaDoor
/-
  A run's answer laid into a box of the call's own; a run of a program whose answer is known; a program's first run.
-/
namespace Go.Proofs.YtechpdfcgimkkaaDoor
open Go.RowKit Go.Joins Isa
abbrev runZ : Obj := .cells #[.slice none 0 0, .int .i64 0, .int .i64 0, .int .i64 0] 52
theorem box_end1 {w2 wr : World} {gb B C : Nat} {v x0 x1 x2 x3 : Value} {t : List Int} (hZ : wr.heap[gb]? = some (.cells #[x0, x1, x2, x3] 52)) (ho : wr.ownsRow B 3 1 v t.length (flat icell t)) (hg : gb < B) (hb : Below C w2 wr) (hC : C ≤ gb) (y0 y1 y2 y3 : Value) :
    ((((wr.setCell ⟨gb, 0, none⟩ y0).setCell ⟨gb, 1, none⟩ y1).setCell ⟨gb, 2, none⟩ y2).setCell ⟨gb, 3, none⟩ y3).heap[gb]? = some (.cells #[y0, y1, y2, y3] 52) ∧
      ListAt ((((wr.setCell ⟨gb, 0, none⟩ y0).setCell ⟨gb, 1, none⟩ y1).setCell ⟨gb, 2, none⟩ y2).setCell ⟨gb, 3, none⟩ y3) icell 1 v t ∧ Below C w2 ((((wr.setCell ⟨gb, 0, none⟩ y0).setCell ⟨gb, 1, none⟩ y1).setCell ⟨gb, 2, none⟩ y2).setCell ⟨gb, 3, none⟩ y3) := by
  have h0 := heap_setCell_same wr gb 0 _ _ y0 hZ
  have h1 := heap_setCell_same _ gb 1 _ _ y1 h0
  have h2 := heap_setCell_same _ gb 2 _ _ y2 h1
  have h3 := heap_setCell_same _ gb 3 _ _ y3 h2
  have ne : ∀ k, k ≠ gb → ((((wr.setCell ⟨gb, 0, none⟩ y0).setCell ⟨gb, 1, none⟩ y1).setCell ⟨gb, 2, none⟩ y2).setCell ⟨gb, 3, none⟩ y3).heap[k]? = wr.heap[k]? := fun k hk =>
    (heap_setCell_other _ _ _ _ hk).trans ((heap_setCell_other _ _ _ _ hk).trans ((heap_setCell_other _ _ _ _ hk).trans (heap_setCell_other _ _ _ _ hk)))
  refine ⟨h3, row_list icell_len (row_same ho fun k hk => ne k (by have := (row_block ho hk).1; omega)), (((hb.setCell (p := ⟨gb, 0, none⟩) hC y0).setCell (p := ⟨gb, 1, none⟩) hC y1).setCell (p := ⟨gb, 2, none⟩) hC y2).setCell (p := ⟨gb, 3, none⟩) hC y3⟩
theorem box_end2 {w2 wr : World} {B C : Nat} {v : Value} {t : List Int} (ho : wr.ownsRow B 3 1 v t.length (flat icell t)) (hb : Below C w2 wr) (hC : C ≤ wr.heap.size) (ob : Obj) :
    (wr.alloc ob).heap[wr.heap.size]? = some ob ∧ ListAt (wr.alloc ob) icell 1 v t ∧ Below C w2 (wr.alloc ob) :=
  ⟨heap_alloc_new _ _, row_list icell_len (row_up ho ((Below.refl _ _).alloc (Nat.le_refl _) _)), hb.alloc hC _⟩
theorem run_four {W : World} {g : Nat} {x0 x1 x2 x3 : Value} {T : TypeId} (h : W.heap[g]? = some (.cells #[x0, x1, x2, x3] T)) :
    W.cell? ⟨g, 0, none⟩ = some x0 ∧ W.cell? ⟨g, 1, none⟩ = some x1 ∧ W.cell? ⟨g, 2, none⟩ = some x2 ∧ W.cell? ⟨g, 3, none⟩ = some x3 := by
  refine ⟨?_, ?_, ?_, ?_⟩ <;> simp [World.cell?, h]
theorem free_four {W : World} {g : Nat} {x0 x1 x2 x3 : Value} {T : TypeId} (h : W.heap[g]? = some (.cells #[x0, x1, x2, x3] T)) :
    W.frozen? ⟨g, 0, none⟩ = false ∧ W.frozen? ⟨g, 1, none⟩ = false ∧ W.frozen? ⟨g, 2, none⟩ = false ∧ W.frozen? ⟨g, 3, none⟩ = false := by
  refine ⟨?_, ?_, ?_, ?_⟩ <;> simp [World.frozen?, h]
theorem img_six {W : World} {g : Nat} {x0 x1 x2 x3 x4 x5 : Value} {T : TypeId} (h : W.heap[g]? = some (.cells #[x0, x1, x2, x3, x4, x5] T)) :
    W.cell? ⟨g, 0, none⟩ = some x0 ∧ W.cell? ⟨g, 1, none⟩ = some x1 ∧ W.cell? ⟨g, 2, none⟩ = some x2 ∧ W.cell? ⟨g, 3, none⟩ = some x3 ∧ W.cell? ⟨g, 4, none⟩ = some x4 ∧ W.cell? ⟨g, 5, none⟩ = some x5 := by
  refine ⟨?_, ?_, ?_, ?_, ?_, ?_⟩ <;> simp [World.cell?, h]
theorem far_four {W : World} {g gb : Nat} (hne : ¬ g = gb) (y0 y1 y2 y3 : Value) (o : Nat) : ((((W.setCell ⟨gb, 0, none⟩ y0).setCell ⟨gb, 1, none⟩ y1).setCell ⟨gb, 2, none⟩ y2).setCell ⟨gb, 3, none⟩ y3).cell? ⟨g, o, none⟩ = W.cell? ⟨g, o, none⟩ := by
  have h : ((((W.setCell ⟨gb, 0, none⟩ y0).setCell ⟨gb, 1, none⟩ y1).setCell ⟨gb, 2, none⟩ y2).setCell ⟨gb, 3, none⟩ y3).heap[g]? = W.heap[g]? :=
    (heap_setCell_other _ _ _ _ hne).trans ((heap_setCell_other _ _ _ _ hne).trans ((heap_setCell_other _ _ _ _ hne).trans (heap_setCell_other _ _ _ _ hne)))
  simp only [World.cell?, h]
theorem six_far {W : World} {g gb : Nat} (hne : ¬ g = gb) {x0 x1 x2 x3 x4 x5 : Value} (h : W.cell? ⟨g, 0, none⟩ = some x0 ∧ W.cell? ⟨g, 1, none⟩ = some x1 ∧ W.cell? ⟨g, 2, none⟩ = some x2 ∧ W.cell? ⟨g, 3, none⟩ = some x3 ∧ W.cell? ⟨g, 4, none⟩ = some x4 ∧ W.cell? ⟨g, 5, none⟩ = some x5) (y0 y1 y2 y3 : Value) :
    ((((W.setCell ⟨gb, 0, none⟩ y0).setCell ⟨gb, 1, none⟩ y1).setCell ⟨gb, 2, none⟩ y2).setCell ⟨gb, 3, none⟩ y3).cell? ⟨g, 0, none⟩ = some x0 ∧ ((((W.setCell ⟨gb, 0, none⟩ y0).setCell ⟨gb, 1, none⟩ y1).setCell ⟨gb, 2, none⟩ y2).setCell ⟨gb, 3, none⟩ y3).cell? ⟨g, 1, none⟩ = some x1 ∧ ((((W.setCell ⟨gb, 0, none⟩ y0).setCell ⟨gb, 1, none⟩ y1).setCell ⟨gb, 2, none⟩ y2).setCell ⟨gb, 3, none⟩ y3).cell? ⟨g, 2, none⟩ = some x2 ∧ ((((W.setCell ⟨gb, 0, none⟩ y0).setCell ⟨gb, 1, none⟩ y1).setCell ⟨gb, 2, none⟩ y2).setCell ⟨gb, 3, none⟩ y3).cell? ⟨g, 3, none⟩ = some x3 ∧ ((((W.setCell ⟨gb, 0, none⟩ y0).setCell ⟨gb, 1, none⟩ y1).setCell ⟨gb, 2, none⟩ y2).setCell ⟨gb, 3, none⟩ y3).cell? ⟨g, 4, none⟩ = some x4 ∧ ((((W.setCell ⟨gb, 0, none⟩ y0).setCell ⟨gb, 1, none⟩ y1).setCell ⟨gb, 2, none⟩ y2).setCell ⟨gb, 3, none⟩ y3).cell? ⟨g, 5, none⟩ = some x5 := by
  obtain ⟨h0, h1, h2, h3, h4, h5⟩ := h
  exact ⟨(far_four hne _ _ _ _ _).trans h0, (far_four hne _ _ _ _ _).trans h1, (far_four hne _ _ _ _ _).trans h2, (far_four hne _ _ _ _ _).trans h3, (far_four hne _ _ _ _ _).trans h4, (far_four hne _ _ _ _ _).trans h5⟩
theorem list_front {w : World} {a : Option Addr} {n c : Nat} {xs : List Int} (h : ListAt w icell 1 (.slice a n c) xs) (k : Nat) (hk : k ≤ xs.length) : ListAt w icell 1 (.slice a k c) (xs.take k) ∧ k ≤ c := by
  rcases h with ⟨a', c', hv, rfl⟩ | ⟨bb, oo, cap, hv, h1, h2, h3, h4⟩
  · have hk0 : k = 0 := by simpa using hk
    subst hk0
    exact ⟨Or.inl ⟨_, _, rfl, rfl⟩, Nat.zero_le _⟩
  · obtain ⟨rfl, rfl, rfl⟩ : a = some ⟨bb, oo, none⟩ ∧ n = xs.length ∧ c = cap := by simpa using hv
    refine ⟨?_, by omega⟩
    rcases Nat.eq_zero_or_pos k with rfl | q
    · exact Or.inl ⟨_, _, rfl, by simp⟩
    · refine Or.inr ⟨bb, oo, c, by rw [List.length_take]; congr 1; omega, by rw [List.length_take]; omega, h2, h3, fun j x hj => h4 j x ?_⟩
      rw [List.getElem?_take] at hj
      split at hj
      · exact hj
      · cases hj
/-- A program's image is one that may be run. -/
theorem ProgI.run {l : List Rw} {m : Img} (h : ProgI l m) {ins : List Int} {fuel : Int} (h0 : 0 ≤ fuel) (h1 : fuel ≤ 100000) (h2 : ins.length ≤ 100) (h3 : ∀ x ∈ ins, -1099511627776 ≤ x ∧ x ≤ 1099511627776) : runChk m ins fuel = 0 := by
  have hc := h.chk.1
  unfold runChk
  rw [if_neg (by rw [hc]; simp), if_neg (by omega), if_neg (by omega), if_neg]
  intro q
  obtain ⟨x, hx, hq⟩ := List.any_eq_true.1 q
  have := h3 x hx
  simp [farB] at hq
  omega
theorem run_zero {m : Img} {ins : List Int} (h : runChk m ins 0 = 0) : runOut m ins 0 = ⟨[], 3, 0, (mc0 m ins (m.funcs.getD m.entry.toNat noFn)).pc⟩ := by
  unfold runOut
  rw [if_pos h]
  rfl
end Go.Proofs.YtechpdfcgimkkaaDoor
/-
  Runs that are refused.
-/
namespace Go.Proofs.YtechpdfcgimkkaaDoor
open Go.RowKit Go.Joins Isa
theorem run_refused {l : List Rw} {m : Img} (hm : ProgI l m) {vT vF vB vD vL vI : Value} {B : Nat} {w W : World} (hO : OwnImg w B vT vF vB vD vL m) (hb : Below w.heap.size w W) (ht : Tabs W) {ins : List Int} {fuel r : Int} (hin : ListAt W icell 1 vI ins) (hr : runChk m ins fuel = r) (hne : r ≠ 0) :
    Calls Tryd.prog 26 #[.agg #[vT, vF, vB, vD, vL, .int .i64 0], vI, .int .i64 fuel] W fun e w' => ∃ a c, e = .returned (.tuple #[.agg #[.slice a 0 c, .int .i64 0, .int .i64 0, .int .i64 0], .int .i64 r]) ∧ Below W.heap.size W w' := by
  have := run_own vT vF vB vD vL vI m ins fuel W (hO.at.stays (Nat.le_refl _) hb) hm.chk.2.1 ht hin
  have hro : runOut m ins fuel = ⟨[], 0, 0, 0⟩ := by unfold runOut; rw [if_neg (by rw [hr]; exact hne)]
  rw [hm.entry, hro, hr] at this
  refine this.mono ?_
  rintro e w' ⟨vO, rfl, ho, hb'⟩
  obtain ⟨a, c, rfl⟩ := orow_form' ho
  exact ⟨a, c, rfl, hb'⟩
theorem ProgI.far {l : List Rw} {m : Img} (hm : ProgI l m) : runChk m (List.replicate 101 0) 1 = 1 ∧ (∀ k : Int, 0 ≤ k → runChk m [] (-1 - k) = 2) ∧ runChk m [1099511627777] 1 = 2 := by
  have hc := hm.chk.1
  refine ⟨?_, fun k hk => ?_, ?_⟩
  · unfold runChk
    rw [if_neg (by rw [hc]; simp), if_neg (by omega), if_pos (by simp)]
  · unfold runChk
    rw [if_neg (by rw [hc]; simp), if_pos (by omega)]
  · unfold runChk
    rw [if_neg (by rw [hc]; simp), if_neg (by omega), if_neg (by simp), if_pos (by decide)]
theorem keepB {W w' : World} (hb : Below W.heap.size W w') : ∀ (k : Nat) (o : Obj), W.heap[k]? = some o → w'.heap[k]? = some o := fun k _ q => (hb.block k (Array.getElem?_eq_some_iff.1 q).1).trans q
theorem keepD {W w' : World} (hb : Below W.drew.heap.size W.drew w') : ∀ (k : Nat) (o : Obj), W.heap[k]? = some o → w'.heap[k]? = some o := fun k _ q => (hb.block k (Array.getElem?_eq_some_iff.1 q).1).trans q
theorem alloc2_new (w : World) (a b : Obj) : ((w.alloc a).alloc b).heap[w.heap.size + 1]? = some b := by
  show ((w.heap.push a).push b)[w.heap.size + 1]? = _
  rw [Array.getElem?_push, if_pos (by simp only [Array.size_push])]
theorem alloc2_old (w : World) (a b : Obj) : ((w.alloc a).alloc b).heap[w.heap.size]? = some a := by
  show ((w.heap.push a).push b)[w.heap.size]? = _
  rw [Array.getElem?_push, if_neg (by simp only [Array.size_push]; omega), Array.getElem?_push, if_pos rfl]
theorem alloc_keep {w : World} {k : Nat} {o : Obj} (h : w.heap[k]? = some o) (a : Obj) : (w.alloc a).heap[k]? = some o := (heap_alloc_old _ _ (Array.getElem?_eq_some_iff.1 h).1).trans h
theorem four_below {C gb : Nat} {w wr : World} (h : Below C w wr) (hC : C ≤ gb) (y0 y1 y2 y3 : Value) : Below C w ((((wr.setCell ⟨gb, 0, none⟩ y0).setCell ⟨gb, 1, none⟩ y1).setCell ⟨gb, 2, none⟩ y2).setCell ⟨gb, 3, none⟩ y3) :=
  (((h.setCell (p := ⟨gb, 0, none⟩) hC y0).setCell (p := ⟨gb, 1, none⟩) hC y1).setCell (p := ⟨gb, 2, none⟩) hC y2).setCell (p := ⟨gb, 3, none⟩) hC y3
theorem made_zero (n : Nat) : madeCells (Value.int .i64 0).cells n = (List.replicate n (Value.int .i64 0)).toArray := by
  apply Array.ext
  · simp [madeCells]
  · intro i h1 h2
    simp [madeCells, Value.cells, Nat.mod_one]
/-- A slice of 101 zeros. -/
theorem make_far : ∃ M : Obj, (∀ w : World, (Instr.makeSlice 26 (.int .i64 101) (.int .i64 101)).run Tryd.prog w = .ok (.slice (some ⟨w.heap.size, 0, none⟩) 101 101) (w.alloc M)) ∧ ∀ (W : World) (g : Nat), W.heap[g]? = some M → ListAt W icell 1 (.slice (some ⟨g, 0, none⟩) 101 101) (List.replicate 101 0) := by
  obtain ⟨i, hi, hz0, hz1, hz2⟩ := info_of inInt
  have hm := fun w => make_wide (P := Tryd.prog) 26 3 i _ Tryd.underlying26 hi hz0 101 (by rw [hz2]; decide) (by decide) w
  rw [hz1, made_zero] at hm
  refine ⟨_, hm, fun W g hg => Or.inr ⟨g, 0, 101, by simp, by simp, by unfold maxLen; decide, (Array.getElem?_eq_some_iff.1 hg).1, fun j x hj o u hu => ?_⟩⟩
  have ho : o = 0 := by
    rcases Nat.lt_or_ge o 1 with q | q
    · omega
    · rw [List.getElem?_eq_none (by rw [icell_len]; exact q)] at hu; cases hu
  subst ho
  have hj1 : j < 101 := by
    have := (List.getElem?_eq_some_iff.1 hj).1
    simpa using this
  rw [List.getElem?_replicate, if_pos hj1] at hj
  obtain rfl : 0 = x := by simpa using hj
  simp only [World.cell?, hg, List.getElem?_toArray, Nat.mul_one, Nat.add_zero, Nat.zero_add]
  rw [List.getElem?_replicate, if_pos hj1]
  exact hu
end Go.Proofs.YtechpdfcgimkkaaDoor
/-
  Plain: a program that asks for an input and tells it, so often.
-/
namespace Go.Proofs.YtechpdfcgimkkaaDoor
open Go.RowKit Go.Joins Isa
def inI : Ins := ⟨16, 1, 0, 0, 0, false⟩
def outI : Ins := ⟨17, 0, 1, 0, 0, false⟩
def inL : Nat → List Ins
  | 0 => []
  | k + 1 => inL k ++ [inI, outI]
theorem inL_len : ∀ k, (inL k).length = 2 * k
  | 0 => rfl
  | k + 1 => by rw [inL, List.length_append, inL_len k]; rfl
theorem inL_take : ∀ (k i : Nat), i ≤ k → (inL k).take (2 * i) = inL i
  | 0, i, h => by obtain rfl : i = 0 := by omega
                  rfl
  | k + 1, i, h => by
    rw [inL]
    by_cases q : i = k + 1
    · subst q
      rw [List.take_of_length_le (by rw [List.length_append, inL_len]; simp; omega), inL]
    · rw [List.take_append_of_le_length (by rw [inL_len]; omega)]
      exact inL_take k i (by omega)
theorem inL_at : ∀ (k i : Nat), i < k → (inL k)[2 * i]? = some inI ∧ (inL k)[2 * i + 1]? = some outI
  | 0, i, h => by omega
  | k + 1, i, h => by
    rw [inL]
    by_cases q : i = k
    · subst q
      rw [List.getElem?_append_right (by rw [inL_len]; omega), List.getElem?_append_right (by rw [inL_len]; omega), inL_len, Nat.sub_self, show 2 * i + 1 - 2 * i = 1 by omega]
      exact ⟨rfl, rfl⟩
    · rw [List.getElem?_append_left (by rw [inL_len]; omega), List.getElem?_append_left (by rw [inL_len]; omega)]
      exact inL_at k i (by omega)
theorem inL_ok : ∀ (k : Nat), ∀ i ∈ inL k, i.chk = 0
  | 0, i, h => by cases h
  | k + 1, i, h => by
    rw [inL, List.mem_append] at h
    rcases h with h | h
    · exact inL_ok k i h
    · simp at h
      rcases h with rfl | rfl
      · decide
      · decide
theorem inL_siz : ∀ k, ((inL k).map fun i => siz i.k i.l).sum = 4 * (k : Int)
  | 0 => rfl
  | k + 1 => by
    rw [inL, List.map_append, List.sum_append, inL_siz k]
    have : ([inI, outI].map fun i => siz i.k i.l).sum = 4 := by decide
    rw [this]; omega
theorem inL_off (k i : Nat) (h : i ≤ k) : offI (inL k ++ [haltI]) (2 * i) = 4 * (i : Int) := by
  unfold offI
  rw [List.take_append_of_le_length (by rw [inL_len]; omega), inL_take k i h, inL_siz]
theorem inL_off1 (k i : Nat) (h : i < k) : offI (inL k ++ [haltI]) (2 * i + 1) = 4 * (i : Int) + 2 := by
  have h1 := inL_off k i (by omega)
  unfold offI at *
  have hg : (inL k ++ [haltI])[2 * i]? = some inI := by rw [List.getElem?_append_left (by rw [inL_len]; omega)]; exact (inL_at k i h).1
  rw [List.take_add_one, hg, List.map_append, List.sum_append, h1]
  rfl
def toldIn : Nat → List Int → List Int
  | 0, _ => []
  | d + 1, ins => ins.headD 0 :: toldIn d ins.tail
theorem toldIn_next : ∀ (k : Nat) (l : List Int), toldIn (k + 1) l = toldIn k l ++ [l.getD k 0]
  | 0, l => by cases l <;> rfl
  | k + 1, l => by
    rw [toldIn, toldIn_next k l.tail, toldIn]
    cases l <;> rfl
theorem toldIn_len : ∀ (k : Nat) (l : List Int), (toldIn k l).length = k
  | 0, _ => rfl
  | k + 1, l => by rw [toldIn, List.length_cons, toldIn_len k]
def inS (x : Int) (ins t : List Int) (pc : Int) : Mc := ⟨regs0.set 1 ⟨x, false⟩, mem0, ins, t, pc⟩
theorem inL_run (k : Nat) : ∀ (d i : Nat) (x : Int) (ins t : List Int) (n : Nat) (st : Int), i + d = k →
    ∃ y, runN (encAll (inL k ++ [haltI])) [] (n + 2 * d + 1) st (inS x ins t (4 * (i : Int))) = (inS y (ins.drop d) (t ++ toldIn d ins) (4 * (k : Int)), 1, st + 2 * d)
  | 0, i, x, ins, t, n, st, h => by
    obtain rfl : i = k := by omega
    have hok : ∀ j ∈ inL i ++ [haltI], j.chk = 0 := fun j hj => by
      rcases List.mem_append.1 hj with hj | hj
      · exact inL_ok i j hj
      · simp at hj; subst hj; decide
    refine ⟨x, ?_⟩
    have := run_stop hok (j := 2 * i) (i := haltI) (by rw [List.getElem?_append_right (by rw [inL_len]; omega), inL_len, Nat.sub_self]; rfl) (tabs := []) (n := n + 2 * 0) (st := st) (e := 1) (s := inS x ins t (4 * (i : Int))) (inL_off i i (Nat.le_refl _)).symm rfl (by decide)
    rw [this]
    simp [toldIn]
  | d + 1, i, x, ins, t, n, st, h => by
    have hok : ∀ j ∈ inL k ++ [haltI], j.chk = 0 := fun j hj => by
      rcases List.mem_append.1 hj with hj | hj
      · exact inL_ok k j hj
      · simp at hj; subst hj; decide
    have hi : i < k := by omega
    obtain ⟨a1, a2⟩ := inL_at k i hi
    obtain ⟨y, hy⟩ := inL_run k d (i + 1) (ins.headD 0) ins.tail (t ++ [ins.headD 0]) n (st + 2) (by omega)
    have e1 : ins.tail.drop d = ins.drop (d + 1) := by cases ins <;> simp
    have e2 : t ++ [ins.headD 0] ++ toldIn d ins.tail = t ++ toldIn (d + 1) ins := by rw [toldIn, List.append_assoc]; rfl
    rw [e1, e2, show st + 2 + 2 * (d : Int) = st + 2 * ((d + 1 : Nat) : Int) by omega] at hy
    refine ⟨y, ?_⟩
    have s2 := run_step hok (j := 2 * i + 1) (i := outI) (by rw [List.getElem?_append_left (by rw [inL_len]; omega)]; exact a2) (tabs := []) (n := n + 2 * d + 1) (st := st + 1) (s := inS (ins.headD 0) ins.tail t (4 * (i : Int) + 2)) (s' := inS (ins.headD 0) ins.tail (t ++ [ins.headD 0]) (4 * (i : Int) + 2 + 2)) (r := (inS y (ins.drop (d + 1)) (t ++ toldIn (d + 1) ins) (4 * (k : Int)), 1, st + 2 * ((d + 1 : Nat) : Int))) (inL_off1 k i hi).symm rfl rfl (by
      rw [show st + 1 + 1 = st + 2 by omega, show 4 * (i : Int) + 2 + 2 = 4 * ((i + 1 : Nat) : Int) by omega]
      exact hy)
    have s1 := run_step hok (j := 2 * i) (i := inI) (by rw [List.getElem?_append_left (by rw [inL_len]; omega)]; exact a1) (tabs := []) (n := n + 2 * d + 1 + 1) (st := st) (s := inS x ins t (4 * (i : Int))) (s' := inS (ins.headD 0) ins.tail t (4 * (i : Int) + 2)) (inL_off k i (by omega)).symm rfl rfl s2
    rw [show n + 2 * (d + 1) + 1 = n + 2 * d + 1 + 1 + 1 by omega, s1]
/-- What is told. -/
theorem inL_told (k : Nat) (hk : k ≤ 11) (ins : List Int) (h : runChk (aloneI (inL k)) ins 100 = 0) : ∃ st pc, runOut (aloneI (inL k)) ins 100 = ⟨toldIn k ins, 1, st, pc⟩ := by
  obtain ⟨y, hy⟩ := inL_run k k 0 0 ins [] (99 - 2 * k) 0 (by omega)
  rw [show 99 - 2 * k + 2 * k + 1 = 100 by omega] at hy
  have := told_out (fuel := 100) h hy
  exact ⟨_, _, this⟩
end Go.Proofs.YtechpdfcgimkkaaDoor
/-
  boltholekeep.inputs: at most eight numbers, from -5 to 14, in a row of its own.
-/
namespace Go.Proofs.YtechpdfcgimkkaaDoor
open Go.RowKit Go.Joins Isa
def inOf (l : List Int) : List Int := (l.take 8).map fun x => pk x 20 - 5
theorem inOf_len (l : List Int) : (inOf l).length ≤ 8 := by unfold inOf; rw [List.length_map, List.length_take]; omega
theorem inOf_bd (l : List Int) : ∀ x ∈ inOf l, -5 ≤ x ∧ x ≤ 14 := fun x hx => by
  obtain ⟨y, _, rfl⟩ := List.mem_map.1 (show x ∈ (l.take 8).map _ from hx)
  have := pk_bd y 20 (by decide)
  omega
theorem inOf_next (l : List Int) (k : Nat) (x : Int) (h8 : k < 8) (hx : l[k]? = some x) : inOf (l.take (k + 1)) = inOf (l.take k) ++ [pk x 20 - 5] := by
  unfold inOf
  rw [List.take_take, List.take_take, Nat.min_eq_right (by omega), Nat.min_eq_right (by omega), List.take_add_one, hx, List.map_append]
  rfl
set_option maxRecDepth 100000 in
set_option maxHeartbeats 2000000 in
theorem inputs_any (v : Value) (l : List Int) (w : World) (h : ListAt w icell 1 v l) (hb : ∀ x ∈ l, i64 x) :
    Calls Tryd.prog 36 #[v] w fun e w' => ∃ a c, e = .returned (.slice a (inOf l).length c) ∧ w'.ownsRow w.heap.size 3 1 (.slice a (inOf l).length c) (inOf l).length (flat icell (inOf l)) ∧ Below w.heap.size w w' := by
  obtain ⟨aa, cp, rfl, hlen⟩ := h.form
  have H : Hid (ListAt w icell 1 (.slice aa l.length cp) l) := h
  have HB : Hid _ := hb
  unfold maxLen at hlen
  clear h hb
  go_enter Tryd.func36, Tryd.ntmps36
  go_wp2_with fail
  go_loopw [3, 4] (fun ov kv wr => ∃ k : Nat, kv = .int .i64 (k : Int) ∧ k ≤ l.length ∧ k ≤ 8 ∧ (∃ a c, ov = .slice a k c) ∧ Hid (wr.ownsRow w.heap.size 3 1 ov (inOf (l.take k)).length (flat icell (inOf (l.take k)))) ∧ Hid (Below w.heap.size w wr)) (fun _ kv _ => (8 - intOf kv).toNat)
  case atStart => exact ⟨0, rfl, by omega, by omega, ⟨none, 0, rfl⟩, World.ownsRow_nil _ _ _ _, Below.refl _ _⟩
  case round =>
    obtain ⟨k, rfl, k1, k8, ⟨aO, cO, rfl⟩, ho, hbe⟩ := hrel
    by_cases hk : k < l.length
    · have d1 : decide ((k : Int) < (l.length : Int)) = true := by simp; omega
      have hkk : (k : Int) < (l.length : Int) := by omega
      by_cases h8 : k < 8
      · have d2 : decide ((k : Int) < 8) = true := by simp; omega
        have h88 : (k : Int) < 8 := by omega
        obtain ⟨x, hx⟩ : ∃ x, l[k]? = some x := ⟨_, List.getElem?_eq_getElem hk⟩
        obtain ⟨bb, oo, c2, hv, c1, c3, c4, c5⟩ := H.out.resolve_left (by rintro ⟨_, _, _, h⟩; rw [h] at hk; simp at hk)
        obtain ⟨rfl, rfl⟩ : aa = some ⟨bb, oo, none⟩ ∧ cp = c2 := by simpa using hv
        have x0 := (hbe.out.cell (p := ⟨bb, _, none⟩) c4).trans (c5 k x hx 0 _ rfl)
        simp only [Nat.mul_one, Nat.add_zero] at x0
        obtain ⟨q0, q1⟩ := HB.out x (List.mem_of_getElem? hx)
        obtain ⟨p0, p1⟩ := pk_bd x 20 (by decide)
        have PK : Hid (∀ W, Calls Tryd.prog 19 #[.int .i64 x, .int .i64 20] W fun e w' => e = .returned (.int .i64 (pk x 20)) ∧ w' = W) := fun W => picked_any x 20 W (by decide) q0 q1
        have HN : Hid (inOf (l.take (k + 1)) = inOf (l.take k) ++ [pk x 20 - 5]) := by
          exact inOf_next l k x h8 hx
        have hil : (inOf (l.take k)).length = k := by unfold inOf; rw [List.length_map, List.length_take, List.length_take]; omega
        have hw : IntKind.i64.wrap (pk x 20 - 5) = pk x 20 - 5 := by rw [IntKind.wrap_i64]; omega
        have hzw : w.heap.size ≤ wr.heap.size := hbe.out.size
        have hbb : bb < wr.heap.size := by omega
        generalize pk x 20 = P at *
        obtain ⟨a3, c6, W3, r1, r2, r3, -⟩ := app_intK ho.out hzw (by omega) (P - 5) (wr.alloc (.cells #[.int .i64 (P - 5)] 3)) ((Below.refl _ _).alloc (Nat.le_refl _) _) wr.heap.size (by exact (World.cell?_alloc_new _ _ _ 0).trans rfl)
        rw [hil] at r1
        rw [← HN.out] at r2
        conv at r2 => arg 5; rw [hil]
        have HR1 := hid r1
        have HR2 := hid r2
        have HR3 : Hid (Below w.heap.size w W3) := hbe.out.trans r3
        clear r1 r2 r3 hil c5 hx hv ho
        go_wp2_with (first
          | (go_at_call 19; refine (PK.out _).mono ?_; rintro e w' ⟨rfl, rfl⟩)
          | (at_builtin; refine wpList_append_pair _ rfl (.tmp 15) (.tmp 22) 26 26 rfl _ _ rfl rfl HR1.out ?_))
        go_roundw
        case rel => exact ⟨k + 1, by go_num, by omega, by omega, ⟨a3, c6, rfl⟩, HR2.out, HR3.out⟩
        case measure => first | (simp [intOf]; done) | (simp [intOf]; omega)
      · obtain rfl : k = 8 := by omega
        have HE : Hid (inOf (l.take 8) = inOf l) := by show _ = _; unfold inOf; rw [List.take_take]; rfl
        have hE8 : (inOf l).length = 8 := by unfold inOf; rw [List.length_map, List.length_take]; omega
        go_wp2_with fail
        go_ret
        refine ⟨aO, cO, by rw [hE8]; rfl, ?_, hbe.out⟩
        rw [hE8]
        have := ho.out
        rw [HE.out, hE8] at this
        exact this
    · obtain rfl : k = l.length := by omega
      have HE : Hid (inOf (l.take l.length) = inOf l) := by show _ = _; rw [List.take_length]
      have hE8 : (inOf l).length = l.length := by unfold inOf; rw [List.length_map, List.length_take]; omega
      have d1 : decide ((l.length : Int) < (l.length : Int)) = false := by simp
      go_wp2_with fail
      go_ret
      refine ⟨aO, cO, by rw [hE8]; rfl, ?_, hbe.out⟩
      have := ho.out
      rw [HE.out] at this
      conv => arg 5; rw [hE8]
      exact this
end Go.Proofs.YtechpdfcgimkkaaDoor
/-
  slices.Equal at two slices of numbers.
-/
namespace Go.Proofs.YtechpdfcgimkkaaDoor
open Go.RowKit Go.Joins
set_option maxHeartbeats 1000000 in
theorem equal_any (v1 v2 : Value) (xs ys : List Int) (w : World) (h1 : ListAt w icell 1 v1 xs) (h2 : ListAt w icell 1 v2 ys) :
    Calls Tryd.prog 34 #[v1, v2] w fun e w' => e = .returned (.bool (decide (xs = ys))) ∧ ∃ n, w' = w.drewN n := by
  obtain ⟨a1, p1, rfl, hlen⟩ := h1.form
  obtain ⟨a2, p2, rfl, hlen2⟩ := h2.form
  have H1 : Hid (ListAt w icell 1 (.slice a1 xs.length p1) xs) := h1
  have H2 : Hid (ListAt w icell 1 (.slice a2 ys.length p2) ys) := h2
  unfold maxLen at hlen hlen2
  clear h1 h2
  by_cases hl : xs.length = ys.length
  · have HL : Hid (xs.length = ys.length) := hl
    clear hlen2
    rw [← hl] at H2 ⊢
    clear hl
    go_enter Tryd.func34, Tryd.ntmps34
    go_wp2_with fail
    go_loopw [13] (fun u wr => ∃ j n : Nat, j ≤ xs.length ∧ u = .int .i64 (j : Int) ∧ Hid (xs.take j = ys.take j) ∧ wr = w.drewN n) (fun u _ => (xs.length - intOf u).toNat)
    case atStart => exact ⟨0, 0, by omega, rfl, rfl, rfl⟩
    case round =>
      obtain ⟨j, n, j1, rfl, hjt, rfl⟩ := hrel
      by_cases hj : j < xs.length
      · obtain ⟨y, hy⟩ : ∃ y, xs[j]? = some y := ⟨_, List.getElem?_eq_getElem (by omega)⟩
        obtain ⟨z, hz⟩ : ∃ z, ys[j]? = some z := ⟨_, List.getElem?_eq_getElem (by have := HL.out; omega)⟩
        obtain ⟨bb, oo, cap, hv, c1, c2, c3, c4⟩ := H1.out.resolve_left (by rintro ⟨_, _, _, h⟩; subst h; simp at hj)
        cases hv
        have hyl : j < ys.length := by have := HL.out; omega
        have hh := H2.out
        rw [HL.out] at hh
        obtain ⟨b2, o2, cap2, hv, d1, d2, d3, d4⟩ := hh.resolve_left (by rintro ⟨_, _, _, h⟩; rw [h] at hyl; simp at hyl)
        cases hv
        have x0 := c4 j y hy 0 (.int .i64 y) rfl
        have x1 := d4 j z hz 0 (.int .i64 z) rfl
        rw [Nat.mul_one, Nat.add_zero] at x0 x1
        have hjj : (j : Int) < (xs.length : Int) := by omega
        have hcc : xs.length ≤ p2 := by have := HL.out; omega
        have HY : Hid _ := hy
        have HZ : Hid _ := hz
        clear c4 d4 hy hz d1 hyl
        by_cases hyz : y = z
        · subst hyz
          go_wp2_with fail
          go_quiet (fail)
          go_wp2
          go_roundw
          case rel => exact ⟨j + 1, _, by omega, by go_num, by show _ = _; rw [List.take_add_one, List.take_add_one, HY.out, HZ.out, hjt.out], rfl⟩
          case measure => simp [intOf]; omega
        · have hne : (y != z) = true := by simp [hyz]
          have HE : Hid (decide (xs = ys) = false) := by
            show _ = _
            rw [decide_eq_false_iff_not]
            rintro rfl
            have h1 := HY.out
            rw [HZ.out] at h1
            exact hyz (Option.some.inj h1).symm
          go_wp2_with fail
          go_quiet (fail)
          go_wp2
          go_ret
          exact ⟨by rw [HE.out]; rfl, n + nq, by rw [World.drewN_drewN]⟩
      · have HE : Hid (decide (xs = ys) = true) := by
          show _ = _
          rw [decide_eq_true_iff]
          have := hjt.out
          rwa [List.take_of_length_le (by omega), List.take_of_length_le (by have := HL.out; omega)] at this
        go_wp2_with fail
        go_ret
        exact ⟨by rw [HE.out]; rfl, _, rfl⟩
  · have hb : ((xs.length : Int) != (ys.length : Int)) = true := by simp; omega
    have HE : Hid (decide (xs = ys) = false) := by
      show _ = _
      rw [decide_eq_false_iff_not]
      rintro rfl
      exact hl rfl
    go_enter Tryd.func34, Tryd.ntmps34
    go_wp2_with fail
    go_ret
    exact ⟨by rw [HE.out]; rfl, 0, rfl⟩
end Go.Proofs.YtechpdfcgimkkaaDoor
