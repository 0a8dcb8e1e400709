/-
  An image in rows of the call's own: bytes more, functions more.
-/
import Derived.Test.YtechpdfcgimkkaaDoorMYC
import Derived.Test.YtechpdfcgimkkaaDoorWalkRunC
namespace Go.Proofs.YtechpdfcgimkkaaDoor
open Go.RowKit Go.Joins Isa
theorem OwnImg.at {W : World} {B : Nat} {vT vF vB vD vL : Value} {m : Img} (h : OwnImg W B vT vF vB vD vL m) : ImgAt W vT vF vB vD vL m := by
  obtain ⟨us, h1, h2, h3⟩ := h.tables
  exact ⟨row_list (fun _ => rfl) h.text, row_list (fun _ => rfl) h.funcs, ⟨us, row_list (fun _ => rfl) h1, h2, fun j u t a b => row_list (fun _ => rfl) (h3 j u t a b)⟩, row_list (fun _ => rfl) h.data, row_list (fun _ => rfl) h.lines⟩
theorem ProgI.entry {l : List Rw} {m : Img} (h : ProgI l m) : m.entry = 0 := by
  obtain ⟨cs, _, _, _, rfl⟩ := h
  rfl
theorem OwnImg.up {W W' : World} {B : Nat} {vT vF vB vD vL : Value} {m : Img} (h : OwnImg W B vT vF vB vD vL m) (hb : Below W.heap.size W W') : OwnImg W' B vT vF vB vD vL m := by
  obtain ⟨us, h1, h2, h3⟩ := h.tables
  exact ⟨row_up h.text hb, row_up h.funcs hb, ⟨us, row_up h1 hb, h2, fun j u t a b => row_up (h3 j u t a b) hb⟩, row_up h.data hb, row_up h.lines hb⟩
section
variable {W : World} {B g : Nat} {vT vF vB vD vL en : Value} {m : Img}
theorem OwnImg.addT (h : OwnImg W B vT vF vB vD vL m) (hI : W.heap[g]? = some (.cells #[vT, vF, vB, vD, vL, en] 29)) (hB : B ≤ W.heap.size) (C : Nat) (hCB : C ≤ B) (hCg : C ≤ g) (gn k cap : Nat) (ns : List Int) (hk : k = ns.length)
    (hc : ∀ j u, (flat ucell ns)[j]? = some u → W.cell? ⟨gn, 0 + j, none⟩ = some u) (hs : m.text.length + ns.length ≤ 1000000) :
    ∃ a' c W2, (Builtin.append_ #[23, 23] 23 #[vT, .slice (some ⟨gn, 0, none⟩) k cap]).run Tryd.prog W = .ok (.slice a' (m.text.length + ns.length) c) W2 ∧
      W2.frozen? ⟨g, 0, none⟩ = false ∧ (∃ u, W2.cell? ⟨g, 0, none⟩ = some u) ∧ g < W2.heap.size ∧
      (W2.setCell ⟨g, 0, none⟩ (.slice a' (m.text.length + ns.length) c)).heap[g]? = some (.cells #[.slice a' (m.text.length + ns.length) c, vF, vB, vD, vL, en] 29) ∧
      OwnImg (W2.setCell ⟨g, 0, none⟩ (.slice a' (m.text.length + ns.length) c)) B (.slice a' (m.text.length + ns.length) c) vF vB vD vL ⟨m.text ++ ns, m.funcs, m.tables, m.data, m.lines, m.entry⟩ ∧
      Below C W (W2.setCell ⟨g, 0, none⟩ (.slice a' (m.text.length + ns.length) c)) := by
  subst hk
  obtain ⟨v', W2, hr, ho, gr⟩ := orow_apps 5 23 1 1 _ Tryd.underlying23 inOct rfl (by decide) h.text hB gn 0 ns.length cap (flat ucell ns) (flat_len ucell_len ns) hc (flat_one ucell_one ns) (by omega) (by unfold maxLen; omega)
  obtain ⟨a', c, rfl⟩ := orow_form' ho
  obtain ⟨i2, k1, k2, i3, ho3⟩ := img_grow (o := 0) hI h.text gr ho (by decide)
  obtain ⟨us, h1, h2, h3⟩ := h.tables
  have e1 : flat ucell m.text ++ flat ucell ns = flat ucell (m.text ++ ns) := by simp [flat]
  have e2 : m.text.length + ns.length = (m.text ++ ns).length := by simp
  rw [e1] at ho3
  have hgl := (Array.getElem?_eq_some_iff.1 hI).1
  refine ⟨a', c, W2, hr, by simp [World.frozen?, i2], ⟨vT, by simp [World.cell?, i2]⟩, (Array.getElem?_eq_some_iff.1 i2).1, i3,
    ⟨?_, row_keeps (row_keeps h.funcs k1 (by decide)) k2 (by decide), ⟨us, row_keeps (row_keeps h1 k1 (by decide)) k2 (by decide), h2, fun j u t a b => row_keeps (row_keeps (h3 j u t a b) k1 (by decide)) k2 (by decide)⟩, row_keeps (row_keeps h.data k1 (by decide)) k2 (by decide), row_keeps (row_keeps h.lines k1 (by decide)) k2 (by decide)⟩,
    (obelow_grown (C := C) h.text gr hCB (by omega)).setCell (p := ⟨g, 0, none⟩) hCg _⟩
  show World.ownsRow _ _ _ _ _ (m.text ++ ns).length _
  conv => arg 6; rw [← e2]
  exact ho3
theorem OwnImg.addF (h : OwnImg W B vT vF vB vD vL m) (hI : W.heap[g]? = some (.cells #[vT, vF, vB, vD, vL, en] 29)) (hB : B ≤ W.heap.size) (C : Nat) (hCB : C ≤ B) (hCg : C ≤ g) (gn k cap : Nat) (ns : List Fn) (hk : k = ns.length) (W1 : World) (hW : Below W.heap.size W W1)
    (hc : ∀ j u, (flat Fn.cells ns)[j]? = some u → W1.cell? ⟨gn, 0 + j, none⟩ = some u) (hs : m.funcs.length + ns.length ≤ 1000000) :
    ∃ a' c W2, (Builtin.append_ #[24, 24] 24 #[vF, .slice (some ⟨gn, 0, none⟩) k cap]).run Tryd.prog W1 = .ok (.slice a' (m.funcs.length + ns.length) c) W2 ∧
      W2.frozen? ⟨g, 1, none⟩ = false ∧ (∃ u, W2.cell? ⟨g, 1, none⟩ = some u) ∧ g < W2.heap.size ∧
      (W2.setCell ⟨g, 1, none⟩ (.slice a' (m.funcs.length + ns.length) c)).heap[g]? = some (.cells #[vT, .slice a' (m.funcs.length + ns.length) c, vB, vD, vL, en] 29) ∧
      OwnImg (W2.setCell ⟨g, 1, none⟩ (.slice a' (m.funcs.length + ns.length) c)) B vT (.slice a' (m.funcs.length + ns.length) c) vB vD vL ⟨m.text, m.funcs ++ ns, m.tables, m.data, m.lines, m.entry⟩ ∧
      Below C W (W2.setCell ⟨g, 1, none⟩ (.slice a' (m.funcs.length + ns.length) c)) := by
  subst hk
  have hgl := (Array.getElem?_eq_some_iff.1 hI).1
  replace hI := (hW.block _ hgl).trans hI
  replace h := h.up hW
  have hz := hW.size
  obtain ⟨v', W2, hr, ho, gr⟩ := orow_apps 47 24 3 32 _ Tryd.underlying24 inFn3 rfl (by decide) h.funcs (by omega) gn 0 ns.length cap (flat Fn.cells ns) (flat_len fcell_len ns) hc (flat_one fcell_one ns) (by omega) (by unfold maxLen; omega)
  obtain ⟨a', c, rfl⟩ := orow_form' ho
  obtain ⟨i2, k1, k2, i3, ho3⟩ := img_grow (o := 1) hI h.funcs gr ho (by decide)
  obtain ⟨us, h1, h2, h3⟩ := h.tables
  have e1 : flat Fn.cells m.funcs ++ flat Fn.cells ns = flat Fn.cells (m.funcs ++ ns) := by simp [flat]
  have e2 : m.funcs.length + ns.length = (m.funcs ++ ns).length := by simp
  rw [e1] at ho3
  refine ⟨a', c, W2, hr, by simp [World.frozen?, i2], ⟨vF, by simp [World.cell?, i2]⟩, (Array.getElem?_eq_some_iff.1 i2).1, i3,
    ⟨row_keeps (row_keeps h.text k1 (by decide)) k2 (by decide), ?_, ⟨us, row_keeps (row_keeps h1 k1 (by decide)) k2 (by decide), h2, fun j u t a b => row_keeps (row_keeps (h3 j u t a b) k1 (by decide)) k2 (by decide)⟩, row_keeps (row_keeps h.data k1 (by decide)) k2 (by decide), row_keeps (row_keeps h.lines k1 (by decide)) k2 (by decide)⟩,
    (hW.mono (by omega)).trans ((obelow_grown (C := C) h.funcs gr hCB (by omega)).setCell (p := ⟨g, 1, none⟩) hCg _)⟩
  show World.ownsRow _ _ _ _ _ (m.funcs ++ ns).length _
  conv => arg 6; rw [← e2]
  exact ho3
end
end Go.Proofs.YtechpdfcgimkkaaDoor
/-
  A run's answer laid into a box of the call's own; a run of a program whose answer is known; a program's first run.
-/
namespace Go.Proofs.YtechpdfcgimkkaaDoor
open Go.RowKit Go.Joins Isa
abbrev runZ : Obj := .cells #[.slice none 0 0, .int .i64 0, .int .i64 0, .int .i64 0] 52
theorem box_end1 {w2 wr : World} {gb B C : Nat} {v x0 x1 x2 x3 : Value} {t : List Int} (hZ : wr.heap[gb]? = some (.cells #[x0, x1, x2, x3] 52)) (ho : wr.ownsRow B 3 1 v t.length (flat icell t)) (hg : gb < B) (hb : Below C w2 wr) (hC : C ≤ gb) (y0 y1 y2 y3 : Value) :
    ((((wr.setCell ⟨gb, 0, none⟩ y0).setCell ⟨gb, 1, none⟩ y1).setCell ⟨gb, 2, none⟩ y2).setCell ⟨gb, 3, none⟩ y3).heap[gb]? = some (.cells #[y0, y1, y2, y3] 52) ∧
      ListAt ((((wr.setCell ⟨gb, 0, none⟩ y0).setCell ⟨gb, 1, none⟩ y1).setCell ⟨gb, 2, none⟩ y2).setCell ⟨gb, 3, none⟩ y3) icell 1 v t ∧ Below C w2 ((((wr.setCell ⟨gb, 0, none⟩ y0).setCell ⟨gb, 1, none⟩ y1).setCell ⟨gb, 2, none⟩ y2).setCell ⟨gb, 3, none⟩ y3) := by
  have h0 := heap_setCell_same wr gb 0 _ _ y0 hZ
  have h1 := heap_setCell_same _ gb 1 _ _ y1 h0
  have h2 := heap_setCell_same _ gb 2 _ _ y2 h1
  have h3 := heap_setCell_same _ gb 3 _ _ y3 h2
  have ne : ∀ k, k ≠ gb → ((((wr.setCell ⟨gb, 0, none⟩ y0).setCell ⟨gb, 1, none⟩ y1).setCell ⟨gb, 2, none⟩ y2).setCell ⟨gb, 3, none⟩ y3).heap[k]? = wr.heap[k]? := fun k hk =>
    (heap_setCell_other _ _ _ _ hk).trans ((heap_setCell_other _ _ _ _ hk).trans ((heap_setCell_other _ _ _ _ hk).trans (heap_setCell_other _ _ _ _ hk)))
  refine ⟨h3, row_list icell_len (row_same ho fun k hk => ne k (by have := (row_block ho hk).1; omega)), (((hb.setCell (p := ⟨gb, 0, none⟩) hC y0).setCell (p := ⟨gb, 1, none⟩) hC y1).setCell (p := ⟨gb, 2, none⟩) hC y2).setCell (p := ⟨gb, 3, none⟩) hC y3⟩
theorem box_end2 {w2 wr : World} {B C : Nat} {v : Value} {t : List Int} (ho : wr.ownsRow B 3 1 v t.length (flat icell t)) (hb : Below C w2 wr) (hC : C ≤ wr.heap.size) (ob : Obj) :
    (wr.alloc ob).heap[wr.heap.size]? = some ob ∧ ListAt (wr.alloc ob) icell 1 v t ∧ Below C w2 (wr.alloc ob) :=
  ⟨heap_alloc_new _ _, row_list icell_len (row_up ho ((Below.refl _ _).alloc (Nat.le_refl _) _)), hb.alloc hC _⟩
theorem run_four {W : World} {g : Nat} {x0 x1 x2 x3 : Value} {T : TypeId} (h : W.heap[g]? = some (.cells #[x0, x1, x2, x3] T)) :
    W.cell? ⟨g, 0, none⟩ = some x0 ∧ W.cell? ⟨g, 1, none⟩ = some x1 ∧ W.cell? ⟨g, 2, none⟩ = some x2 ∧ W.cell? ⟨g, 3, none⟩ = some x3 := by
  refine ⟨?_, ?_, ?_, ?_⟩ <;> simp [World.cell?, h]
theorem free_four {W : World} {g : Nat} {x0 x1 x2 x3 : Value} {T : TypeId} (h : W.heap[g]? = some (.cells #[x0, x1, x2, x3] T)) :
    W.frozen? ⟨g, 0, none⟩ = false ∧ W.frozen? ⟨g, 1, none⟩ = false ∧ W.frozen? ⟨g, 2, none⟩ = false ∧ W.frozen? ⟨g, 3, none⟩ = false := by
  refine ⟨?_, ?_, ?_, ?_⟩ <;> simp [World.frozen?, h]
theorem img_six {W : World} {g : Nat} {x0 x1 x2 x3 x4 x5 : Value} {T : TypeId} (h : W.heap[g]? = some (.cells #[x0, x1, x2, x3, x4, x5] T)) :
    W.cell? ⟨g, 0, none⟩ = some x0 ∧ W.cell? ⟨g, 1, none⟩ = some x1 ∧ W.cell? ⟨g, 2, none⟩ = some x2 ∧ W.cell? ⟨g, 3, none⟩ = some x3 ∧ W.cell? ⟨g, 4, none⟩ = some x4 ∧ W.cell? ⟨g, 5, none⟩ = some x5 := by
  refine ⟨?_, ?_, ?_, ?_, ?_, ?_⟩ <;> simp [World.cell?, h]
theorem far_four {W : World} {g gb : Nat} (hne : ¬ g = gb) (y0 y1 y2 y3 : Value) (o : Nat) : ((((W.setCell ⟨gb, 0, none⟩ y0).setCell ⟨gb, 1, none⟩ y1).setCell ⟨gb, 2, none⟩ y2).setCell ⟨gb, 3, none⟩ y3).cell? ⟨g, o, none⟩ = W.cell? ⟨g, o, none⟩ := by
  have h : ((((W.setCell ⟨gb, 0, none⟩ y0).setCell ⟨gb, 1, none⟩ y1).setCell ⟨gb, 2, none⟩ y2).setCell ⟨gb, 3, none⟩ y3).heap[g]? = W.heap[g]? :=
    (heap_setCell_other _ _ _ _ hne).trans ((heap_setCell_other _ _ _ _ hne).trans ((heap_setCell_other _ _ _ _ hne).trans (heap_setCell_other _ _ _ _ hne)))
  simp only [World.cell?, h]
theorem six_far {W : World} {g gb : Nat} (hne : ¬ g = gb) {x0 x1 x2 x3 x4 x5 : Value} (h : W.cell? ⟨g, 0, none⟩ = some x0 ∧ W.cell? ⟨g, 1, none⟩ = some x1 ∧ W.cell? ⟨g, 2, none⟩ = some x2 ∧ W.cell? ⟨g, 3, none⟩ = some x3 ∧ W.cell? ⟨g, 4, none⟩ = some x4 ∧ W.cell? ⟨g, 5, none⟩ = some x5) (y0 y1 y2 y3 : Value) :
    ((((W.setCell ⟨gb, 0, none⟩ y0).setCell ⟨gb, 1, none⟩ y1).setCell ⟨gb, 2, none⟩ y2).setCell ⟨gb, 3, none⟩ y3).cell? ⟨g, 0, none⟩ = some x0 ∧ ((((W.setCell ⟨gb, 0, none⟩ y0).setCell ⟨gb, 1, none⟩ y1).setCell ⟨gb, 2, none⟩ y2).setCell ⟨gb, 3, none⟩ y3).cell? ⟨g, 1, none⟩ = some x1 ∧ ((((W.setCell ⟨gb, 0, none⟩ y0).setCell ⟨gb, 1, none⟩ y1).setCell ⟨gb, 2, none⟩ y2).setCell ⟨gb, 3, none⟩ y3).cell? ⟨g, 2, none⟩ = some x2 ∧ ((((W.setCell ⟨gb, 0, none⟩ y0).setCell ⟨gb, 1, none⟩ y1).setCell ⟨gb, 2, none⟩ y2).setCell ⟨gb, 3, none⟩ y3).cell? ⟨g, 3, none⟩ = some x3 ∧ ((((W.setCell ⟨gb, 0, none⟩ y0).setCell ⟨gb, 1, none⟩ y1).setCell ⟨gb, 2, none⟩ y2).setCell ⟨gb, 3, none⟩ y3).cell? ⟨g, 4, none⟩ = some x4 ∧ ((((W.setCell ⟨gb, 0, none⟩ y0).setCell ⟨gb, 1, none⟩ y1).setCell ⟨gb, 2, none⟩ y2).setCell ⟨gb, 3, none⟩ y3).cell? ⟨g, 5, none⟩ = some x5 := by
  obtain ⟨h0, h1, h2, h3, h4, h5⟩ := h
  exact ⟨(far_four hne _ _ _ _ _).trans h0, (far_four hne _ _ _ _ _).trans h1, (far_four hne _ _ _ _ _).trans h2, (far_four hne _ _ _ _ _).trans h3, (far_four hne _ _ _ _ _).trans h4, (far_four hne _ _ _ _ _).trans h5⟩
theorem list_front {w : World} {a : Option Addr} {n c : Nat} {xs : List Int} (h : ListAt w icell 1 (.slice a n c) xs) (k : Nat) (hk : k ≤ xs.length) : ListAt w icell 1 (.slice a k c) (xs.take k) ∧ k ≤ c := by
  rcases h with ⟨a', c', hv, rfl⟩ | ⟨bb, oo, cap, hv, h1, h2, h3, h4⟩
  · have hk0 : k = 0 := by simpa using hk
    subst hk0
    exact ⟨Or.inl ⟨_, _, rfl, rfl⟩, Nat.zero_le _⟩
  · obtain ⟨rfl, rfl, rfl⟩ : a = some ⟨bb, oo, none⟩ ∧ n = xs.length ∧ c = cap := by simpa using hv
    refine ⟨?_, by omega⟩
    rcases Nat.eq_zero_or_pos k with rfl | q
    · exact Or.inl ⟨_, _, rfl, by simp⟩
    · refine Or.inr ⟨bb, oo, c, by rw [List.length_take]; congr 1; omega, by rw [List.length_take]; omega, h2, h3, fun j x hj => h4 j x ?_⟩
      rw [List.getElem?_take] at hj
      split at hj
      · exact hj
      · cases hj
/-- A program's image is one that may be run. -/
theorem ProgI.run {l : List Rw} {m : Img} (h : ProgI l m) {ins : List Int} {fuel : Int} (h0 : 0 ≤ fuel) (h1 : fuel ≤ 100000) (h2 : ins.length ≤ 100) (h3 : ∀ x ∈ ins, -1099511627776 ≤ x ∧ x ≤ 1099511627776) : runChk m ins fuel = 0 := by
  have hc := h.chk.1
  unfold runChk
  rw [if_neg (by rw [hc]; simp), if_neg (by omega), if_neg (by omega), if_neg]
  intro q
  obtain ⟨x, hx, hq⟩ := List.any_eq_true.1 q
  have := h3 x hx
  simp [farB] at hq
  omega
theorem run_zero {m : Img} {ins : List Int} (h : runChk m ins 0 = 0) : runOut m ins 0 = ⟨[], 3, 0, (mc0 m ins (m.funcs.getD m.entry.toNat noFn)).pc⟩ := by
  unfold runOut
  rw [if_pos h]
  rfl
end Go.Proofs.YtechpdfcgimkkaaDoor
