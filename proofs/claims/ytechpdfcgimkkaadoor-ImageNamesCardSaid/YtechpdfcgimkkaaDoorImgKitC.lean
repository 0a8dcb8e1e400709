/-
  An image in rows of the call's own: bytes more, functions more.
-/
import Derived.Test.YtechpdfcgimkkaaDoorMYC
namespace Go.Proofs.YtechpdfcgimkkaaDoor
open Go.RowKit Go.Joins Isa
theorem OwnImg.at {W : World} {B : Nat} {vT vF vB vD vL : Value} {m : Img} (h : OwnImg W B vT vF vB vD vL m) : ImgAt W vT vF vB vD vL m := by
  obtain ⟨us, h1, h2, h3⟩ := h.tables
  exact ⟨row_list (fun _ => rfl) h.text, row_list (fun _ => rfl) h.funcs, ⟨us, row_list (fun _ => rfl) h1, h2, fun j u t a b => row_list (fun _ => rfl) (h3 j u t a b)⟩, row_list (fun _ => rfl) h.data, row_list (fun _ => rfl) h.lines⟩
theorem ProgI.entry {l : List Rw} {m : Img} (h : ProgI l m) : m.entry = 0 := by
  obtain ⟨cs, _, _, _, rfl⟩ := h
  rfl
theorem OwnImg.up {W W' : World} {B : Nat} {vT vF vB vD vL : Value} {m : Img} (h : OwnImg W B vT vF vB vD vL m) (hb : Below W.heap.size W W') : OwnImg W' B vT vF vB vD vL m := by
  obtain ⟨us, h1, h2, h3⟩ := h.tables
  exact ⟨row_up h.text hb, row_up h.funcs hb, ⟨us, row_up h1 hb, h2, fun j u t a b => row_up (h3 j u t a b) hb⟩, row_up h.data hb, row_up h.lines hb⟩
section
variable {W : World} {B g : Nat} {vT vF vB vD vL en : Value} {m : Img}
theorem OwnImg.addT (h : OwnImg W B vT vF vB vD vL m) (hI : W.heap[g]? = some (.cells #[vT, vF, vB, vD, vL, en] 29)) (hB : B ≤ W.heap.size) (C : Nat) (hCB : C ≤ B) (hCg : C ≤ g) (gn k cap : Nat) (ns : List Int) (hk : k = ns.length)
    (hc : ∀ j u, (flat ucell ns)[j]? = some u → W.cell? ⟨gn, 0 + j, none⟩ = some u) (hs : m.text.length + ns.length ≤ 1000000) :
    ∃ a' c W2, (Builtin.append_ #[23, 23] 23 #[vT, .slice (some ⟨gn, 0, none⟩) k cap]).run Tryd.prog W = .ok (.slice a' (m.text.length + ns.length) c) W2 ∧
      W2.frozen? ⟨g, 0, none⟩ = false ∧ (∃ u, W2.cell? ⟨g, 0, none⟩ = some u) ∧ g < W2.heap.size ∧
      (W2.setCell ⟨g, 0, none⟩ (.slice a' (m.text.length + ns.length) c)).heap[g]? = some (.cells #[.slice a' (m.text.length + ns.length) c, vF, vB, vD, vL, en] 29) ∧
      OwnImg (W2.setCell ⟨g, 0, none⟩ (.slice a' (m.text.length + ns.length) c)) B (.slice a' (m.text.length + ns.length) c) vF vB vD vL ⟨m.text ++ ns, m.funcs, m.tables, m.data, m.lines, m.entry⟩ ∧
      Below C W (W2.setCell ⟨g, 0, none⟩ (.slice a' (m.text.length + ns.length) c)) := by
  subst hk
  obtain ⟨v', W2, hr, ho, gr⟩ := orow_apps 5 23 1 1 _ Tryd.underlying23 inOct rfl (by decide) h.text hB gn 0 ns.length cap (flat ucell ns) (flat_len ucell_len ns) hc (flat_one ucell_one ns) (by omega) (by unfold maxLen; omega)
  obtain ⟨a', c, rfl⟩ := orow_form' ho
  obtain ⟨i2, k1, k2, i3, ho3⟩ := img_grow (o := 0) hI h.text gr ho (by decide)
  obtain ⟨us, h1, h2, h3⟩ := h.tables
  have e1 : flat ucell m.text ++ flat ucell ns = flat ucell (m.text ++ ns) := by simp [flat]
  have e2 : m.text.length + ns.length = (m.text ++ ns).length := by simp
  rw [e1] at ho3
  have hgl := (Array.getElem?_eq_some_iff.1 hI).1
  refine ⟨a', c, W2, hr, by simp [World.frozen?, i2], ⟨vT, by simp [World.cell?, i2]⟩, (Array.getElem?_eq_some_iff.1 i2).1, i3,
    ⟨?_, row_keeps (row_keeps h.funcs k1 (by decide)) k2 (by decide), ⟨us, row_keeps (row_keeps h1 k1 (by decide)) k2 (by decide), h2, fun j u t a b => row_keeps (row_keeps (h3 j u t a b) k1 (by decide)) k2 (by decide)⟩, row_keeps (row_keeps h.data k1 (by decide)) k2 (by decide), row_keeps (row_keeps h.lines k1 (by decide)) k2 (by decide)⟩,
    (obelow_grown (C := C) h.text gr hCB (by omega)).setCell (p := ⟨g, 0, none⟩) hCg _⟩
  show World.ownsRow _ _ _ _ _ (m.text ++ ns).length _
  conv => arg 6; rw [← e2]
  exact ho3
theorem OwnImg.addF (h : OwnImg W B vT vF vB vD vL m) (hI : W.heap[g]? = some (.cells #[vT, vF, vB, vD, vL, en] 29)) (hB : B ≤ W.heap.size) (C : Nat) (hCB : C ≤ B) (hCg : C ≤ g) (gn k cap : Nat) (ns : List Fn) (hk : k = ns.length) (W1 : World) (hW : Below W.heap.size W W1)
    (hc : ∀ j u, (flat Fn.cells ns)[j]? = some u → W1.cell? ⟨gn, 0 + j, none⟩ = some u) (hs : m.funcs.length + ns.length ≤ 1000000) :
    ∃ a' c W2, (Builtin.append_ #[24, 24] 24 #[vF, .slice (some ⟨gn, 0, none⟩) k cap]).run Tryd.prog W1 = .ok (.slice a' (m.funcs.length + ns.length) c) W2 ∧
      W2.frozen? ⟨g, 1, none⟩ = false ∧ (∃ u, W2.cell? ⟨g, 1, none⟩ = some u) ∧ g < W2.heap.size ∧
      (W2.setCell ⟨g, 1, none⟩ (.slice a' (m.funcs.length + ns.length) c)).heap[g]? = some (.cells #[vT, .slice a' (m.funcs.length + ns.length) c, vB, vD, vL, en] 29) ∧
      OwnImg (W2.setCell ⟨g, 1, none⟩ (.slice a' (m.funcs.length + ns.length) c)) B vT (.slice a' (m.funcs.length + ns.length) c) vB vD vL ⟨m.text, m.funcs ++ ns, m.tables, m.data, m.lines, m.entry⟩ ∧
      Below C W (W2.setCell ⟨g, 1, none⟩ (.slice a' (m.funcs.length + ns.length) c)) := by
  subst hk
  have hgl := (Array.getElem?_eq_some_iff.1 hI).1
  replace hI := (hW.block _ hgl).trans hI
  replace h := h.up hW
  have hz := hW.size
  obtain ⟨v', W2, hr, ho, gr⟩ := orow_apps 47 24 3 32 _ Tryd.underlying24 inFn3 rfl (by decide) h.funcs (by omega) gn 0 ns.length cap (flat Fn.cells ns) (flat_len fcell_len ns) hc (flat_one fcell_one ns) (by omega) (by unfold maxLen; omega)
  obtain ⟨a', c, rfl⟩ := orow_form' ho
  obtain ⟨i2, k1, k2, i3, ho3⟩ := img_grow (o := 1) hI h.funcs gr ho (by decide)
  obtain ⟨us, h1, h2, h3⟩ := h.tables
  have e1 : flat Fn.cells m.funcs ++ flat Fn.cells ns = flat Fn.cells (m.funcs ++ ns) := by simp [flat]
  have e2 : m.funcs.length + ns.length = (m.funcs ++ ns).length := by simp
  rw [e1] at ho3
  refine ⟨a', c, W2, hr, by simp [World.frozen?, i2], ⟨vF, by simp [World.cell?, i2]⟩, (Array.getElem?_eq_some_iff.1 i2).1, i3,
    ⟨row_keeps (row_keeps h.text k1 (by decide)) k2 (by decide), ?_, ⟨us, row_keeps (row_keeps h1 k1 (by decide)) k2 (by decide), h2, fun j u t a b => row_keeps (row_keeps (h3 j u t a b) k1 (by decide)) k2 (by decide)⟩, row_keeps (row_keeps h.data k1 (by decide)) k2 (by decide), row_keeps (row_keeps h.lines k1 (by decide)) k2 (by decide)⟩,
    (hW.mono (by omega)).trans ((obelow_grown (C := C) h.funcs gr hCB (by omega)).setCell (p := ⟨g, 1, none⟩) hCg _)⟩
  show World.ownsRow _ _ _ _ _ (m.funcs ++ ns).length _
  conv => arg 6; rw [← e2]
  exact ho3
end
end Go.Proofs.YtechpdfcgimkkaaDoor
