/-
  Plain: the image of a plan with two bytes and two functions more: what P2.1 says of it.
-/
import Derived.Test.YtechpdfcgimkkaaDoorMXC
import Derived.Test.YtechpdfcgimkkaaDoorWalkPiC
import Derived.Test.YtechpdfcgimkkaaDoorMQC
import Derived.BigQuiet
import Derived.Deep.QuietTactic
import Derived.Deep.RegionLaw
namespace Go.Proofs.YtechpdfcgimkkaaDoor
open Go.RowKit Go.Joins Isa
theorem fchk_more (size : Int) (gs : List Fn) : ∀ (fs pre : List Fn) (e : Int), fchk size pre fs e = 0 → fchk (size + 2) pre (fs ++ gs) e = fchk (size + 2) (pre ++ fs) gs size
  | [], pre, e, h => by
    simp only [fchk] at h
    split at h
    · rename_i q
      rw [q, List.nil_append, List.append_nil]
    · cases h
  | f :: r, pre, e, h => by
    rw [fchk] at h
    split at h
    · cases h
    · split at h
      · cases h
      · split at h
        · cases h
        · rename_i q1 q2 q3
          rw [List.cons_append, fchk, if_neg q1, if_neg q2, if_neg (by omega), fchk_more size gs r _ _ h, List.append_assoc]
          rfl
theorem tchk_more (size : Int) : ∀ ts : List (List Int), tchk size ts = 0 → tchk (size + 2) ts = 0
  | [], _ => rfl
  | t :: r, h => by
    rw [tchk] at h
    split at h
    · cases h
    · split at h
      · cases h
      · rename_i q1 q2
        rw [tchk, if_neg q1, if_neg (fun ⟨x, hx, hq⟩ => q2 ⟨x, hx, by omega⟩)]
        exact tchk_more size r h
theorem lchk_more (size : Int) : ∀ (ls : List Ln) (ah : Int), lchk size ls ah = 0 → lchk (size + 2) ls ah = 0
  | [], _, _ => rfl
  | y :: r, ah, h => by
    rw [lchk] at h
    split at h
    · cases h
    · split at h
      · cases h
      · rename_i q1 q2
        rw [lchk, if_neg q1, if_neg (by omega)]
        exact lchk_more size r y.a h
def xName : ByteArray := ⟨#[120]⟩
def moreF (m : Img) (nm : ByteArray) : List Fn := [⟨xName, m.text.length, 1⟩, ⟨nm, m.text.length + 1, 1⟩]
def imgMore (m : Img) (nm : ByteArray) : Img := ⟨m.text ++ [0, 0], m.funcs ++ moreF m nm, m.tables, m.data, m.lines, m.entry⟩
theorem names_chk {m : Img} (h : imgChk m = 0) (h1 : m.text.length ≤ 1320) (h2 : m.funcs.length ≤ 3) (hn : ∀ f ∈ m.funcs, f.name = fnName 0 ∨ f.name = fnName 1 ∨ f.name = fnName 2) (nm : ByteArray) (h3 : nm ≠ fnName 0 ∧ nm ≠ fnName 1 ∧ nm ≠ fnName 2) :
    imgChk (imgMore m nm) = if nameMay nm = false then 4 else if nm = xName then 7 else 0 := by
  have hl : ((m.text ++ [(0 : Int), 0]).length : Int) = (m.text.length : Int) + 2 := by simp
  have hf : (m.funcs ++ moreF m nm).length = m.funcs.length + 2 := by simp [moreF]
  unfold imgChk at h
  rw [if_neg (by omega)] at h
  by_cases c1 : fchk m.text.length [] m.funcs 0 = 0
  case neg => rw [if_pos c1] at h; exact absurd h c1
  rw [if_neg (by rw [c1]; simp)] at h
  split at h
  · cases h
  rename_i c2
  split at h
  · cases h
  rename_i c3
  by_cases c4 : tchk m.text.length m.tables = 0
  case neg => rw [if_pos c4] at h; exact absurd h c4
  rw [if_neg (by rw [c4]; simp)] at h
  split at h
  · cases h
  rename_i c5
  split at h
  · cases h
  rename_i c6
  have x0 : ¬ ∃ g ∈ ([] ++ m.funcs : List Fn), g.name = xName := by
    rintro ⟨g, hg, he⟩
    rw [List.nil_append] at hg
    have d : xName ≠ fnName 0 ∧ xName ≠ fnName 1 ∧ xName ≠ fnName 2 := by
      refine ⟨?_, ?_, ?_⟩ <;> (intro h; have := congrArg (fun b : ByteArray => b.data.toList) h; revert this; decide)
    rcases hn g hg with q | q | q
    · exact d.1 (he.symm.trans q)
    · exact d.2.1 (he.symm.trans q)
    · exact d.2.2 (he.symm.trans q)
  have x1 : (∃ g ∈ (([] ++ m.funcs) ++ [⟨xName, m.text.length, 1⟩] : List Fn), g.name = nm) ↔ nm = xName := by
    constructor
    · rintro ⟨g, hg, he⟩
      rcases List.mem_append.1 hg with hg | hg
      · rw [List.nil_append] at hg
        rcases hn g hg with q | q | q
        · exact absurd (he.symm.trans q) h3.1
        · exact absurd (he.symm.trans q) h3.2.1
        · exact absurd (he.symm.trans q) h3.2.2
      · simp only [List.mem_singleton] at hg
        subst hg
        exact he.symm
    · intro he
      exact ⟨⟨xName, m.text.length, 1⟩, List.mem_append_right _ (List.mem_singleton.2 rfl), he.symm⟩
  have k1 : fchk ((m.text.length : Int) + 2) [] (m.funcs ++ moreF m nm) 0 = if nameMay nm = false then 4 else if nm = xName then 7 else 0 := by
    rw [fchk_more _ _ _ _ _ c1]
    unfold moreF
    rw [fchk, if_neg (by show ¬ nameMay xName = false; decide), if_neg x0, if_neg (by show ¬ ((m.text.length : Int) ≠ m.text.length ∨ (1 : Int) < 1 ∨ (m.text.length : Int) + 2 - m.text.length < 1); omega), fchk]
    by_cases q1 : nameMay nm = false
    · rw [if_pos q1, if_pos q1]
    · rw [if_neg q1, if_neg q1]
      by_cases q2 : nm = xName
      · rw [if_pos (x1.2 q2), if_pos q2]
      · rw [if_neg (fun h => q2 (x1.1 h)), if_neg q2, if_neg (by show ¬ ((m.text.length : Int) + 1 ≠ (m.text.length : Int) + 1 ∨ (1 : Int) < 1 ∨ (m.text.length : Int) + 2 - ((m.text.length : Int) + 1) < 1); omega), fchk]
        rw [if_pos (by show (m.text.length : Int) + 1 + 1 = (m.text.length : Int) + 2; omega)]
  unfold imgChk imgMore
  dsimp only
  rw [hl, hf, if_neg (by rw [List.length_append]; simp; omega), k1]
  by_cases q1 : nameMay nm = false
  · rw [if_pos q1, if_pos (by decide)]
  · rw [if_neg q1]
    by_cases q2 : nm = xName
    · rw [if_pos q2, if_pos (by decide)]
    · rw [if_neg q2, if_neg (by simp), if_neg (by omega), if_neg c3, tchk_more _ _ c4, if_neg (by simp), if_neg c5, if_neg c6]
      exact lchk_more _ _ _ h
theorem ProgI.names {l : List Rw} {m : Img} (h : ProgI l m) : m.funcs.length ≤ 3 ∧ ∀ f ∈ m.funcs, f.name = fnName 0 ∨ f.name = fnName 1 ∨ f.name = fnName 2 := by
  obtain ⟨cs, hl, hg, ha, rfl⟩ := h
  have few := hg.fit.few
  refine ⟨by show (fnsOf _ _ _).length ≤ 3; simp [fnsOf]; omega, fun f hf => ?_⟩
  obtain ⟨i, hi, rfl⟩ := List.mem_map.1 (show f ∈ (List.range (planOf l).2.length).map _ from hf)
  have hi' := List.mem_range.1 hi
  show fnName i = _ ∨ fnName i = _ ∨ fnName i = _
  rcases (show i = 0 ∨ i = 1 ∨ i = 2 by omega) with rfl | rfl | rfl
  · exact Or.inl rfl
  · exact Or.inr (Or.inl rfl)
  · exact Or.inr (Or.inr rfl)
end Go.Proofs.YtechpdfcgimkkaaDoor
/-
  What the walk of boltholekeep.ImageNames needs (written by genna.py).
-/
namespace Go.Proofs.YtechpdfcgimkkaaDoor
open Go.RowKit Go.Joins Isa
theorem drew_cell' (w : World) (p : Addr) : w.drew.cell? p = w.cell? p := rfl
theorem own_size {w : World} {B sz n : Nat} {E : TypeId} {v : Value} {xs : List Value} (h : w.ownsRow B E sz v n xs) (hn : n ≠ 0) : B < w.heap.size := by
  obtain ⟨g, cap, rfl, _⟩ := own_some h hn
  obtain ⟨h1, cur, h2⟩ := row_block h rfl
  have := (Array.getElem?_eq_some_iff.1 h2).1
  omega
theorem name_far {b : ByteArray} {i : Nat} (h : b.data.toList ≠ [102, UInt8.ofNat (48 + i)]) : b ≠ fnName i := fun e => h (by rw [e]; rfl)
theorem more_ok {m : Img} (h : m.ok) (h1 : m.text.length ≤ 1320) (nm : ByteArray) (hn : nm.size ≤ 100) : (imgMore m nm).ok := by
  refine ⟨fun x hx => ?_, fun f hf => ?_, h.tables, h.data, h.lines, h.entry⟩
  · rcases List.mem_append.1 hx with hx | hx
    · exact h.text x hx
    · simp at hx; omega
  · rcases List.mem_append.1 hf with hf | hf
    · exact h.funcs f hf
    · simp only [moreF, List.mem_cons, List.not_mem_nil, or_false] at hf
      rcases hf with rfl | rfl
      · exact ⟨by show (1 : Nat) ≤ maxLen; unfold maxLen; omega, by show i64 (m.text.length : Int); unfold i64; omega, by show i64 1; unfold i64; omega⟩
      · exact ⟨by show nm.size ≤ maxLen; unfold maxLen; omega, by show i64 ((m.text.length : Int) + 1); unfold i64; omega, by show i64 1; unfold i64; omega⟩
theorem flat_two (a b : Int) (w : World) (T : TypeId) : ∀ j u, (flat ucell [a, b])[j]? = some u → (w.alloc (.cells #[.int .u8 a, .int .u8 b] T)).cell? ⟨w.heap.size, 0 + j, none⟩ = some u := fun j u h => by
  rw [World.cell?_alloc_new, Nat.zero_add]
  simpa [flat, ucell] using h
theorem flat_fns (k : Int) (a b : ByteArray) (w : World) (T : TypeId) (g : Nat) (hg : g = w.heap.size) (k2 : Int) : ∀ j u, (flat Fn.cells [⟨a, k, 1⟩, ⟨b, k2, 1⟩])[j]? = some u → ((w.alloc (.cells #[.string a, .int .i64 k, .int .i64 1, .string b, .int .i64 k2, .int .i64 1] T)).drew).cell? ⟨g, 0 + j, none⟩ = some u := fun j u h => by
  subst hg
  rw [drew_cell', World.cell?_alloc_new, Nat.zero_add]
  simpa [flat, Fn.cells] using h
end Go.Proofs.YtechpdfcgimkkaaDoor
