/-
  A tally's text, written and read, plain: what stands in the lines of edges is those edges. No walk.
-/
import Derived.Test.YtjcackcimofcmaaDoorWalkTrC
namespace Go.Proofs.YtjcackcimofcmaaDoor
open Go.Lib
theorem cnt_itoa {n : Int} (h0 : 0 ≤ n) (h1 : n ≤ 1073741824) : cntN (itoa n) = n := by
  unfold itoa
  rw [if_neg (by omega)]
  have hl := digits_len (u := n.toNat) (by omega)
  unfold cntN
  rw [if_neg (by
    rintro (h | h | ⟨h, h2⟩)
    · exact digits_ne _ (List.length_eq_zero_iff.1 h)
    · omega
    · exact h2 (digits_head _ h)), decFrom_digits]
  simp only
  rw [if_neg (by omega)]
  omega
theorem digits_mem (u : Nat) : ∀ c ∈ decDigits u, 48 ≤ c.toNat ∧ c.toNat ≤ 57 := by
  induction u using Nat.strongRecOn with
  | _ u ih =>
    intro c hc
    by_cases h : u < 10
    · rw [decDigits_one h] at hc
      simp only [List.mem_singleton] at hc
      subst hc
      rw [UInt8.toNat_ofNat']
      omega
    · rw [decDigits, dif_neg h, List.mem_append] at hc
      rcases hc with hc | hc
      · exact ih (u / 10) (by omega) c hc
      · simp only [List.mem_singleton] at hc
        subst hc
        rw [UInt8.toNat_ofNat']
        omega
theorem itoa_mem {n : Int} (h0 : 0 ≤ n) : ∀ c ∈ itoa n, c ≠ 10 ∧ c ≠ 32 := by
  intro c hc
  unfold itoa at hc
  rw [if_neg (by omega)] at hc
  have := digits_mem _ c hc
  constructor <;> (rintro rfl; revert this; decide)
theorem itoa_len {n : Int} (h0 : 0 ≤ n) (h1 : n ≤ 1073741824) : (itoa n).length ≤ 10 := by
  unfold itoa
  rw [if_neg (by omega)]
  exact digits_len (by omega)
theorem spR_end : ∀ (a cur : List UInt8), (∀ c ∈ a, c ≠ 32) → spR a cur = [cur ++ a]
  | [], cur, _ => by simp [spR]
  | c :: r, cur, h => by
    rw [spR, if_neg (h c (List.mem_cons_self ..)), spR_end r _ fun x hx => h x (List.mem_cons_of_mem _ hx)]
    simp
theorem spR_cut : ∀ (a r cur : List UInt8), (∀ c ∈ a, c ≠ 32) → spR (a ++ 32 :: r) cur = (cur ++ a) :: spR r []
  | [], r, cur, _ => by simp [spR]
  | c :: a, r, cur, h => by
    rw [List.cons_append, spR, if_neg (h c (List.mem_cons_self ..)), spR_cut a r _ fun x hx => h x (List.mem_cons_of_mem _ hx)]
    simp
theorem idx_cut : ∀ (a r : List UInt8), (∀ c ∈ a, c ≠ 10) → index (a ++ 10 :: r) [10] = (a.length : Int)
  | [], r, _ => by rw [List.nil_append, idx_step, if_pos rfl]; rfl
  | c :: a, r, h => by
    rw [List.cons_append, idx_step, if_neg (h c (List.mem_cons_self ..)), idx_cut a r fun x hx => h x (List.mem_cons_of_mem _ hx), if_neg (by omega)]
    simp
/-- An edge's line. -/
def lineT (e : Ed) : List UInt8 := itoa e.f ++ 32 :: (itoa e.t ++ 32 :: itoa e.c)
def textT (es : List Ed) : List UInt8 := es.flatMap fun e => lineT e ++ [10]
def Ed.may (e : Ed) : Prop := (0 ≤ e.f ∧ e.f ≤ 1073741824) ∧ (0 ≤ e.t ∧ e.t ≤ 1073741824) ∧ 0 ≤ e.c ∧ e.c ≤ 1073741824
theorem line_edge {e : Ed} (h : e.may) : edgeN (lineT e) = some e := by
  obtain ⟨⟨a1, a2⟩, ⟨b1, b2⟩, c1, c2⟩ := h
  unfold edgeN lineT
  rw [spR_cut _ _ _ (fun c hc => (itoa_mem a1 c hc).2), spR_cut _ _ _ (fun c hc => (itoa_mem b1 c hc).2), spR_end _ _ (fun c hc => (itoa_mem c1 c hc).2)]
  simp only [List.nil_append]
  rw [cnt_itoa a1 a2, cnt_itoa b1 b2, cnt_itoa c1 c2, if_pos ⟨a1, b1, c1⟩]
theorem line_mem {e : Ed} (h : e.may) : ∀ c ∈ lineT e, c ≠ 10 := by
  obtain ⟨⟨a1, a2⟩, ⟨b1, b2⟩, c1, c2⟩ := h
  intro c hc
  unfold lineT at hc
  rw [List.mem_append, List.mem_cons, List.mem_append, List.mem_cons] at hc
  rcases hc with hc | rfl | hc | rfl | hc
  · exact (itoa_mem a1 c hc).1
  · decide
  · exact (itoa_mem b1 c hc).1
  · decide
  · exact (itoa_mem c1 c hc).1
theorem line_len {e : Ed} (h : e.may) : (lineT e).length ≤ 32 := by
  obtain ⟨⟨a1, a2⟩, ⟨b1, b2⟩, c1, c2⟩ := h
  have := itoa_len a1 a2
  have := itoa_len b1 b2
  have := itoa_len c1 c2
  unfold lineT
  simp only [List.length_append, List.length_cons]
  omega
theorem text_len : ∀ (es : List Ed), (∀ e ∈ es, e.may) → (textT es).length ≤ 33 * es.length
  | [], _ => by simp [textT]
  | e :: es, h => by
    have h1 := text_len es fun x hx => h x (List.mem_cons_of_mem _ hx)
    have h2 := line_len (h e (List.mem_cons_self ..))
    unfold textT at h1 ⊢
    simp only [List.flatMap_cons, List.length_append, List.length_cons, List.length_nil] at h1 ⊢
    omega
theorem text_read : ∀ (es l : List Ed), (∀ e ∈ es, e.may) → edgesN ((textT es).length + 1) (textT es) l = (0, l ++ es)
  | [], l, _ => by simp [textT, edgesN]
  | e :: es, l, h => by
    have he := h e (List.mem_cons_self ..)
    have e1 : textT (e :: es) = lineT e ++ 10 :: textT es := by simp [textT]
    rw [e1, edges_step _ l (by simp) (lineT e).length (idx_cut _ _ (line_mem he))]
    have e2 : (lineT e ++ 10 :: textT es).take (lineT e).length = lineT e := by simp
    have e3 : (lineT e ++ 10 :: textT es).drop ((lineT e).length + 1) = textT es := by
      rw [← List.drop_drop]; simp
    rw [e2, e3, line_edge he]
    show edgesN _ _ _ = _
    rw [text_read es _ fun x hx => h x (List.mem_cons_of_mem _ hx)]
    simp
/-- A tally is read as it is written. -/
theorem tally_text (es : List Ed) (h : ∀ e ∈ es, e.may) (hl : es.length ≤ 60) : tallyN (textT es) = (0, es) := by
  have := text_len es h
  unfold tallyN
  rw [if_neg (by omega), text_read es [] h]
  rfl
theorem text_snoc (es : List Ed) (e : Ed) : textT (es ++ [e]) = textT es ++ (lineT e ++ [10]) := by simp [textT]
end Go.Proofs.YtjcackcimofcmaaDoor
