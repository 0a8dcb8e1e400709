/-
  package step: a run, plain; what a run needs of an image that may be; how it ends in memory.
-/
import Derived.Test.YtechpdfcgimkkaaDoorWalkStart
import Derived.Test.YtechpdfcgimkkaaDoorWalkDec2
import Derived.Test.YtechpdfcgimkkaaDoorWalkIy
import Derived.Test.YtechpdfcgimkkaaDoorWalkEd
import Derived.Test.YtechpdfcgimkkaaDoorCpKit
namespace Go.Proofs.YtechpdfcgimkkaaDoor
open Go.RowKit Go.Joins Isa
/-- A run: n steps left, st done: the state, how it ended, how many steps. -/
def runN (text : List Int) (tabs : List (List Int)) : Nat → Int → Mc → Mc × Int × Int
  | 0, st, s => (s, 3, st)
  | n + 1, st, s =>
    if (decOut text s.pc).2.2 ≠ 0 then (s, 2, st)
    else if endN s.rs s.mem.length tabs (decOut text s.pc).1.k (decOut text s.pc).1.a (decOut text s.pc).1.b (decOut text s.pc).1.n ≠ 0 then (s, endN s.rs s.mem.length tabs (decOut text s.pc).1.k (decOut text s.pc).1.a (decOut text s.pc).1.b (decOut text s.pc).1.n, st)
    else runN text tabs n (st + 1) (doS tabs s (decOut text s.pc).1.k (decOut text s.pc).1.d (decOut text s.pc).1.a (decOut text s.pc).1.b (decOut text s.pc).1.n (decOut text s.pc).2.1)
structure Ru where
  told : List Int
  en : Int
  st : Int
  pc : Int
def noFn : Fn := ⟨ByteArray.empty, 0, 0⟩
def runOf (r : Mc × Int × Int) : Ru := ⟨r.1.told, r.2.1, r.2.2, r.1.pc⟩
/-- P3.5. -/
def runOut (m : Img) (ins : List Int) (fuel : Int) : Ru :=
  if runChk m ins fuel = 0 then runOf (runN m.text m.tables fuel.toNat 0 (mc0 m ins (m.funcs.getD m.entry.toNat noFn))) else ⟨[], 0, 0, 0⟩
theorem shW_bd (s : Int) : 0 ≤ shW s ∧ shW s ≤ 2 := by
  unfold shW
  generalize s.toNat = n
  have h : ∀ n, n < 11 → 0 ≤ ([0, 2, 1, 0, 1, 0, 0, 1, 1, 2, 1] : List Int).getD n 0 ∧ ([0, 2, 1, 0, 1, 0, 0, 1, 1, 2, 1] : List Int).getD n 0 ≤ 2 := by decide
  by_cases hn : n < 11
  · exact h n hn
  · rw [List.getD_eq_getElem?_getD, List.getElem?_eq_none (by simp; omega)]; simp
theorem siz_all (k : Int) (l : Bool) : 0 ≤ siz k l ∧ siz k l ≤ 10 := by
  have h := shW_bd (opS k)
  unfold siz wid kW
  cases l <;> simp only [if_true, if_false, Bool.false_eq_true] <;> repeat' split
  all_goals omega
theorem dec_ok {ns : List Int} {p : Int} (h : (decOut ns p).2.2 = 0) : 0 ≤ p ∧ p < ns.length ∧ (decOut ns p).1.chk = 0 ∧ 0 ≤ (decOut ns p).2.1 ∧ (decOut ns p).2.1 ≤ 10 := by
  unfold decOut at *
  by_cases h1 : p < 0 ∨ ns.length ≤ p
  · rw [if_pos h1] at h; simp at h
  · rw [if_neg h1] at *
    dsimp only at *
    split at h
    · simp at h
    · rename_i h2
      rw [if_neg h2]
      split at h
      · simp at h
      · rename_i h3
        rw [if_neg h3]
        split at h
        · rename_i h4
          rw [if_pos h4]
          exact ⟨by omega, by omega, h4, (siz_all _ _).1, (siz_all _ _).2⟩
        · simp at h
theorem runChk_ok {m : Img} {ins : List Int} {fuel : Int} (h : runChk m ins fuel = 0) : imgChk m = 0 ∧ 0 ≤ fuel ∧ fuel ≤ 100000 ∧ ins.length ≤ 100 ∧ ∀ x ∈ ins, (-1099511627776 : Int) ≤ x ∧ x ≤ 1099511627776 := by
  unfold runChk at h
  split at h
  · rename_i h1; exact absurd h h1
  · rename_i h1
    split at h
    · simp at h
    · split at h
      · simp at h
      · split at h
        · simp at h
        · rename_i h2 h3 h4
          refine ⟨by simpa using h1, by omega, by omega, by omega, fun x hx => ?_⟩
          simp [farB] at h4
          exact h4 x hx
theorem imgChk_ok {m : Img} (h : imgChk m = 0) : m.text.length ≤ 8000 ∧ 0 ≤ m.entry ∧ m.entry < m.funcs.length ∧ m.data.length ≤ 64 ∧ ∀ x ∈ m.data, (-1099511627776 : Int) ≤ x ∧ x ≤ 1099511627776 := by
  unfold imgChk at h
  split at h
  · simp at h
  · split at h
    · rename_i h1; exact absurd h h1
    · split at h
      · simp at h
      · split at h
        · simp at h
        · split at h
          · rename_i h1; exact absurd h h1
          · split at h
            · simp at h
            · rename_i h1 h2 h3 h4 h5 h6
              refine ⟨by omega, by omega, by omega, by omega, fun x hx => ?_⟩
              have h7 : ¬ (x < -1099511627776 ∨ 1099511627776 < x) := fun hh => h6 ⟨x, hx, hh⟩
              omega
theorem mcok0 {m : Img} {ins : List Int} {fuel : Int} (h : runChk m ins fuel = 0) (f : Fn) : McOk (mc0 m ins f) := by
  obtain ⟨h1, _, _, _, h2⟩ := runChk_ok h
  obtain ⟨_, _, _, _, h3⟩ := imgChk_ok h1
  refine ⟨?_, ?_, h2⟩
  · intro v hv
    have : v = ⟨0, false⟩ := List.eq_of_mem_replicate hv
    subst this
    decide
  · intro v hv
    obtain ⟨x, hx, rfl⟩ := List.mem_map.1 hv
    exact h3 x hx
theorem fin_run {w0 W w2 : World} {B gm gd g : Nat} {vT vI vO x0 x1 x2 x3 : Value} {s : Mc} (h : MSt w0 W B gm gd vT vI vO s) (hb : Below W.heap.size W w2) (hg : w0.heap[g]? = some (.cells #[x0, x1, x2, x3] 52)) :
    w2.heap[g]? = some (.cells #[x0, x1, x2, x3] 52) ∧ ∀ y0 y1 y2 y3, ListAt ((((w2.setCell ⟨g, 0, none⟩ y0).setCell ⟨g, 1, none⟩ y1).setCell ⟨g, 2, none⟩ y2).setCell ⟨g, 3, none⟩ y3) icell 1 vO s.told ∧
      ∀ wb : World, wb.heap.size ≤ g → Below wb.heap.size wb w0 → Below wb.heap.size wb ((((w2.setCell ⟨g, 0, none⟩ y0).setCell ⟨g, 1, none⟩ y1).setCell ⟨g, 2, none⟩ y2).setCell ⟨g, 3, none⟩ y3) := by
  have u := h.up hb
  have hl : g < w0.heap.size := (Array.getElem?_eq_some_iff.1 hg).1
  have hg2 : w2.heap[g]? = some (.cells #[x0, x1, x2, x3] 52) := (u.base.block g (by have := u.hB; omega)).trans hg
  refine ⟨hg2, fun y0 y1 y2 y3 => ?_⟩
  have C := ((((Chg.refl hg2).set 0 y0).set 1 y1).set 2 y2).set 3 y3
  refine ⟨row_list icell_len (row_same u.told fun k hk => ?_), fun wb hwb h0 => h0.trans ((u.base.mono ?_).trans (C.below hwb))⟩
  · obtain ⟨_, cur, hgk⟩ := row_block u.told hk
    exact C.rest k (Array.getElem?_eq_some_iff.1 hgk).1 (by rintro rfl; rw [hg2] at hgk; simp at hgk)
  · have := h0.size; have := u.hB; omega
theorem text_of {w : World} {v : Value} {ns : List Int} (h : ListAt w ucell 1 v ns) (hx : ∀ x ∈ ns, 0 ≤ x ∧ x ≤ 255) : TextAt w v ns := by
  refine ⟨hx, h.imp id ?_⟩
  rintro ⟨bb, oo, cap, h1, h2, h3, h4, h5⟩
  refine ⟨bb, oo, cap, h1, h2, h3, h4, fun j x hj => ?_⟩
  have := h5 j x hj 0 _ rfl
  rwa [Nat.mul_one, Nat.add_zero] at this
theorem text_up {w w' : World} {v : Value} {ns : List Int} (h : TextAt w v ns) (hb : Below w.heap.size w w') : TextAt w' v ns := by
  refine ⟨h.1, h.2.imp id ?_⟩
  rintro ⟨bb, oo, cap, h1, h2, h3, h4, h5⟩
  exact ⟨bb, oo, cap, h1, h2, h3, Nat.lt_of_lt_of_le h4 hb.size, fun j x hj => (hb.cell (p := ⟨bb, _, none⟩) h4).trans (h5 j x hj)⟩
theorem mem_step {s : Mc} {tabs : List (List Int)} {k d a b n sz : Int} : (doS tabs s k d a b n sz).mem.length = s.mem.length := by
  unfold doS
  repeat (first | refine iteP (fun x : Mc => x.mem.length = s.mem.length) (by simp) ?_)
  simp
theorem chain4 {w2 : World} {g : Nat} {T : TypeId} {x0 x1 x2 x3 : Value} (h : w2.heap[g]? = some (.cells #[x0, x1, x2, x3] T)) (y0 y1 y2 y3 : Value) :
    ((((w2.setCell ⟨g, 0, none⟩ y0).setCell ⟨g, 1, none⟩ y1).setCell ⟨g, 2, none⟩ y2).setCell ⟨g, 3, none⟩ y3).cell? ⟨g, 0, none⟩ = some y0 ∧ ((((w2.setCell ⟨g, 0, none⟩ y0).setCell ⟨g, 1, none⟩ y1).setCell ⟨g, 2, none⟩ y2).setCell ⟨g, 3, none⟩ y3).cell? ⟨g, 1, none⟩ = some y1 ∧
    ((((w2.setCell ⟨g, 0, none⟩ y0).setCell ⟨g, 1, none⟩ y1).setCell ⟨g, 2, none⟩ y2).setCell ⟨g, 3, none⟩ y3).cell? ⟨g, 2, none⟩ = some y2 ∧ ((((w2.setCell ⟨g, 0, none⟩ y0).setCell ⟨g, 1, none⟩ y1).setCell ⟨g, 2, none⟩ y2).setCell ⟨g, 3, none⟩ y3).cell? ⟨g, 3, none⟩ = some y3 := by
  have C := (((((Chg.refl h).set 0 y0).set 1 y1).set 2 y2).set 3 y3).new
  refine ⟨?_, ?_, ?_, ?_⟩
  all_goals (simp only [World.cell?, C]; rfl)
end Go.Proofs.YtechpdfcgimkkaaDoor
