/-
  Raws cut, shares, plans that grow: what boltholekeep.Program needs.
-/
import Derived.Test.YtechpdfcgimkkaaDoorWalkBkC
namespace Go.Proofs.YtechpdfcgimkkaaDoor
open Go.RowKit Go.Joins Isa
theorem cut_len {α : Type} (l : List α) (a b : Nat) (h : b ≤ l.length) : (cut l a b).length = b - a := by unfold cut; rw [List.length_take, List.length_drop]; omega
theorem RawsAt.cut {w : World} {bb oo n cap : Nat} {l : List Rw} (h : RawsAt w (.slice (some ⟨bb, oo, none⟩) n cap) l) (a b : Nat) (hab : a ≤ b) (hb : b ≤ l.length) (c : Nat) (hc : b - a ≤ c) (hcm : c ≤ maxLen) : RawsAt w (.slice (some ⟨bb, oo + a * 4, none⟩) (b - a) c) (cut l a b) := by
  refine ⟨fun r hr => h.1 r (List.mem_of_mem_drop (List.mem_of_mem_take hr)), ?_⟩
  have hl := cut_len l a b hb
  rcases Nat.eq_zero_or_pos (b - a) with q | q
  · exact Or.inl ⟨_, _, by rw [q], List.length_eq_zero_iff.1 (by omega)⟩
  · rcases h.2 with ⟨_, _, _, rfl⟩ | ⟨bb', oo', cap', hv, c1, c2, c3, c4⟩
    · simp at hb; omega
    · cases hv
      refine Or.inr ⟨bb, oo + a * 4, c, by rw [hl], by omega, hcm, c3, fun j r hj => ?_⟩
      have hj' : l[a + j]? = some r := by
        unfold Proofs.YtechpdfcgimkkaaDoor.cut at hj
        rw [List.getElem?_take] at hj
        split at hj
        · rwa [List.getElem?_drop] at hj
        · cases hj
      have := c4 (a + j) r hj'
      rwa [show oo + (a + j) * 4 = oo + a * 4 + j * 4 by omega] at this
theorem RawsAt.below {w w' : World} {v : Value} {l : List Rw} {m : Nat} (h : RawsAt w v l) (hm : w.heap.size ≤ m) (hb : Below m w w') : RawsAt w' v l := by
  refine ⟨h.1, ?_⟩
  rcases h.2 with q | ⟨bb, oo, cap, rfl, c1, c2, c3, c4⟩
  · exact Or.inl q
  · have := hb.size
    refine Or.inr ⟨bb, oo, cap, rfl, c1, c2, by omega, fun j r hj => ?_⟩
    obtain ⟨d0, d1, d2, d3⟩ := c4 j r hj
    exact ⟨(hb.cell (p := ⟨bb, _, none⟩) (by simp; omega)).trans d0, (hb.cell (p := ⟨bb, _, none⟩) (by simp; omega)).trans d1, (hb.cell (p := ⟨bb, _, none⟩) (by simp; omega)).trans d2, (hb.cell (p := ⟨bb, _, none⟩) (by simp; omega)).trans d3⟩
theorem blocksUpTo_len (l : List Rw) (f funcs first n : Nat) : (blocksUpTo l f funcs first n).length = n := by unfold blocksUpTo; simp
theorem blocksUpTo_succ (l : List Rw) (f funcs first n : Nat) : blocksUpTo l f funcs first (n + 1) = blocksUpTo l f funcs first n ++ [blockOf (share (share l f funcs) n (manyOf l f funcs)) (first + n : Nat) first (first + manyOf l f funcs - 1 : Nat) funcs] := by
  unfold blocksUpTo; rw [List.range_succ, List.map_append]; rfl
theorem share_bd {n len many : Nat} (h : n < many) : n * len / many ≤ (n + 1) * len / many ∧ (n + 1) * len / many ≤ len := by
  refine ⟨Nat.div_le_div_right (Nat.mul_le_mul_right _ (by omega)), ?_⟩
  exact Nat.div_le_of_le_mul (Nat.mul_le_mul_right _ (by omega))
theorem share_len {α : Type} (l : List α) (n many : Nat) (h : n < many) : (share l n many).length ≤ l.length := by
  obtain ⟨h1, h2⟩ := share_bd (len := l.length) h
  unfold share; rw [cut_len _ _ _ h2]
  exact Nat.le_trans (Nat.sub_le _ _) h2
theorem manyOf_le (l : List Rw) (f funcs : Nat) (h : f < funcs) (hl : l.length ≤ 150) : manyOf l f funcs ≤ 38 := by
  have := share_len l f funcs h
  unfold manyOf; omega
theorem planUpTo_len (l : List Rw) (funcs : Nat) (hl : l.length ≤ 150) (f : Nat) (h : f ≤ funcs) : (planUpTo l funcs f).1.length ≤ f * 38 ∧ (planUpTo l funcs f).2.length = f := by
  induction f with
  | zero => exact ⟨by simp [planUpTo], rfl⟩
  | succ f ih =>
    obtain ⟨i1, i2⟩ := ih (by omega)
    have := manyOf_le l f funcs (by omega) hl
    have e1 : (planUpTo l funcs (f + 1)).1.length = (planUpTo l funcs f).1.length + manyOf l f funcs := by simp only [planUpTo, List.length_append, blocksUpTo_len]
    have e2 : (planUpTo l funcs (f + 1)).2.length = (planUpTo l funcs f).2.length + 1 := by simp only [planUpTo, List.length_append, List.length_cons, List.length_nil]
    exact ⟨by omega, by omega⟩
theorem share_facts (k len mo : Nat) (hk : k < mo) (hm : mo ≤ 38) (hl : len ≤ 150) : ∃ lo hi r1 r2 : Nat, Hid (k * len / mo = lo) ∧ Hid ((k + 1) * len / mo = hi) ∧ lo ≤ hi ∧ hi ≤ len ∧ r1 ≤ 5700 ∧ r2 ≤ 5700 ∧ IntKind.i64.wrap ((k : Int) * (len : Int)) = (r1 : Int) ∧ IntKind.i64.wrap (((k : Int) + 1) * (len : Int)) = (r2 : Int) ∧
    (r1 : Int) / (mo : Int) = (lo : Int) ∧ (r2 : Int) / (mo : Int) = (hi : Int) ∧ (r1 : Int).tdiv (mo : Int) = (lo : Int) ∧ (r2 : Int).tdiv (mo : Int) = (hi : Int) ∧ wrap64 ((k : Int) * (len : Int)) = (r1 : Int) ∧ wrap64 (((k : Int) + 1) * (len : Int)) = (r2 : Int) := by
  obtain ⟨s1, s2⟩ := share_bd (len := len) hk
  have b1 : k * len ≤ 38 * 150 := Nat.mul_le_mul (by omega) hl
  have b2 : (k + 1) * len ≤ 38 * 150 := Nat.mul_le_mul (by omega) hl
  have e2 : ((k : Int) + 1) * (len : Int) = (((k + 1) * len : Nat) : Int) := by rw [Int.natCast_mul]; rfl
  have e1 : (k : Int) * (len : Int) = ((k * len : Nat) : Int) := by rw [Int.natCast_mul]
  refine ⟨_, _, k * len, (k + 1) * len, rfl, rfl, s1, s2, b1, b2, ?_, ?_, ?_, ?_, ?_, ?_, ?_, ?_⟩
  · rw [e1, IntKind.wrap_i64]; generalize k * len = t at *; omega
  · rw [e2, IntKind.wrap_i64]; generalize (k + 1) * len = t at *; omega
  · rw [Int.natCast_ediv]
  · rw [Int.natCast_ediv]
  · rw [Int.tdiv_eq_ediv_of_nonneg (Int.natCast_nonneg _), Int.natCast_ediv]
  · rw [Int.tdiv_eq_ediv_of_nonneg (Int.natCast_nonneg _), Int.natCast_ediv]
  · rw [e1]; generalize k * len = t at *; unfold wrap64; omega
  · rw [e2]; generalize (k + 1) * len = t at *; unfold wrap64; omega
theorem RawsAt.cut' {w : World} {a : Option Addr} {c : Nat} {l : List Rw} (h : RawsAt w (.slice a l.length c) l) (lo hi : Nat) (h1 : lo ≤ hi) (h2 : hi ≤ l.length) (hc : l.length ≤ c ∨ l.length = 0) :
    RawsAt w (.slice (if c = lo then a else Option.map (fun x => x.add (lo * 4)) a) (hi - lo) (c - lo)) (Go.Proofs.YtechpdfcgimkkaaDoor.cut l lo hi) ∧ (hi - lo ≤ c - lo ∨ hi - lo = 0) := by
  refine ⟨?_, by omega⟩
  rcases Nat.eq_zero_or_pos (hi - lo) with q | q
  · refine ⟨fun r hr => h.1 r (List.mem_of_mem_drop (List.mem_of_mem_take hr)), Or.inl ⟨_, _, by rw [q], List.length_eq_zero_iff.1 (by rw [cut_len _ _ _ h2]; exact q)⟩⟩
  · have h0 := h
    rcases h.2 with ⟨_, _, _, rfl⟩ | ⟨bb, oo, cap, hv, c1, c2, _⟩
    · simp at h2; omega
    · cases hv
      rw [if_neg (by omega)]
      have h9 := h0.cut lo hi h1 h2 (c - lo) (by omega) (Nat.le_trans (Nat.sub_le _ _) c2)
      simpa only [Option.map_some, Addr.add_lit] using h9
/-- What boltholekeep.Program hands to its plan's assembled. -/
def planOf (l : List Rw) : List (List Sp) × List Int := planUpTo (l.take 150) (funcsOf (l.take 150)) (funcsOf (l.take 150))
end Go.Proofs.YtechpdfcgimkkaaDoor
