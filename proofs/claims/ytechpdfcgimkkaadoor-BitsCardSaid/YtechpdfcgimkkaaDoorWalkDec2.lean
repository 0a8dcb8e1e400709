/-
  isa.Decode, whole: it answers 'decOut'.
-/
import Derived.Test.YtechpdfcgimkkaaDoorWalkDec
namespace Go.Proofs.YtechpdfcgimkkaaDoor
open Go.RowKit Go.Joins Isa
theorem getD_of {ns : List Int} {j : Nat} (h : j < ns.length) : ns[j]? = some (ns.getD j 0) := by
  rw [List.getD_eq_getElem?_getD, List.getElem?_eq_getElem h]; rfl
theorem decode_any (v : Value) (ns : List Int) (p : Int) (w : World) (ht : Tabs w) (hT : TextAt w v ns) :
    Calls Tryd.prog 58 #[v, .int .i64 p] w fun e w' => e = .returned (.tuple #[.agg #[.int .i64 (decOut ns p).1.k, .int .i64 (decOut ns p).1.d, .int .i64 (decOut ns p).1.a, .int .i64 (decOut ns p).1.b, .int .i64 (decOut ns p).1.n, .bool (decOut ns p).1.l], .int .i64 (decOut ns p).2.1, .int .i64 (decOut ns p).2.2]) ∧ Below w.heap.size w w' := by
  obtain ⟨hx, hv⟩ := hT
  by_cases hp : p < 0 ∨ (ns.length : Int) ≤ p
  · have hd : decOut ns p = (zeroI, 0, 2) := by unfold decOut; rw [if_pos hp]
    rw [hd]
    rcases hv with ⟨a, cap, rfl, rfl⟩ | ⟨bb, oo, cap, rfl, h1, h2, _⟩
    · exact dec_out a 0 cap p w (by simpa using hp) (by decide)
    · exact dec_out _ _ cap p w hp (by omega)
  · have hd : decOut ns p = if (kindB (ns.getD p.toNat 0)).1 = 0 then (zeroI, 0, 3) else if (ns.length : Int) - p < siz (kindB (ns.getD p.toNat 0)).1 (kindB (ns.getD p.toNat 0)).2 then (zeroI, 0, 5) else
        if (opsD (kindB (ns.getD p.toNat 0)).1 (kindB (ns.getD p.toNat 0)).2 ((ns.drop (p.toNat + 1)).take (siz (kindB (ns.getD p.toNat 0)).1 (kindB (ns.getD p.toNat 0)).2 - 1).toNat)).chk = 0 then (opsD (kindB (ns.getD p.toNat 0)).1 (kindB (ns.getD p.toNat 0)).2 ((ns.drop (p.toNat + 1)).take (siz (kindB (ns.getD p.toNat 0)).1 (kindB (ns.getD p.toNat 0)).2 - 1).toNat), siz (kindB (ns.getD p.toNat 0)).1 (kindB (ns.getD p.toNat 0)).2, 0) else (zeroI, 0, 4) := by
      unfold decOut; rw [if_neg hp]
    rcases hv with ⟨_, _, rfl, rfl⟩ | ⟨bb, oo, cap, rfl, h1, h2, h3, h4⟩
    · simp at hp; omega
    obtain ⟨t, rfl⟩ := Int.eq_ofNat_of_zero_le (show 0 ≤ p by omega)
    rw [Int.toNat_natCast] at hd
    have htl : t < ns.length := by omega
    have hk := kindB_is (ns.getD t 0)
    generalize hkb : kindB (ns.getD t 0) = kb at hd hk
    obtain ⟨kk, ll⟩ := kb
    refine dec_in bb oo cap ns.length t (ns.getD t 0) kk ll ((ns.drop (t + 1)).take (siz kk ll - 1).toNat) _ w ht h3 h1 h2 htl (h4 t _ (getD_of htl)) hkb ?_ hd ?_
    · rcases hk with q | ⟨q1, q2, q3, _⟩
      · exact Or.inl q
      · exact Or.inr ⟨q1, q2, q3⟩
    · intro k0 ks
      obtain ⟨q1, q2, _⟩ := hk.resolve_left k0
      have s1 : 1 ≤ siz kk ll := by have := wid_bd kk ll q1 q2; unfold siz; split <;> split <;> omega
      refine ⟨?_, ?_, ?_⟩
      · rw [List.length_take, List.length_drop]; omega
      · intro j y hy
        have hj : j < (siz kk ll - 1).toNat := by
          rcases Nat.lt_or_ge j (siz kk ll - 1).toNat with q | q
          · exact q
          · rw [List.getElem?_eq_none (by rw [List.length_take]; omega)] at hy; cases hy
        rw [List.getElem?_take_of_lt hj, List.getElem?_drop] at hy
        have := h4 (t + 1 + j) y hy
        rw [show oo + (t + 1) + j = oo + (t + 1 + j) by omega]
        exact this
      · intro y hy
        exact hx y (List.mem_of_mem_drop (List.mem_of_mem_take hy))
end Go.Proofs.YtechpdfcgimkkaaDoor
