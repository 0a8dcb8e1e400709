/-
  boltholeref.InstrAt, whole: it answers 'decOut'; boltholelaw.IsaDecodes answers true at every text and place.
-/
import Derived.Test.YtkofnmeononlaaaDoorAtA
import Derived.Test.YtkofnmeononlaaaDoorAtB
import Derived.Test.YtkofnmeononlaaaDoorAtC
import Derived.Test.YtkofnmeononlaaaDoorAtD
import Derived.Test.YtkofnmeononlaaaDoorAtE
import Derived.Test.YtkofnmeononlaaaDoorAtF
import Derived.Test.YtkofnmeononlaaaDoorAtG
import Derived.Test.YtkofnmeononlaaaDoorAtH
import Derived.Test.YtkofnmeononlaaaDoorWalkOct
namespace Go.Proofs.YtkofnmeononlaaaDoor
open Go.RowKit Go.Joins Isa
theorem at_in_any (bb oo cap len t : Nat) (x kk : Int) (ll : Bool) (rs : List Int) (X : Ins × Int × Int) (w : World) (hb : bb < w.heap.size) (hl : len ≤ cap) (hm : cap ≤ maxLen) (h47 : len ≤ 140737488351232) (htl : t < len) (hx : w.cell? ⟨bb, oo + t, none⟩ = some (.int .u8 x)) (x0 : 0 ≤ x) (x1 : x ≤ 255)
    (hk : kindB x = (kk, ll)) (hkk : (kk = 0 ∧ ll = false) ∨ (1 ≤ kk ∧ kk ≤ 24 ∧ (ll = true → rL kk = true)))
    (hX : X = if kk = 0 then (zeroI, 0, 3) else if (len : Int) - t < siz kk ll then (zeroI, 0, 5) else if (opsD kk ll rs).chk = 0 then (opsD kk ll rs, siz kk ll, 0) else (zeroI, 0, 4))
    (hrs : kk ≠ 0 → siz kk ll ≤ (len : Int) - t → (rs.length : Int) = siz kk ll - 1 ∧ (∀ j y, rs[j]? = some y → w.cell? ⟨bb, oo + (t + 1) + j, none⟩ = some (.int .u8 y)) ∧ ∀ y ∈ rs, 0 ≤ y ∧ y ≤ 255) :
    Calls Tryd.prog 17 #[.slice (some ⟨bb, oo, none⟩) len cap, .int .i64 t] w fun e w' => e = .returned (.tuple #[.agg #[.int .i64 X.1.k, .int .i64 X.1.d, .int .i64 X.1.a, .int .i64 X.1.b, .int .i64 X.1.n, .bool X.1.l], .int .i64 X.2.1, .int .i64 X.2.2]) ∧ Below w.heap.size w w' := by
  rcases hkk with ⟨rfl, rfl⟩ | ⟨h1, h2, h3⟩
  · exact at_in0 bb oo cap len t x rs X w hb hl hm h47 htl hx x0 x1 hk hX (fun h => absurd rfl h)
  · cases ll
    · rcases kinds h1 h2 with rfl | rfl | rfl | rfl | rfl | rfl | rfl | rfl | rfl | rfl | rfl | rfl | rfl | rfl | rfl | rfl | rfl | rfl | rfl | rfl | rfl | rfl | rfl | rfl
      · exact at_in1 bb oo cap len t x rs X w hb hl hm h47 htl hx x0 x1 hk hX (fun _ => hrs (by decide))
      · exact at_in2 bb oo cap len t x rs X w hb hl hm h47 htl hx x0 x1 hk hX (fun _ => hrs (by decide))
      · exact at_in3 bb oo cap len t x rs X w hb hl hm h47 htl hx x0 x1 hk hX (fun _ => hrs (by decide))
      · exact at_in4 bb oo cap len t x rs X w hb hl hm h47 htl hx x0 x1 hk hX (fun _ => hrs (by decide))
      · exact at_in5 bb oo cap len t x rs X w hb hl hm h47 htl hx x0 x1 hk hX (fun _ => hrs (by decide))
      · exact at_in6 bb oo cap len t x rs X w hb hl hm h47 htl hx x0 x1 hk hX (fun _ => hrs (by decide))
      · exact at_in7 bb oo cap len t x rs X w hb hl hm h47 htl hx x0 x1 hk hX (fun _ => hrs (by decide))
      · exact at_in8 bb oo cap len t x rs X w hb hl hm h47 htl hx x0 x1 hk hX (fun _ => hrs (by decide))
      · exact at_in9 bb oo cap len t x rs X w hb hl hm h47 htl hx x0 x1 hk hX (fun _ => hrs (by decide))
      · exact at_in10 bb oo cap len t x rs X w hb hl hm h47 htl hx x0 x1 hk hX (fun _ => hrs (by decide))
      · exact at_in11 bb oo cap len t x rs X w hb hl hm h47 htl hx x0 x1 hk hX (fun _ => hrs (by decide))
      · exact at_in12 bb oo cap len t x rs X w hb hl hm h47 htl hx x0 x1 hk hX (fun _ => hrs (by decide))
      · exact at_in13 bb oo cap len t x rs X w hb hl hm h47 htl hx x0 x1 hk hX (fun _ => hrs (by decide))
      · exact at_in14 bb oo cap len t x rs X w hb hl hm h47 htl hx x0 x1 hk hX (fun _ => hrs (by decide))
      · exact at_in15 bb oo cap len t x rs X w hb hl hm h47 htl hx x0 x1 hk hX (fun _ => hrs (by decide))
      · exact at_in16 bb oo cap len t x rs X w hb hl hm h47 htl hx x0 x1 hk hX (fun _ => hrs (by decide))
      · exact at_in17 bb oo cap len t x rs X w hb hl hm h47 htl hx x0 x1 hk hX (fun _ => hrs (by decide))
      · exact at_in18 bb oo cap len t x rs X w hb hl hm h47 htl hx x0 x1 hk hX (fun _ => hrs (by decide))
      · exact at_in19 bb oo cap len t x rs X w hb hl hm h47 htl hx x0 x1 hk hX (fun _ => hrs (by decide))
      · exact at_in20 bb oo cap len t x rs X w hb hl hm h47 htl hx x0 x1 hk hX (fun _ => hrs (by decide))
      · exact at_in21 bb oo cap len t x rs X w hb hl hm h47 htl hx x0 x1 hk hX (fun _ => hrs (by decide))
      · exact at_in22 bb oo cap len t x rs X w hb hl hm h47 htl hx x0 x1 hk hX (fun _ => hrs (by decide))
      · exact at_in23 bb oo cap len t x rs X w hb hl hm h47 htl hx x0 x1 hk hX (fun _ => hrs (by decide))
      · exact at_in24 bb oo cap len t x rs X w hb hl hm h47 htl hx x0 x1 hk hX (fun _ => hrs (by decide))
    · have hq : kk = 18 ∨ kk = 19 ∨ kk = 20 ∨ kk = 21 ∨ kk = 22 := by
        have := h3 rfl
        rcases kinds h1 h2 with rfl | rfl | rfl | rfl | rfl | rfl | rfl | rfl | rfl | rfl | rfl | rfl | rfl | rfl | rfl | rfl | rfl | rfl | rfl | rfl | rfl | rfl | rfl | rfl
        all_goals first | omega | (exact absurd this (by decide))
      rcases hq with rfl | rfl | rfl | rfl | rfl
      · exact at_in18L bb oo cap len t x rs X w hb hl hm h47 htl hx x0 x1 hk hX (fun _ => hrs (by decide))
      · exact at_in19L bb oo cap len t x rs X w hb hl hm h47 htl hx x0 x1 hk hX (fun _ => hrs (by decide))
      · exact at_in20L bb oo cap len t x rs X w hb hl hm h47 htl hx x0 x1 hk hX (fun _ => hrs (by decide))
      · exact at_in21L bb oo cap len t x rs X w hb hl hm h47 htl hx x0 x1 hk hX (fun _ => hrs (by decide))
      · exact at_in22L bb oo cap len t x rs X w hb hl hm h47 htl hx x0 x1 hk hX (fun _ => hrs (by decide))
theorem at_any (v : Value) (ns : List Int) (p : Int) (w : World) (hT : TextAt w v ns) (h47 : ns.length ≤ 140737488351232) :
    Calls Tryd.prog 17 #[v, .int .i64 p] w fun e w' => e = .returned (.tuple #[.agg #[.int .i64 (decOut ns p).1.k, .int .i64 (decOut ns p).1.d, .int .i64 (decOut ns p).1.a, .int .i64 (decOut ns p).1.b, .int .i64 (decOut ns p).1.n, .bool (decOut ns p).1.l], .int .i64 (decOut ns p).2.1, .int .i64 (decOut ns p).2.2]) ∧ Below w.heap.size w w' := by
  obtain ⟨hx, hv⟩ := hT
  by_cases hp : p < 0 ∨ (ns.length : Int) ≤ p
  · have hd : decOut ns p = (zeroI, 0, 2) := by unfold decOut; rw [if_pos hp]
    rw [hd]
    rcases hv with ⟨a, cap, rfl, rfl⟩ | ⟨bb, oo, cap, rfl, h1, h2, _⟩
    · exact at_out a 0 cap p w (by simpa using hp) (by decide)
    · exact at_out _ _ cap p w hp (by omega)
  · have hd : decOut ns p = if (kindB (ns.getD p.toNat 0)).1 = 0 then (zeroI, 0, 3) else if (ns.length : Int) - p < siz (kindB (ns.getD p.toNat 0)).1 (kindB (ns.getD p.toNat 0)).2 then (zeroI, 0, 5) else
        if (opsD (kindB (ns.getD p.toNat 0)).1 (kindB (ns.getD p.toNat 0)).2 ((ns.drop (p.toNat + 1)).take (siz (kindB (ns.getD p.toNat 0)).1 (kindB (ns.getD p.toNat 0)).2 - 1).toNat)).chk = 0 then (opsD (kindB (ns.getD p.toNat 0)).1 (kindB (ns.getD p.toNat 0)).2 ((ns.drop (p.toNat + 1)).take (siz (kindB (ns.getD p.toNat 0)).1 (kindB (ns.getD p.toNat 0)).2 - 1).toNat), siz (kindB (ns.getD p.toNat 0)).1 (kindB (ns.getD p.toNat 0)).2, 0) else (zeroI, 0, 4) := by
      unfold decOut; rw [if_neg hp]
    rcases hv with ⟨_, _, rfl, rfl⟩ | ⟨bb, oo, cap, rfl, h1, h2, h3, h4⟩
    · simp at hp; omega
    obtain ⟨t, rfl⟩ := Int.eq_ofNat_of_zero_le (show 0 ≤ p by omega)
    rw [Int.toNat_natCast] at hd
    have htl : t < ns.length := by omega
    have hk := kindB_is (ns.getD t 0)
    generalize hkb : kindB (ns.getD t 0) = kb at hd hk
    obtain ⟨kk, ll⟩ := kb
    obtain ⟨x0, x1⟩ := hx _ (List.mem_of_getElem? (getD_of htl))
    refine at_in_any bb oo cap ns.length t (ns.getD t 0) kk ll ((ns.drop (t + 1)).take (siz kk ll - 1).toNat) _ w h3 h1 h2 h47 htl (h4 t _ (getD_of htl)) x0 x1 hkb ?_ hd ?_
    · rcases hk with q | ⟨q1, q2, q3, _⟩
      · refine Or.inl ⟨q, ?_⟩
        rcases seek_is (ns.getD t 0) 24 1 with z | ⟨j, j1, _, z⟩
        · rw [show seek (ns.getD t 0) 1 24 = (kk, ll) from hkb] at z; exact (Prod.mk.inj z).2
        · rw [show seek (ns.getD t 0) 1 24 = (kk, ll) from hkb] at z
          simp only at q
          rcases z with ⟨z, _⟩ | ⟨z, _⟩ <;> (have := (Prod.mk.inj z).1; omega)
      · exact Or.inr ⟨q1, q2, q3⟩
    · intro k0 ks
      obtain ⟨q1, q2, _⟩ := hk.resolve_left k0
      have s1 : 1 ≤ siz kk ll := by have := wid_bd kk ll q1 q2; unfold siz; split <;> split <;> omega
      refine ⟨?_, ?_, ?_⟩
      · rw [List.length_take, List.length_drop]; omega
      · intro j y hy
        have hj : j < (siz kk ll - 1).toNat := by
          rcases Nat.lt_or_ge j (siz kk ll - 1).toNat with q | q
          · exact q
          · rw [List.getElem?_eq_none (by rw [List.length_take]; omega)] at hy; cases hy
        rw [List.getElem?_take_of_lt hj, List.getElem?_drop] at hy
        have := h4 (t + 1 + j) y hy
        rw [show oo + (t + 1) + j = oo + (t + 1 + j) by omega]
        exact this
      · intro y hy
        exact hx y (List.mem_of_mem_drop (List.mem_of_mem_take hy))
set_option maxHeartbeats 1000000 in
theorem decodes_law (v : Value) (ns : List Int) (p : Int) (w : World) (ht : Tabs w) (hT : TextAt w v ns) (h47 : ns.length ≤ 140737488351232) :
    Calls Tryd.prog 6 #[v, .int .i64 p] w fun e w' => e = .returned (.bool true) ∧ Below w.heap.size w w' := by
  have H47 : Hid _ := h47
  clear h47
  have HT : Hid _ := hT
  go_enter Tryd.func6, Tryd.ntmps6
  go_wp2_with fail
  refine (octets_any _ v ns hT H47.out).mono ?_
  rintro e w1 ⟨v', rfl, hT1, B1⟩
  have ht1 := ht.below ht.sz B1
  go_wp2_with fail
  refine (decode_any _ ns p _ ht1 hT1).mono ?_
  generalize hX : decOut ns p = X
  obtain ⟨⟨k, d, a, b, n, l⟩, sz, er⟩ := X
  rintro e w2 ⟨rfl, hb2⟩
  have B2 : Below w.heap.size w w2 := B1.trans (hb2.mono B1.size)
  have z2 : w.heap.size ≤ w2.heap.size := B2.size
  have hT2 : ∀ o, TextAt (w2.alloc o) v ns := fun o => text_below' HT.out (B2.alloc z2 o)
  have H2 : Hid _ := hT2
  have HX : Hid _ := hX
  clear hX hb2 hT hT1 ht1 hT2 B1
  go_wp2_with fail
  refine (at_any v ns p _ (H2.out _) H47.out).mono ?_
  rw [HX.out]
  rintro e w3 ⟨rfl, hb3⟩
  obtain ⟨hc3, _⟩ := bcell hb3
  have s0 := hc3 w2.heap.size 0 (by simp)
  have s1 := hc3 w2.heap.size 1 (by simp)
  have s2 := hc3 w2.heap.size 2 (by simp)
  have s3 := hc3 w2.heap.size 3 (by simp)
  have s4 := hc3 w2.heap.size 4 (by simp)
  have s5 := hc3 w2.heap.size 5 (by simp)
  simp at s0 s1 s2 s3 s4 s5
  have hz3 : w2.heap.size < w3.heap.size := (by have := hb3.size; simp at this; omega)
  have B3 : Below w.heap.size w w3 := (B2.alloc z2 _).trans (hb3.mono (by simp; omega))
  clear hb3 hc3
  go_wp2_with fail
  go_ret
  exact ⟨by simp, B3.alloc (by omega) _⟩
end Go.Proofs.YtkofnmeononlaaaDoor
