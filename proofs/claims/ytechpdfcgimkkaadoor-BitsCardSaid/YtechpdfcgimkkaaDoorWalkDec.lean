/-
  isa.Decode.
-/
import Derived.Test.YtechpdfcgimkkaaDoorWalkD3
import Derived.Test.YtechpdfcgimkkaaDoorWalkS
import Derived.Deep.DeepCutAuto
import Derived.Outline
namespace Go.Proofs.YtechpdfcgimkkaaDoor
open Go.RowKit Go.Joins Isa
/-- A slice value whose bytes, in a world, are these. -/
def TextAt (w : World) (v : Value) (ns : List Int) : Prop :=
  (∀ x ∈ ns, 0 ≤ x ∧ x ≤ 255) ∧ ((∃ a cap, v = .slice a 0 cap ∧ ns = []) ∨ ∃ bb oo cap, v = .slice (some ⟨bb, oo, none⟩) ns.length cap ∧ ns.length ≤ cap ∧ cap ≤ maxLen ∧ bb < w.heap.size ∧ ∀ j x, ns[j]? = some x → w.cell? ⟨bb, oo + j, none⟩ = some (.int .u8 x))
def zeroI : Ins := ⟨0, 0, 0, 0, 0, false⟩
/-- P1.3. -/
def decOut (ns : List Int) (p : Int) : Ins × Int × Int :=
  if p < 0 ∨ ns.length ≤ p then (zeroI, 0, 2)
  else
    let kb := kindB (ns.getD p.toNat 0)
    if kb.1 = 0 then (zeroI, 0, 3)
    else if ns.length - p < siz kb.1 kb.2 then (zeroI, 0, 5)
    else
      let i := opsD kb.1 kb.2 ((ns.drop (p.toNat + 1)).take (siz kb.1 kb.2 - 1).toNat)
      if i.chk = 0 then (i, siz kb.1 kb.2, 0) else (zeroI, 0, 4)
set_option maxHeartbeats 1000000 in
theorem dec_out (a : Option Addr) (len cap : Nat) (p : Int) (w : World) (h : p < 0 ∨ (len : Int) ≤ p) (_hl : len ≤ maxLen) :
    Calls Tryd.prog 58 #[.slice a len cap, .int .i64 p] w fun e w' => e = .returned (.tuple #[.agg #[.int .i64 0, .int .i64 0, .int .i64 0, .int .i64 0, .int .i64 0, .bool false], .int .i64 0, .int .i64 2]) ∧ Below w.heap.size w w' := by
  by_cases h0 : p < 0
  · clear h
    go_enter Tryd.func58, Tryd.ntmps58
    go_wp2
    exact bodyPost_ret (v := .tuple #[.agg #[.int .i64 0, .int .i64 0, .int .i64 0, .int .i64 0, .int .i64 0, .bool false], .int .i64 0, .int .i64 2]) (by simp [results, Tryd.results58, go_sem]) rfl ⟨rfl, by go_grown⟩
  · have h1 : (len : Int) ≤ p := by omega
    clear h
    go_enter Tryd.func58, Tryd.ntmps58
    go_wp2
    exact bodyPost_ret (v := .tuple #[.agg #[.int .i64 0, .int .i64 0, .int .i64 0, .int .i64 0, .int .i64 0, .bool false], .int .i64 0, .int .i64 2]) (by simp [results, Tryd.results58, go_sem]) rfl ⟨rfl, by go_grown⟩
set_option maxHeartbeats 1000000 in
theorem dec_in (bb oo cap len t : Nat) (x kk : Int) (ll : Bool) (rs : List Int) (X : Ins × Int × Int) (w : World) (ht : Tabs w) (hb : bb < w.heap.size) (_hl : len ≤ cap) (_hm : cap ≤ maxLen) (htl : t < len) (hx : w.cell? ⟨bb, oo + t, none⟩ = some (.int .u8 x))
    (hk : kindB x = (kk, ll)) (hkk : kk = 0 ∨ (1 ≤ kk ∧ kk ≤ 24 ∧ (ll = true → rL kk = true)))
    (hX : X = if kk = 0 then (zeroI, 0, 3) else if (len : Int) - t < siz kk ll then (zeroI, 0, 5) else if (opsD kk ll rs).chk = 0 then (opsD kk ll rs, siz kk ll, 0) else (zeroI, 0, 4))
    (hrs : kk ≠ 0 → siz kk ll ≤ (len : Int) - t → (rs.length : Int) = siz kk ll - 1 ∧ (∀ j y, rs[j]? = some y → w.cell? ⟨bb, oo + (t + 1) + j, none⟩ = some (.int .u8 y)) ∧ ∀ y ∈ rs, 0 ≤ y ∧ y ≤ 255) :
    Calls Tryd.prog 58 #[.slice (some ⟨bb, oo, none⟩) len cap, .int .i64 t] w fun e w' => e = .returned (.tuple #[.agg #[.int .i64 X.1.k, .int .i64 X.1.d, .int .i64 X.1.a, .int .i64 X.1.b, .int .i64 X.1.n, .bool X.1.l], .int .i64 X.2.1, .int .i64 X.2.2]) ∧ Below w.heap.size w w' := by
  unfold maxLen at _hm
  have ht1 : ∀ o, Tabs (w.alloc o) := fun o => ht.below ht.sz ((Below.refl _ _).alloc (Nat.le_refl _) o)
  have H1 : Hid (∀ o, Tabs (w.alloc o)) := ht1
  have HK : Hid (kindB x = (kk, ll)) := hk
  have HX : Hid (X = if kk = 0 then (zeroI, 0, 3) else if (len : Int) - t < siz kk ll then (zeroI, 0, 5) else if (opsD kk ll rs).chk = 0 then (opsD kk ll rs, siz kk ll, 0) else (zeroI, 0, 4)) := hX
  have HR : Hid (kk ≠ 0 → siz kk ll ≤ (len : Int) - t → (rs.length : Int) = siz kk ll - 1 ∧ (∀ j y, rs[j]? = some y → w.cell? ⟨bb, oo + (t + 1) + j, none⟩ = some (.int .u8 y)) ∧ ∀ y ∈ rs, 0 ≤ y ∧ y ≤ 255) := hrs
  clear ht1 hk hX hrs
  have hb2 : bb < w.heap.size + 1 := by omega
  go_enter Tryd.func58, Tryd.ntmps58
  go_wp2_with fail
  refine (kind_any x _ (H1.out _)).mono ?_
  rw [HK.out]
  rintro e w1 ⟨rfl, hb1⟩
  obtain ⟨hc1, hf1⟩ := bcell hb1
  have hz1 : w.heap.size < w1.heap.size := (by have := hb1.size; simp at this; omega)
  have B1 : Below w.heap.size w w1 := (Below.alloc (Below.refl _ _) (Nat.le_refl _) _).trans (hb1.mono (by simp))
  clear hb1
  by_cases hk0 : kk = 0
  · have hY : Hid (X = (zeroI, 0, 3)) := by show _ = _; rw [HX.out, if_pos hk0]
    clear HX HR
    subst hk0
    go_wp2
    exact bodyPost_ret (v := .tuple #[.agg #[.int .i64 0, .int .i64 0, .int .i64 0, .int .i64 0, .int .i64 0, .bool false], .int .i64 0, .int .i64 3]) (by simp [results, Tryd.results58, go_sem, hc1]) rfl ⟨by rw [hY.out]; rfl, by go_grown⟩
  have hk0b : (kk == 0) = false := by simp [hk0]
  obtain ⟨k1, k2, k3⟩ := hkk.resolve_left hk0
  have K3 : Hid (ll = true → rL kk = true) := k3
  clear k3 hkk
  have K0 : Hid (¬ kk = 0) := hk0
  clear hk0
  go_wp2_with fail
  obtain ⟨s1, s2⟩ := (show 1 ≤ siz kk ll ∧ siz kk ll ≤ 5 from by have := wid_bd kk ll k1 k2; unfold siz; constructor <;> split <;> split <;> omega)
  obtain ⟨sz, hsz⟩ := Int.eq_ofNat_of_zero_le (show 0 ≤ siz kk ll by omega)
  have HS : Hid (siz kk ll = (sz : Int)) := hsz
  have s3 : 1 ≤ sz := by omega
  have s4 : sz ≤ 5 := by omega
  clear hsz s1 s2
  refine (size_any kk 0 0 0 0 ll _ k1 k2 (ht.below ht.sz (B1.alloc (by omega) _))).mono ?_
  rw [HS.out]
  rintro e w2 ⟨rfl, hb2'⟩
  obtain ⟨hc2, hf2⟩ := bcell hb2'
  have hz2 : w1.heap.size < w2.heap.size := (by have := hb2'.size; simp at this; omega)
  have B2 : Below w.heap.size w w2 := (B1.alloc (by omega) _).trans (hb2'.mono (by simp; omega))
  have hz3 : w.heap.size < w2.heap.size := by omega
  have hz4 : w.heap.size < w1.heap.size + 1 := by omega
  clear hb2'
  by_cases hsh : (len : Int) - t < sz
  · have hY : Hid (X = (zeroI, 0, 5)) := by show _ = _; rw [HX.out, if_neg K0.out, HS.out, if_pos hsh]
    clear HX HR
    go_wp2
    exact bodyPost_ret (v := .tuple #[.agg #[.int .i64 0, .int .i64 0, .int .i64 0, .int .i64 0, .int .i64 0, .bool false], .int .i64 0, .int .i64 5]) (by simp [results, Tryd.results58, go_sem, hc1, hc2, hz4, hz1]) rfl ⟨by rw [hY.out]; rfl, by go_grown⟩
  · obtain ⟨q1, q2, q3⟩ := HR.out K0.out (by rw [HS.out]; omega)
    rw [HS.out] at q1
    clear HR
    have Q2 : Hid (∀ j y, rs[j]? = some y → w.cell? ⟨bb, oo + (t + 1) + j, none⟩ = some (.int .u8 y)) := q2
    have Q3 : Hid (∀ y ∈ rs, 0 ≤ y ∧ y ≤ 255) := q3
    clear q2 q3
    obtain ⟨m, rfl⟩ : ∃ m, sz = m + 1 := ⟨sz - 1, by omega⟩
    have hm : rs.length = m := by omega
    clear q1
    go_wp2_with fail
    have e1 : IntKind.i64.wrap ((t : Int) + 1) = (t : Int) + 1 := by rw [IntKind.wrap_i64]; omega
    have e2 : IntKind.i64.wrap ((t : Int) + ((m : Int) + 1)) = (t : Int) + ((m : Int) + 1) := by rw [IntKind.wrap_i64]; omega
    have e3 : ((t : Int) + 1).toNat = t + 1 := by omega
    have e4 : ((t : Int) + ((m : Int) + 1)).toNat = t + (m + 1) := by omega
    have f1 : (0 : Int) ≤ (t : Int) + 1 := by omega
    have f2 : (t : Int) + 1 ≤ (t : Int) + ((m : Int) + 1) := by omega
    have f3 : (t : Int) + ((m : Int) + 1) ≤ (cap : Int) := by omega
    have hlen : Hid (t + (m + 1) - (t + 1) = rs.length) := by show _ = _; omega
    obtain ⟨o2, ho2, hq⟩ : ∃ o2, (if cap = t + 1 then some (⟨bb, oo, none⟩ : Addr) else some ⟨bb, oo + (t + 1), none⟩) = some ⟨bb, o2, none⟩ ∧ ∀ j y, rs[j]? = some y → w2.drew.cell? ⟨bb, o2 + j, none⟩ = some (.int .u8 y) := by
      by_cases hcap : cap = t + 1
      · refine ⟨oo, by rw [if_pos hcap], fun j y hy => ?_⟩
        obtain rfl : rs = [] := List.length_eq_zero_iff.1 (by omega)
        simp at hy
      · refine ⟨oo + (t + 1), by rw [if_neg hcap], fun j y hy => ?_⟩
        exact (B2.drew.cell (p := ⟨bb, _, none⟩) hb).trans (Q2.out j y hy)
    have HO : Hid ((if cap = t + 1 then some (⟨bb, oo, none⟩ : Addr) else some ⟨bb, oo + (t + 1), none⟩) = some ⟨bb, o2, none⟩) := ho2
    have HQ : Hid (∀ j y, rs[j]? = some y → w2.drew.cell? ⟨bb, o2 + j, none⟩ = some (.int .u8 y)) := hq
    have ht2 : Tabs w2.drew := ht.below ht.sz B2.drew
    have hbz : bb < w2.drew.heap.size := Nat.lt_trans hb hz3
    have hln : (rs.length : Int) = siz kk ll - 1 := by rw [HS.out]; omega
    have HL : Hid ((rs.length : Int) = siz kk ll - 1) := hln
    clear ho2 hq hln Q2
    have ci2 : ∀ j, w2.cell? ⟨w1.heap.size, j, none⟩ = (#[.int .i64 kk, .int .i64 0, .int .i64 0, .int .i64 0, .int .i64 0, .bool ll] : Array Value)[j]? := fun j => (hc2 w1.heap.size j (by simp)).trans (World.cell?_alloc_new _ _ _ j)
    have fi2 : ∀ j, w2.frozen? ⟨w1.heap.size, j, none⟩ = false := fun j => (hf2 w1.heap.size j (by simp)).trans (by simp [go_sem])
    have cr2 : ∀ j, w2.cell? ⟨w.heap.size, j, none⟩ = (#[.int .i64 0, .int .i64 0, .int .i64 0, .int .i64 0, .int .i64 0, .bool false] : Array Value)[j]? := fun j => (hc2 w.heap.size j (by simp; omega)).trans ((World.cell?_alloc_past _ _ _ hz1).trans ((hc1 w.heap.size j (by simp)).trans (World.cell?_alloc_new _ _ _ j)))
    have fr2 : ∀ j, w2.frozen? ⟨w.heap.size, j, none⟩ = false := fun j => (hf2 w.heap.size j (by simp; omega)).trans (by simp [go_sem, hf1, hz1])
    clear hc1 hf1 hc2 hf2
    go_region_with (go_at_call 95; rw [HO.out, hlen.out]; refine (wo_any kk ll _ k1 k2 K3.out ht2 bb o2 _ hbz rs HL.out HQ.out Q3.out).mono ?_; rintro e w3 ⟨rfl, hb3⟩; have hz5 : w1.heap.size < w3.heap.size := (by have := hb3.size; simp at this; omega); have ci3 : ∀ j, w3.cell? ⟨w1.heap.size, j, none⟩ = (#[.int .i64 kk, .int .i64 0, .int .i64 0, .int .i64 0, .int .i64 0, .bool ll] : Array Value)[j]? := (fun j => (hb3.cell (p := ⟨w1.heap.size, j, none⟩) (by exact hz2)).trans (ci2 j)); have fi3 : ∀ j, w3.frozen? ⟨w1.heap.size, j, none⟩ = false := (fun j => (hb3.frozen (p := ⟨w1.heap.size, j, none⟩) (by exact hz2)).trans (fi2 j)); have cr3 : ∀ j, w3.cell? ⟨w.heap.size, j, none⟩ = (#[.int .i64 0, .int .i64 0, .int .i64 0, .int .i64 0, .int .i64 0, .bool false] : Array Value)[j]? := (fun j => (hb3.cell (p := ⟨w.heap.size, j, none⟩) (by exact hz3)).trans (cr2 j)); have fr3 : ∀ j, w3.frozen? ⟨w.heap.size, j, none⟩ = false := (fun j => (hb3.frozen (p := ⟨w.heap.size, j, none⟩) (by exact hz3)).trans (fr2 j)))
    have B3 : Below w.heap.size w w3 := B2.drew.trans (hb3.mono (by exact Nat.le_of_lt hz3))
    have hz6 : w.heap.size < w3.heap.size := by omega
    clear hb3 e1 e2 e3 e4 f1 f2 f3 ci2 fi2 cr2 fr2 hbz ht2 HQ HO HL hlen Q3 hm
    go_wp2_with fail
    refine (check_any (opsD kk ll rs).k (opsD kk ll rs).d (opsD kk ll rs).a (opsD kk ll rs).b (opsD kk ll rs).n (opsD kk ll rs).l _ (ht.below ht.sz (by go_grown))).mono ?_
    rintro e w4 ⟨rfl, hb4⟩
    obtain ⟨hc4, hf4⟩ := bcell hb4
    have hz7 : w3.heap.size ≤ w4.heap.size := (by have := hb4.size; simp at this; omega)
    have hz8 : w.heap.size < w4.heap.size := by omega
    have hz9 : w1.heap.size < w4.heap.size := by omega
    have hd : w.heap.size ≠ w1.heap.size := by omega
    have B4 : Below w.heap.size w w4 := (show Below w.heap.size w _ from by go_grown).trans (hb4.mono (by simp; omega))
    clear hb4
    by_cases hch : (opsD kk ll rs).chk = 0
    · have hY : Hid (X = (opsD kk ll rs, ((m : Int) + 1), 0)) := by show _ = _; rw [HX.out, if_neg K0.out, HS.out, if_neg (by omega), if_pos hch]; rfl
      have hcb : (chk (opsD kk ll rs).k (opsD kk ll rs).d (opsD kk ll rs).a (opsD kk ll rs).b (opsD kk ll rs).n (opsD kk ll rs).l == 0) = true := by show ((opsD kk ll rs).chk == 0) = true; simp [hch]
      clear HX hch
      go_wp2
      exact bodyPost_ret (v := .tuple #[.agg #[.int .i64 (opsD kk ll rs).k, .int .i64 (opsD kk ll rs).d, .int .i64 (opsD kk ll rs).a, .int .i64 (opsD kk ll rs).b, .int .i64 (opsD kk ll rs).n, .bool (opsD kk ll rs).l], .int .i64 ((m : Int) + 1), .int .i64 0]) (by simp [results, Tryd.results58, go_sem, hc4, hz6, cr3]) rfl ⟨by rw [hY.out], by go_grown⟩
    · have hY : Hid (X = (zeroI, 0, 4)) := by show _ = _; rw [HX.out, if_neg K0.out, HS.out, if_neg (by omega), if_neg hch]
      have hcb : (chk (opsD kk ll rs).k (opsD kk ll rs).d (opsD kk ll rs).a (opsD kk ll rs).b (opsD kk ll rs).n (opsD kk ll rs).l == 0) = false := by show ((opsD kk ll rs).chk == 0) = false; simp [hch]
      clear HX hch
      go_wp2
      exact bodyPost_ret (v := .tuple #[.agg #[.int .i64 0, .int .i64 0, .int .i64 0, .int .i64 0, .int .i64 0, .bool false], .int .i64 0, .int .i64 4]) (by simp [results, Tryd.results58, go_sem, hc4, hz6, cr3]) rfl ⟨by rw [hY.out]; rfl, by go_grown⟩
end Go.Proofs.YtechpdfcgimkkaaDoor
