/-
  isa.kindOf: the kind that a first byte says.
-/
import Derived.Test.YtechpdfcgimkkaaDoorMAC
import Derived.Outline
import Derived.Test.YtechpdfcgimkkaaDoorMLC
import Derived.Test.YtechpdfcgimkkaaDoorMMC
import Derived.Test.YtechpdfcgimkkaaDoorMJC
import Derived.Deep.DeepCutAuto
namespace Go.Proofs.YtechpdfcgimkkaaDoor
open Go.RowKit Go.Joins Isa
/-- The search, from a kind on. -/
def seek (x : Int) (k : Int) : Nat → Int × Bool
  | 0 => (0, false)
  | f + 1 => if opF k = x then (k, false) else if 0 < opL k ∧ opL k = x then (k, true) else seek x (k + 1) f
def kindB (x : Int) : Int × Bool := seek x 1 24
theorem seek_0 (x k : Int) (f : Nat) (h : opF k = x) : seek x k (f + 1) = (k, false) := by simp [seek, h]
theorem seek_1 (x k : Int) (f : Nat) (h : ¬ opF k = x) (h0 : 0 < opL k) (h1 : opL k = x) : seek x k (f + 1) = (k, true) := by
  unfold seek; rw [if_neg h, if_pos ⟨h0, h1⟩]
theorem seek_2 (x k : Int) (f : Nat) (h : ¬ opF k = x) (h0 : ¬ (0 < opL k ∧ opL k = x)) : seek x k (f + 1) = seek x (k + 1) f := by
  rw [seek, if_neg h, if_neg h0]
set_option maxHeartbeats 1000000 in
theorem kind_any (x : Int) (w : World) (ht : Tabs w) : Calls Tryd.prog 93 #[.int .u8 x] w fun e w' => e = .returned (.tuple #[.int .i64 (kindB x).1, .bool (kindB x).2]) ∧ Below w.heap.size w w' := by
  go_enter Tryd.func93, Tryd.ntmps93
  go_wp2
  go_loopw [4] (fun t wr => ∃ m : Nat, 1 ≤ m ∧ m ≤ 25 ∧ t = .int .i64 m ∧ kindB x = seek x m (25 - m) ∧ Below w.heap.size w wr) (fun t _ => (25 - intOf t).toNat)
  case atStart => exact ⟨1, by omega, by omega, rfl, rfl, Below.refl _ _⟩
  case round =>
    obtain ⟨m, m1, m2, rfl, hs, bel⟩ := hrel
    have htr : Tabs wr := ht.below ht.sz bel
    have z1 := htr.sz
    have z0 : 0 < wr.heap.size := by omega
    have zw : w.heap.size ≤ wr.heap.size := bel.size
    by_cases hm : m ≤ 24
    · obtain ⟨c1, c2, c3⟩ := htr.op m (by omega) (by omega)
      rw [Int.toNat_natCast] at c1 c2 c3
      obtain ⟨f, hf⟩ : ∃ f, 25 - m = f + 1 := ⟨24 - m, by omega⟩
      rw [hf] at hs
      by_cases e1 : opF m = x
      · have hk : Hid (kindB x = ((m : Int), false)) := by show _ = _; rw [hs]; exact seek_0 _ _ _ e1
        have e1b : (opF m == x) = true := by simp [e1]
        clear hs e1 hf
        go_wp2
        go_ret2
        exact ⟨by rw [hk.out]; rfl, bel.alloc zw _⟩
      · have e1b : (opF m == x) = false := by simp [e1]
        by_cases e2 : 0 < opL m
        · by_cases e3 : opL m = x
          · have hk : Hid (kindB x = ((m : Int), true)) := by show _ = _; rw [hs]; exact seek_1 _ _ _ e1 e2 e3
            have e3b : (opL m == x) = true := by simp [e3]
            clear hs e1 e3 hf
            go_wp2
            go_ret2
            exact ⟨by rw [hk.out]; rfl, bel.alloc zw _⟩
          · have hk : Hid (kindB x = seek x ((m + 1 : Nat) : Int) (25 - (m + 1))) := by
              show _ = _
              rw [hs, seek_2 _ _ _ e1 (by omega), show 25 - (m + 1) = f by omega]; rfl
            have e3b : (opL m == x) = false := by simp [e3]
            clear hs e1 e3 hf
            go_wp2
            go_roundw
            case rel => exact ⟨m + 1, by omega, by omega, by go_num, hk.out, bel.alloc zw _⟩
            case measure => simp [intOf]; omega
        · have hk : Hid (kindB x = seek x ((m + 1 : Nat) : Int) (25 - (m + 1))) := by
            show _ = _
            rw [hs, seek_2 _ _ _ e1 (by omega), show 25 - (m + 1) = f by omega]; rfl
          clear hs e1 hf
          go_wp2
          go_roundw
          case rel => exact ⟨m + 1, by omega, by omega, by go_num, hk.out, bel.alloc zw _⟩
          case measure => simp [intOf]; omega
    · have hk : Hid (kindB x = (0, false)) := by
        show _ = _
        rw [hs, show 25 - m = 0 by omega]; rfl
      clear hs
      go_wp2
      go_ret2
      exact ⟨by rw [hk.out]; rfl, bel⟩
end Go.Proofs.YtechpdfcgimkkaaDoor
/-
  isa.withOperands, whole: it answers 'opsD'; what kindOf finds.
-/
namespace Go.Proofs.YtechpdfcgimkkaaDoor
open Go.RowKit Go.Joins Isa
theorem seek_is (x : Int) : ∀ (f : Nat) (k : Int), seek x k f = (0, false) ∨ ∃ j : Int, k ≤ j ∧ j < k + f ∧ ((seek x k f = (j, false) ∧ opF j = x) ∨ (seek x k f = (j, true) ∧ 0 < opL j ∧ opL j = x))
  | 0, k => Or.inl rfl
  | f + 1, k => by
    by_cases h : opF k = x
    · exact Or.inr ⟨k, by omega, by omega, Or.inl ⟨seek_0 x k f h, h⟩⟩
    by_cases h2 : 0 < opL k ∧ opL k = x
    · exact Or.inr ⟨k, by omega, by omega, Or.inr ⟨seek_1 x k f h h2.1 h2.2, h2.1, h2.2⟩⟩
    · rw [seek_2 x k f h h2]
      rcases seek_is x f (k + 1) with q | ⟨j, j1, j2, q⟩
      · exact Or.inl q
      · exact Or.inr ⟨j, by omega, by omega, q⟩
theorem kindB_is (x : Int) : (kindB x).1 = 0 ∨ (1 ≤ (kindB x).1 ∧ (kindB x).1 ≤ 24 ∧ ((kindB x).2 = true → rL (kindB x).1 = true) ∧ (if (kindB x).2 then opL (kindB x).1 else opF (kindB x).1) = x) := by
  rcases seek_is x 24 1 with q | ⟨j, j1, j2, ⟨q, r⟩ | ⟨q, r1, r2⟩⟩
  · exact Or.inl (by rw [kindB, q])
  · right; rw [kindB, q]; exact ⟨j1, by show j ≤ 24; omega, by simp, by simpa using r⟩
  · right; rw [kindB, q]; exact ⟨j1, by show j ≤ 24; omega, fun _ => by simp [rL, r1], by simpa using r2⟩
/-- What the bytes behind the first one say. -/
def opsD (k : Int) (l : Bool) (rs : List Int) : Ins :=
  let p := rs.getD 0 0
  let q := rs.getD 1 0
  let d := if kU k = 0 then (if kL k = 0 then 0 else setD (kL k) p 0) else setD (kL k) (p % 16) (setD (kU k) (p / 16) 0)
  let a := if kU k = 0 then (if kL k = 0 then 0 else setA (kL k) p 0) else setA (kL k) (p % 16) (setA (kU k) (p / 16) 0)
  let b := if kU k = 0 then (if kL k = 0 then 0 else setB (kL k) p 0) else setB (kL k) (p % 16) (setB (kU k) (p / 16) 0)
  let i := (if kL k = 0 then 0 else 1) + (if kT k = 0 then 0 else 1)
  let n := if wid k l = 0 then sgn 0 0 else if wid k l = 1 then sgn (rs.getD i 0) 1 else sgn (rs.getD i 0 + rs.getD (i + 1) 0 * 256) 2
  ⟨k, if kT k = 0 then d else setD (kT k) q d, if kT k = 0 then a else setA (kT k) q a, if kT k = 0 then b else setB (kT k) q b, n, l⟩
theorem ways (k : Int) (l : Bool) (h1 : 1 ≤ k) (h2 : k ≤ 24) (hl : l = true → rL k = true) :
    (¬ kU k = 0 ∧ ¬ kL k = 0 ∧ kT k = 0 ∧ wid k l = 1) ∨ (¬ kU k = 0 ∧ ¬ kL k = 0 ∧ kT k = 0 ∧ wid k l = 2) ∨ (¬ kU k = 0 ∧ ¬ kL k = 0 ∧ ¬ kT k = 0 ∧ wid k l = 0) ∨
    (kU k = 0 ∧ ¬ kL k = 0 ∧ kT k = 0 ∧ wid k l = 0) ∨ (kU k = 0 ∧ ¬ kL k = 0 ∧ kT k = 0 ∧ wid k l = 1) ∨ (kU k = 0 ∧ ¬ kL k = 0 ∧ kT k = 0 ∧ wid k l = 2) ∨
    (kU k = 0 ∧ kL k = 0 ∧ kT k = 0 ∧ wid k l = 0) ∨ (kU k = 0 ∧ kL k = 0 ∧ kT k = 0 ∧ wid k l = 1) ∨ (kU k = 0 ∧ kL k = 0 ∧ kT k = 0 ∧ wid k l = 2) := by
  cases l
  · rcases kinds h1 h2 with rfl | rfl | rfl | rfl | rfl | rfl | rfl | rfl | rfl | rfl | rfl | rfl | rfl | rfl | rfl | rfl | rfl | rfl | rfl | rfl | rfl | rfl | rfl | rfl <;> decide
  · have hk : k = 18 ∨ k = 19 ∨ k = 20 ∨ k = 21 ∨ k = 22 := by
      have := hl rfl
      rcases kinds h1 h2 with rfl | rfl | rfl | rfl | rfl | rfl | rfl | rfl | rfl | rfl | rfl | rfl | rfl | rfl | rfl | rfl | rfl | rfl | rfl | rfl | rfl | rfl | rfl | rfl
      all_goals first | omega | (exact absurd this (by decide))
    rcases hk with rfl | rfl | rfl | rfl | rfl <;> decide
theorem three {rs : List Int} (h : rs.length = 3) : ∃ p q r, rs = [p, q, r] := by
  match rs, h with
  | [p, q, r], _ => exact ⟨p, q, r, rfl⟩
theorem two {rs : List Int} (h : rs.length = 2) : ∃ p q, rs = [p, q] := by
  match rs, h with
  | [p, q], _ => exact ⟨p, q, rfl⟩
theorem one {rs : List Int} (h : rs.length = 1) : ∃ p, rs = [p] := by
  match rs, h with
  | [p], _ => exact ⟨p, rfl⟩
theorem bf {x : Int} (h : ¬ x = 0) : (x == 0) = false := by simp [h]
theorem bt {x : Int} (h : x = 0) : (x == 0) = true := by simp [h]
theorem wo_any (k : Int) (l : Bool) (w : World) (h1 : 1 ≤ k) (h2 : k ≤ 24) (hl : l = true → rL k = true) (ht : Tabs w) (bb oo cap : Nat) (hb : bb < w.heap.size) (rs : List Int) (hn : (rs.length : Int) = siz k l - 1)
    (hc : ∀ j x, rs[j]? = some x → w.cell? ⟨bb, oo + j, none⟩ = some (.int .u8 x)) (hx : ∀ x ∈ rs, 0 ≤ x ∧ x ≤ 255) :
    Calls Tryd.prog 95 #[.agg #[.int .i64 k, .int .i64 0, .int .i64 0, .int .i64 0, .int .i64 0, .bool l], .slice (some ⟨bb, oo, none⟩) rs.length cap] w fun e w' =>
      e = .returned (.agg #[.int .i64 (opsD k l rs).k, .int .i64 (opsD k l rs).d, .int .i64 (opsD k l rs).a, .int .i64 (opsD k l rs).b, .int .i64 (opsD k l rs).n, .bool (opsD k l rs).l]) ∧ Below w.heap.size w w' := by
  have hsz : siz k l = 1 + wid k l + (if kL k = 0 then 0 else 1) + (if kT k = 0 then 0 else 1) := rfl
  rcases ways k l h1 h2 hl with ⟨u, v, t, q⟩ | ⟨u, v, t, q⟩ | ⟨u, v, t, q⟩ | ⟨u, v, t, q⟩ | ⟨u, v, t, q⟩ | ⟨u, v, t, q⟩ | ⟨u, v, t, q⟩ | ⟨u, v, t, q⟩ | ⟨u, v, t, q⟩
  all_goals rw [q] at hsz
  all_goals simp only [v, t, if_true, if_false] at hsz
  · obtain ⟨p, r, rfl⟩ := two (rs := rs) (by omega)
    have e0 := hx p (by simp); have e1 := hx r (by simp)
    have := wo_U1 k l w h1 h2 ht bb oo cap hb p r (hc 0 p rfl) e0.1 e0.2 (hc 1 r rfl) e1.1 e1.2 (bf u) (bt t) q
    simpa [opsD, u, v, t, q] using this
  · obtain ⟨p, r, s, rfl⟩ := three (rs := rs) (by omega)
    have e0 := hx p (by simp); have e1 := hx r (by simp); have e2 := hx s (by simp)
    have := wo_U2 k l w h1 h2 ht bb oo cap hb p r s (hc 0 p rfl) e0.1 e0.2 (hc 1 r rfl) e1.1 e1.2 (hc 2 s rfl) e2.1 e2.2 (bf u) (bt t) q
    simpa [opsD, u, v, t, q] using this
  · obtain ⟨p, r, rfl⟩ := two (rs := rs) (by omega)
    have e0 := hx p (by simp); have e1 := hx r (by simp)
    have := wo_T0 k l w h1 h2 ht bb oo cap hb p r (hc 0 p rfl) e0.1 e0.2 (hc 1 r rfl) e1.1 e1.2 (bf u) (bf t) q
    simpa [opsD, u, v, t, q] using this
  · obtain ⟨p, rfl⟩ := one (rs := rs) (by omega)
    have e0 := hx p (by simp)
    have := wo_L0 k l w h1 h2 ht bb oo cap hb p (hc 0 p rfl) e0.1 e0.2 (bt u) (bf v) (bt t) q
    simpa [opsD, u, v, t, q] using this
  · obtain ⟨p, r, rfl⟩ := two (rs := rs) (by omega)
    have e0 := hx p (by simp); have e1 := hx r (by simp)
    have := wo_L1 k l w h1 h2 ht bb oo cap hb p r (hc 0 p rfl) e0.1 e0.2 (hc 1 r rfl) e1.1 e1.2 (bt u) (bf v) (bt t) q
    simpa [opsD, u, v, t, q] using this
  · obtain ⟨p, r, s, rfl⟩ := three (rs := rs) (by omega)
    have e0 := hx p (by simp); have e1 := hx r (by simp); have e2 := hx s (by simp)
    have := wo_L2 k l w h1 h2 ht bb oo cap hb p r s (hc 0 p rfl) e0.1 e0.2 (hc 1 r rfl) e1.1 e1.2 (hc 2 s rfl) e2.1 e2.2 (bt u) (bf v) (bt t) q
    simpa [opsD, u, v, t, q] using this
  · obtain rfl : rs = [] := List.length_eq_zero_iff.1 (by omega)
    have := wo_N0 k l w h1 h2 ht bb oo cap hb (bt u) (bt v) (bt t) q
    simpa [opsD, u, v, t, q] using this
  · obtain ⟨p, rfl⟩ := one (rs := rs) (by omega)
    have e0 := hx p (by simp)
    have := wo_N1 k l w h1 h2 ht bb oo cap hb p (hc 0 p rfl) e0.1 e0.2 (bt u) (bt v) (bt t) q
    simpa [opsD, u, v, t, q] using this
  · obtain ⟨p, r, rfl⟩ := two (rs := rs) (by omega)
    have e0 := hx p (by simp); have e1 := hx r (by simp)
    have := wo_N2 k l w h1 h2 ht bb oo cap hb p r (hc 0 p rfl) e0.1 e0.2 (hc 1 r rfl) e1.1 e1.2 (bt u) (bt v) (bt t) q
    simpa [opsD, u, v, t, q] using this
end Go.Proofs.YtechpdfcgimkkaaDoor
/-
  isa.Decode.
-/
namespace Go.Proofs.YtechpdfcgimkkaaDoor
open Go.RowKit Go.Joins Isa
/-- A slice value whose bytes, in a world, are these. -/
def TextAt (w : World) (v : Value) (ns : List Int) : Prop :=
  (∀ x ∈ ns, 0 ≤ x ∧ x ≤ 255) ∧ ((∃ a cap, v = .slice a 0 cap ∧ ns = []) ∨ ∃ bb oo cap, v = .slice (some ⟨bb, oo, none⟩) ns.length cap ∧ ns.length ≤ cap ∧ cap ≤ maxLen ∧ bb < w.heap.size ∧ ∀ j x, ns[j]? = some x → w.cell? ⟨bb, oo + j, none⟩ = some (.int .u8 x))
def zeroI : Ins := ⟨0, 0, 0, 0, 0, false⟩
/-- P1.3. -/
def decOut (ns : List Int) (p : Int) : Ins × Int × Int :=
  if p < 0 ∨ ns.length ≤ p then (zeroI, 0, 2)
  else
    let kb := kindB (ns.getD p.toNat 0)
    if kb.1 = 0 then (zeroI, 0, 3)
    else if ns.length - p < siz kb.1 kb.2 then (zeroI, 0, 5)
    else
      let i := opsD kb.1 kb.2 ((ns.drop (p.toNat + 1)).take (siz kb.1 kb.2 - 1).toNat)
      if i.chk = 0 then (i, siz kb.1 kb.2, 0) else (zeroI, 0, 4)
set_option maxHeartbeats 1000000 in
theorem dec_out (a : Option Addr) (len cap : Nat) (p : Int) (w : World) (h : p < 0 ∨ (len : Int) ≤ p) (_hl : len ≤ maxLen) :
    Calls Tryd.prog 58 #[.slice a len cap, .int .i64 p] w fun e w' => e = .returned (.tuple #[.agg #[.int .i64 0, .int .i64 0, .int .i64 0, .int .i64 0, .int .i64 0, .bool false], .int .i64 0, .int .i64 2]) ∧ Below w.heap.size w w' := by
  by_cases h0 : p < 0
  · clear h
    go_enter Tryd.func58, Tryd.ntmps58
    go_wp2
    exact bodyPost_ret (v := .tuple #[.agg #[.int .i64 0, .int .i64 0, .int .i64 0, .int .i64 0, .int .i64 0, .bool false], .int .i64 0, .int .i64 2]) (by simp [results, Tryd.results58, go_sem]) rfl ⟨rfl, by go_grown⟩
  · have h1 : (len : Int) ≤ p := by omega
    clear h
    go_enter Tryd.func58, Tryd.ntmps58
    go_wp2
    exact bodyPost_ret (v := .tuple #[.agg #[.int .i64 0, .int .i64 0, .int .i64 0, .int .i64 0, .int .i64 0, .bool false], .int .i64 0, .int .i64 2]) (by simp [results, Tryd.results58, go_sem]) rfl ⟨rfl, by go_grown⟩
set_option maxHeartbeats 1000000 in
theorem dec_in (bb oo cap len t : Nat) (x kk : Int) (ll : Bool) (rs : List Int) (X : Ins × Int × Int) (w : World) (ht : Tabs w) (hb : bb < w.heap.size) (_hl : len ≤ cap) (_hm : cap ≤ maxLen) (htl : t < len) (hx : w.cell? ⟨bb, oo + t, none⟩ = some (.int .u8 x))
    (hk : kindB x = (kk, ll)) (hkk : kk = 0 ∨ (1 ≤ kk ∧ kk ≤ 24 ∧ (ll = true → rL kk = true)))
    (hX : X = if kk = 0 then (zeroI, 0, 3) else if (len : Int) - t < siz kk ll then (zeroI, 0, 5) else if (opsD kk ll rs).chk = 0 then (opsD kk ll rs, siz kk ll, 0) else (zeroI, 0, 4))
    (hrs : kk ≠ 0 → siz kk ll ≤ (len : Int) - t → (rs.length : Int) = siz kk ll - 1 ∧ (∀ j y, rs[j]? = some y → w.cell? ⟨bb, oo + (t + 1) + j, none⟩ = some (.int .u8 y)) ∧ ∀ y ∈ rs, 0 ≤ y ∧ y ≤ 255) :
    Calls Tryd.prog 58 #[.slice (some ⟨bb, oo, none⟩) len cap, .int .i64 t] w fun e w' => e = .returned (.tuple #[.agg #[.int .i64 X.1.k, .int .i64 X.1.d, .int .i64 X.1.a, .int .i64 X.1.b, .int .i64 X.1.n, .bool X.1.l], .int .i64 X.2.1, .int .i64 X.2.2]) ∧ Below w.heap.size w w' := by
  unfold maxLen at _hm
  have ht1 : ∀ o, Tabs (w.alloc o) := fun o => ht.below ht.sz ((Below.refl _ _).alloc (Nat.le_refl _) o)
  have H1 : Hid (∀ o, Tabs (w.alloc o)) := ht1
  have HK : Hid (kindB x = (kk, ll)) := hk
  have HX : Hid (X = if kk = 0 then (zeroI, 0, 3) else if (len : Int) - t < siz kk ll then (zeroI, 0, 5) else if (opsD kk ll rs).chk = 0 then (opsD kk ll rs, siz kk ll, 0) else (zeroI, 0, 4)) := hX
  have HR : Hid (kk ≠ 0 → siz kk ll ≤ (len : Int) - t → (rs.length : Int) = siz kk ll - 1 ∧ (∀ j y, rs[j]? = some y → w.cell? ⟨bb, oo + (t + 1) + j, none⟩ = some (.int .u8 y)) ∧ ∀ y ∈ rs, 0 ≤ y ∧ y ≤ 255) := hrs
  clear ht1 hk hX hrs
  have hb2 : bb < w.heap.size + 1 := by omega
  go_enter Tryd.func58, Tryd.ntmps58
  go_wp2_with fail
  refine (kind_any x _ (H1.out _)).mono ?_
  rw [HK.out]
  rintro e w1 ⟨rfl, hb1⟩
  obtain ⟨hc1, hf1⟩ := bcell hb1
  have hz1 : w.heap.size < w1.heap.size := (by have := hb1.size; simp at this; omega)
  have B1 : Below w.heap.size w w1 := (Below.alloc (Below.refl _ _) (Nat.le_refl _) _).trans (hb1.mono (by simp))
  clear hb1
  by_cases hk0 : kk = 0
  · have hY : Hid (X = (zeroI, 0, 3)) := by show _ = _; rw [HX.out, if_pos hk0]
    clear HX HR
    subst hk0
    go_wp2
    exact bodyPost_ret (v := .tuple #[.agg #[.int .i64 0, .int .i64 0, .int .i64 0, .int .i64 0, .int .i64 0, .bool false], .int .i64 0, .int .i64 3]) (by simp [results, Tryd.results58, go_sem, hc1]) rfl ⟨by rw [hY.out]; rfl, by go_grown⟩
  have hk0b : (kk == 0) = false := by simp [hk0]
  obtain ⟨k1, k2, k3⟩ := hkk.resolve_left hk0
  have K3 : Hid (ll = true → rL kk = true) := k3
  clear k3 hkk
  have K0 : Hid (¬ kk = 0) := hk0
  clear hk0
  go_wp2_with fail
  obtain ⟨s1, s2⟩ := (show 1 ≤ siz kk ll ∧ siz kk ll ≤ 5 from by have := wid_bd kk ll k1 k2; unfold siz; constructor <;> split <;> split <;> omega)
  obtain ⟨sz, hsz⟩ := Int.eq_ofNat_of_zero_le (show 0 ≤ siz kk ll by omega)
  have HS : Hid (siz kk ll = (sz : Int)) := hsz
  have s3 : 1 ≤ sz := by omega
  have s4 : sz ≤ 5 := by omega
  clear hsz s1 s2
  refine (size_any kk 0 0 0 0 ll _ k1 k2 (ht.below ht.sz (B1.alloc (by omega) _))).mono ?_
  rw [HS.out]
  rintro e w2 ⟨rfl, hb2'⟩
  obtain ⟨hc2, hf2⟩ := bcell hb2'
  have hz2 : w1.heap.size < w2.heap.size := (by have := hb2'.size; simp at this; omega)
  have B2 : Below w.heap.size w w2 := (B1.alloc (by omega) _).trans (hb2'.mono (by simp; omega))
  have hz3 : w.heap.size < w2.heap.size := by omega
  have hz4 : w.heap.size < w1.heap.size + 1 := by omega
  clear hb2'
  by_cases hsh : (len : Int) - t < sz
  · have hY : Hid (X = (zeroI, 0, 5)) := by show _ = _; rw [HX.out, if_neg K0.out, HS.out, if_pos hsh]
    clear HX HR
    go_wp2
    exact bodyPost_ret (v := .tuple #[.agg #[.int .i64 0, .int .i64 0, .int .i64 0, .int .i64 0, .int .i64 0, .bool false], .int .i64 0, .int .i64 5]) (by simp [results, Tryd.results58, go_sem, hc1, hc2, hz4, hz1]) rfl ⟨by rw [hY.out]; rfl, by go_grown⟩
  · obtain ⟨q1, q2, q3⟩ := HR.out K0.out (by rw [HS.out]; omega)
    rw [HS.out] at q1
    clear HR
    have Q2 : Hid (∀ j y, rs[j]? = some y → w.cell? ⟨bb, oo + (t + 1) + j, none⟩ = some (.int .u8 y)) := q2
    have Q3 : Hid (∀ y ∈ rs, 0 ≤ y ∧ y ≤ 255) := q3
    clear q2 q3
    obtain ⟨m, rfl⟩ : ∃ m, sz = m + 1 := ⟨sz - 1, by omega⟩
    have hm : rs.length = m := by omega
    clear q1
    go_wp2_with fail
    have e1 : IntKind.i64.wrap ((t : Int) + 1) = (t : Int) + 1 := by rw [IntKind.wrap_i64]; omega
    have e2 : IntKind.i64.wrap ((t : Int) + ((m : Int) + 1)) = (t : Int) + ((m : Int) + 1) := by rw [IntKind.wrap_i64]; omega
    have e3 : ((t : Int) + 1).toNat = t + 1 := by omega
    have e4 : ((t : Int) + ((m : Int) + 1)).toNat = t + (m + 1) := by omega
    have f1 : (0 : Int) ≤ (t : Int) + 1 := by omega
    have f2 : (t : Int) + 1 ≤ (t : Int) + ((m : Int) + 1) := by omega
    have f3 : (t : Int) + ((m : Int) + 1) ≤ (cap : Int) := by omega
    have hlen : Hid (t + (m + 1) - (t + 1) = rs.length) := by show _ = _; omega
    obtain ⟨o2, ho2, hq⟩ : ∃ o2, (if cap = t + 1 then some (⟨bb, oo, none⟩ : Addr) else some ⟨bb, oo + (t + 1), none⟩) = some ⟨bb, o2, none⟩ ∧ ∀ j y, rs[j]? = some y → w2.drew.cell? ⟨bb, o2 + j, none⟩ = some (.int .u8 y) := by
      by_cases hcap : cap = t + 1
      · refine ⟨oo, by rw [if_pos hcap], fun j y hy => ?_⟩
        obtain rfl : rs = [] := List.length_eq_zero_iff.1 (by omega)
        simp at hy
      · refine ⟨oo + (t + 1), by rw [if_neg hcap], fun j y hy => ?_⟩
        exact (B2.drew.cell (p := ⟨bb, _, none⟩) hb).trans (Q2.out j y hy)
    have HO : Hid ((if cap = t + 1 then some (⟨bb, oo, none⟩ : Addr) else some ⟨bb, oo + (t + 1), none⟩) = some ⟨bb, o2, none⟩) := ho2
    have HQ : Hid (∀ j y, rs[j]? = some y → w2.drew.cell? ⟨bb, o2 + j, none⟩ = some (.int .u8 y)) := hq
    have ht2 : Tabs w2.drew := ht.below ht.sz B2.drew
    have hbz : bb < w2.drew.heap.size := Nat.lt_trans hb hz3
    have hln : (rs.length : Int) = siz kk ll - 1 := by rw [HS.out]; omega
    have HL : Hid ((rs.length : Int) = siz kk ll - 1) := hln
    clear ho2 hq hln Q2
    have ci2 : ∀ j, w2.cell? ⟨w1.heap.size, j, none⟩ = (#[.int .i64 kk, .int .i64 0, .int .i64 0, .int .i64 0, .int .i64 0, .bool ll] : Array Value)[j]? := fun j => (hc2 w1.heap.size j (by simp)).trans (World.cell?_alloc_new _ _ _ j)
    have fi2 : ∀ j, w2.frozen? ⟨w1.heap.size, j, none⟩ = false := fun j => (hf2 w1.heap.size j (by simp)).trans (by simp [go_sem])
    have cr2 : ∀ j, w2.cell? ⟨w.heap.size, j, none⟩ = (#[.int .i64 0, .int .i64 0, .int .i64 0, .int .i64 0, .int .i64 0, .bool false] : Array Value)[j]? := fun j => (hc2 w.heap.size j (by simp; omega)).trans ((World.cell?_alloc_past _ _ _ hz1).trans ((hc1 w.heap.size j (by simp)).trans (World.cell?_alloc_new _ _ _ j)))
    have fr2 : ∀ j, w2.frozen? ⟨w.heap.size, j, none⟩ = false := fun j => (hf2 w.heap.size j (by simp; omega)).trans (by simp [go_sem, hf1, hz1])
    clear hc1 hf1 hc2 hf2
    go_region_with (go_at_call 95; rw [HO.out, hlen.out]; refine (wo_any kk ll _ k1 k2 K3.out ht2 bb o2 _ hbz rs HL.out HQ.out Q3.out).mono ?_; rintro e w3 ⟨rfl, hb3⟩; have hz5 : w1.heap.size < w3.heap.size := (by have := hb3.size; simp at this; omega); have ci3 : ∀ j, w3.cell? ⟨w1.heap.size, j, none⟩ = (#[.int .i64 kk, .int .i64 0, .int .i64 0, .int .i64 0, .int .i64 0, .bool ll] : Array Value)[j]? := (fun j => (hb3.cell (p := ⟨w1.heap.size, j, none⟩) (by exact hz2)).trans (ci2 j)); have fi3 : ∀ j, w3.frozen? ⟨w1.heap.size, j, none⟩ = false := (fun j => (hb3.frozen (p := ⟨w1.heap.size, j, none⟩) (by exact hz2)).trans (fi2 j)); have cr3 : ∀ j, w3.cell? ⟨w.heap.size, j, none⟩ = (#[.int .i64 0, .int .i64 0, .int .i64 0, .int .i64 0, .int .i64 0, .bool false] : Array Value)[j]? := (fun j => (hb3.cell (p := ⟨w.heap.size, j, none⟩) (by exact hz3)).trans (cr2 j)); have fr3 : ∀ j, w3.frozen? ⟨w.heap.size, j, none⟩ = false := (fun j => (hb3.frozen (p := ⟨w.heap.size, j, none⟩) (by exact hz3)).trans (fr2 j)))
    have B3 : Below w.heap.size w w3 := B2.drew.trans (hb3.mono (by exact Nat.le_of_lt hz3))
    have hz6 : w.heap.size < w3.heap.size := by omega
    clear hb3 e1 e2 e3 e4 f1 f2 f3 ci2 fi2 cr2 fr2 hbz ht2 HQ HO HL hlen Q3 hm
    go_wp2_with fail
    refine (check_any (opsD kk ll rs).k (opsD kk ll rs).d (opsD kk ll rs).a (opsD kk ll rs).b (opsD kk ll rs).n (opsD kk ll rs).l _ (ht.below ht.sz (by go_grown))).mono ?_
    rintro e w4 ⟨rfl, hb4⟩
    obtain ⟨hc4, hf4⟩ := bcell hb4
    have hz7 : w3.heap.size ≤ w4.heap.size := (by have := hb4.size; simp at this; omega)
    have hz8 : w.heap.size < w4.heap.size := by omega
    have hz9 : w1.heap.size < w4.heap.size := by omega
    have hd : w.heap.size ≠ w1.heap.size := by omega
    have B4 : Below w.heap.size w w4 := (show Below w.heap.size w _ from by go_grown).trans (hb4.mono (by simp; omega))
    clear hb4
    by_cases hch : (opsD kk ll rs).chk = 0
    · have hY : Hid (X = (opsD kk ll rs, ((m : Int) + 1), 0)) := by show _ = _; rw [HX.out, if_neg K0.out, HS.out, if_neg (by omega), if_pos hch]; rfl
      have hcb : (chk (opsD kk ll rs).k (opsD kk ll rs).d (opsD kk ll rs).a (opsD kk ll rs).b (opsD kk ll rs).n (opsD kk ll rs).l == 0) = true := by show ((opsD kk ll rs).chk == 0) = true; simp [hch]
      clear HX hch
      go_wp2
      exact bodyPost_ret (v := .tuple #[.agg #[.int .i64 (opsD kk ll rs).k, .int .i64 (opsD kk ll rs).d, .int .i64 (opsD kk ll rs).a, .int .i64 (opsD kk ll rs).b, .int .i64 (opsD kk ll rs).n, .bool (opsD kk ll rs).l], .int .i64 ((m : Int) + 1), .int .i64 0]) (by simp [results, Tryd.results58, go_sem, hc4, hz6, cr3]) rfl ⟨by rw [hY.out], by go_grown⟩
    · have hY : Hid (X = (zeroI, 0, 4)) := by show _ = _; rw [HX.out, if_neg K0.out, HS.out, if_neg (by omega), if_neg hch]
      have hcb : (chk (opsD kk ll rs).k (opsD kk ll rs).d (opsD kk ll rs).a (opsD kk ll rs).b (opsD kk ll rs).n (opsD kk ll rs).l == 0) = false := by show ((opsD kk ll rs).chk == 0) = false; simp [hch]
      clear HX hch
      go_wp2
      exact bodyPost_ret (v := .tuple #[.agg #[.int .i64 0, .int .i64 0, .int .i64 0, .int .i64 0, .int .i64 0, .bool false], .int .i64 0, .int .i64 4]) (by simp [results, Tryd.results58, go_sem, hc4, hz6, cr3]) rfl ⟨by rw [hY.out]; rfl, by go_grown⟩
end Go.Proofs.YtechpdfcgimkkaaDoor
/-
  isa.Decode, whole: it answers 'decOut'.
-/
namespace Go.Proofs.YtechpdfcgimkkaaDoor
open Go.RowKit Go.Joins Isa
theorem getD_of {ns : List Int} {j : Nat} (h : j < ns.length) : ns[j]? = some (ns.getD j 0) := by
  rw [List.getD_eq_getElem?_getD, List.getElem?_eq_getElem h]; rfl
theorem decode_any (v : Value) (ns : List Int) (p : Int) (w : World) (ht : Tabs w) (hT : TextAt w v ns) :
    Calls Tryd.prog 58 #[v, .int .i64 p] w fun e w' => e = .returned (.tuple #[.agg #[.int .i64 (decOut ns p).1.k, .int .i64 (decOut ns p).1.d, .int .i64 (decOut ns p).1.a, .int .i64 (decOut ns p).1.b, .int .i64 (decOut ns p).1.n, .bool (decOut ns p).1.l], .int .i64 (decOut ns p).2.1, .int .i64 (decOut ns p).2.2]) ∧ Below w.heap.size w w' := by
  obtain ⟨hx, hv⟩ := hT
  by_cases hp : p < 0 ∨ (ns.length : Int) ≤ p
  · have hd : decOut ns p = (zeroI, 0, 2) := by unfold decOut; rw [if_pos hp]
    rw [hd]
    rcases hv with ⟨a, cap, rfl, rfl⟩ | ⟨bb, oo, cap, rfl, h1, h2, _⟩
    · exact dec_out a 0 cap p w (by simpa using hp) (by decide)
    · exact dec_out _ _ cap p w hp (by omega)
  · have hd : decOut ns p = if (kindB (ns.getD p.toNat 0)).1 = 0 then (zeroI, 0, 3) else if (ns.length : Int) - p < siz (kindB (ns.getD p.toNat 0)).1 (kindB (ns.getD p.toNat 0)).2 then (zeroI, 0, 5) else
        if (opsD (kindB (ns.getD p.toNat 0)).1 (kindB (ns.getD p.toNat 0)).2 ((ns.drop (p.toNat + 1)).take (siz (kindB (ns.getD p.toNat 0)).1 (kindB (ns.getD p.toNat 0)).2 - 1).toNat)).chk = 0 then (opsD (kindB (ns.getD p.toNat 0)).1 (kindB (ns.getD p.toNat 0)).2 ((ns.drop (p.toNat + 1)).take (siz (kindB (ns.getD p.toNat 0)).1 (kindB (ns.getD p.toNat 0)).2 - 1).toNat), siz (kindB (ns.getD p.toNat 0)).1 (kindB (ns.getD p.toNat 0)).2, 0) else (zeroI, 0, 4) := by
      unfold decOut; rw [if_neg hp]
    rcases hv with ⟨_, _, rfl, rfl⟩ | ⟨bb, oo, cap, rfl, h1, h2, h3, h4⟩
    · simp at hp; omega
    obtain ⟨t, rfl⟩ := Int.eq_ofNat_of_zero_le (show 0 ≤ p by omega)
    rw [Int.toNat_natCast] at hd
    have htl : t < ns.length := by omega
    have hk := kindB_is (ns.getD t 0)
    generalize hkb : kindB (ns.getD t 0) = kb at hd hk
    obtain ⟨kk, ll⟩ := kb
    refine dec_in bb oo cap ns.length t (ns.getD t 0) kk ll ((ns.drop (t + 1)).take (siz kk ll - 1).toNat) _ w ht h3 h1 h2 htl (h4 t _ (getD_of htl)) hkb ?_ hd ?_
    · rcases hk with q | ⟨q1, q2, q3, _⟩
      · exact Or.inl q
      · exact Or.inr ⟨q1, q2, q3⟩
    · intro k0 ks
      obtain ⟨q1, q2, _⟩ := hk.resolve_left k0
      have s1 : 1 ≤ siz kk ll := by have := wid_bd kk ll q1 q2; unfold siz; split <;> split <;> omega
      refine ⟨?_, ?_, ?_⟩
      · rw [List.length_take, List.length_drop]; omega
      · intro j y hy
        have hj : j < (siz kk ll - 1).toNat := by
          rcases Nat.lt_or_ge j (siz kk ll - 1).toNat with q | q
          · exact q
          · rw [List.getElem?_eq_none (by rw [List.length_take]; omega)] at hy; cases hy
        rw [List.getElem?_take_of_lt hj, List.getElem?_drop] at hy
        have := h4 (t + 1 + j) y hy
        rw [show oo + (t + 1) + j = oo + (t + 1 + j) by omega]
        exact this
      · intro y hy
        exact hx y (List.mem_of_mem_drop (List.mem_of_mem_take hy))
end Go.Proofs.YtechpdfcgimkkaaDoor
