/-
  isa.withOperands, whole: it answers 'opsD'; what kindOf finds.
-/
import Derived.Test.YtechpdfcgimkkaaDoorWoA
import Derived.Test.YtechpdfcgimkkaaDoorWoB
import Derived.Test.YtechpdfcgimkkaaDoorWoC
import Derived.Test.YtechpdfcgimkkaaDoorWoD
import Derived.Test.YtechpdfcgimkkaaDoorWoE
import Derived.Test.YtechpdfcgimkkaaDoorWoF
import Derived.Test.YtechpdfcgimkkaaDoorWalkK
import Derived.Test.YtechpdfcgimkkaaDoorPureAny
namespace Go.Proofs.YtechpdfcgimkkaaDoor
open Go.RowKit Go.Joins Isa
theorem seek_is (x : Int) : ∀ (f : Nat) (k : Int), seek x k f = (0, false) ∨ ∃ j : Int, k ≤ j ∧ j < k + f ∧ ((seek x k f = (j, false) ∧ opF j = x) ∨ (seek x k f = (j, true) ∧ 0 < opL j ∧ opL j = x))
  | 0, k => Or.inl rfl
  | f + 1, k => by
    by_cases h : opF k = x
    · exact Or.inr ⟨k, by omega, by omega, Or.inl ⟨seek_0 x k f h, h⟩⟩
    by_cases h2 : 0 < opL k ∧ opL k = x
    · exact Or.inr ⟨k, by omega, by omega, Or.inr ⟨seek_1 x k f h h2.1 h2.2, h2.1, h2.2⟩⟩
    · rw [seek_2 x k f h h2]
      rcases seek_is x f (k + 1) with q | ⟨j, j1, j2, q⟩
      · exact Or.inl q
      · exact Or.inr ⟨j, by omega, by omega, q⟩
theorem kindB_is (x : Int) : (kindB x).1 = 0 ∨ (1 ≤ (kindB x).1 ∧ (kindB x).1 ≤ 24 ∧ ((kindB x).2 = true → rL (kindB x).1 = true) ∧ (if (kindB x).2 then opL (kindB x).1 else opF (kindB x).1) = x) := by
  rcases seek_is x 24 1 with q | ⟨j, j1, j2, ⟨q, r⟩ | ⟨q, r1, r2⟩⟩
  · exact Or.inl (by rw [kindB, q])
  · right; rw [kindB, q]; exact ⟨j1, by show j ≤ 24; omega, by simp, by simpa using r⟩
  · right; rw [kindB, q]; exact ⟨j1, by show j ≤ 24; omega, fun _ => by simp [rL, r1], by simpa using r2⟩
/-- What the bytes behind the first one say. -/
def opsD (k : Int) (l : Bool) (rs : List Int) : Ins :=
  let p := rs.getD 0 0
  let q := rs.getD 1 0
  let d := if kU k = 0 then (if kL k = 0 then 0 else setD (kL k) p 0) else setD (kL k) (p % 16) (setD (kU k) (p / 16) 0)
  let a := if kU k = 0 then (if kL k = 0 then 0 else setA (kL k) p 0) else setA (kL k) (p % 16) (setA (kU k) (p / 16) 0)
  let b := if kU k = 0 then (if kL k = 0 then 0 else setB (kL k) p 0) else setB (kL k) (p % 16) (setB (kU k) (p / 16) 0)
  let i := (if kL k = 0 then 0 else 1) + (if kT k = 0 then 0 else 1)
  let n := if wid k l = 0 then sgn 0 0 else if wid k l = 1 then sgn (rs.getD i 0) 1 else sgn (rs.getD i 0 + rs.getD (i + 1) 0 * 256) 2
  ⟨k, if kT k = 0 then d else setD (kT k) q d, if kT k = 0 then a else setA (kT k) q a, if kT k = 0 then b else setB (kT k) q b, n, l⟩
theorem ways (k : Int) (l : Bool) (h1 : 1 ≤ k) (h2 : k ≤ 24) (hl : l = true → rL k = true) :
    (¬ kU k = 0 ∧ ¬ kL k = 0 ∧ kT k = 0 ∧ wid k l = 1) ∨ (¬ kU k = 0 ∧ ¬ kL k = 0 ∧ kT k = 0 ∧ wid k l = 2) ∨ (¬ kU k = 0 ∧ ¬ kL k = 0 ∧ ¬ kT k = 0 ∧ wid k l = 0) ∨
    (kU k = 0 ∧ ¬ kL k = 0 ∧ kT k = 0 ∧ wid k l = 0) ∨ (kU k = 0 ∧ ¬ kL k = 0 ∧ kT k = 0 ∧ wid k l = 1) ∨ (kU k = 0 ∧ ¬ kL k = 0 ∧ kT k = 0 ∧ wid k l = 2) ∨
    (kU k = 0 ∧ kL k = 0 ∧ kT k = 0 ∧ wid k l = 0) ∨ (kU k = 0 ∧ kL k = 0 ∧ kT k = 0 ∧ wid k l = 1) ∨ (kU k = 0 ∧ kL k = 0 ∧ kT k = 0 ∧ wid k l = 2) := by
  cases l
  · rcases kinds h1 h2 with rfl | rfl | rfl | rfl | rfl | rfl | rfl | rfl | rfl | rfl | rfl | rfl | rfl | rfl | rfl | rfl | rfl | rfl | rfl | rfl | rfl | rfl | rfl | rfl <;> decide
  · have hk : k = 18 ∨ k = 19 ∨ k = 20 ∨ k = 21 ∨ k = 22 := by
      have := hl rfl
      rcases kinds h1 h2 with rfl | rfl | rfl | rfl | rfl | rfl | rfl | rfl | rfl | rfl | rfl | rfl | rfl | rfl | rfl | rfl | rfl | rfl | rfl | rfl | rfl | rfl | rfl | rfl
      all_goals first | omega | (exact absurd this (by decide))
    rcases hk with rfl | rfl | rfl | rfl | rfl <;> decide
theorem three {rs : List Int} (h : rs.length = 3) : ∃ p q r, rs = [p, q, r] := by
  match rs, h with
  | [p, q, r], _ => exact ⟨p, q, r, rfl⟩
theorem two {rs : List Int} (h : rs.length = 2) : ∃ p q, rs = [p, q] := by
  match rs, h with
  | [p, q], _ => exact ⟨p, q, rfl⟩
theorem one {rs : List Int} (h : rs.length = 1) : ∃ p, rs = [p] := by
  match rs, h with
  | [p], _ => exact ⟨p, rfl⟩
theorem bf {x : Int} (h : ¬ x = 0) : (x == 0) = false := by simp [h]
theorem bt {x : Int} (h : x = 0) : (x == 0) = true := by simp [h]
theorem wo_any (k : Int) (l : Bool) (w : World) (h1 : 1 ≤ k) (h2 : k ≤ 24) (hl : l = true → rL k = true) (ht : Tabs w) (bb oo cap : Nat) (hb : bb < w.heap.size) (rs : List Int) (hn : (rs.length : Int) = siz k l - 1)
    (hc : ∀ j x, rs[j]? = some x → w.cell? ⟨bb, oo + j, none⟩ = some (.int .u8 x)) (hx : ∀ x ∈ rs, 0 ≤ x ∧ x ≤ 255) :
    Calls Tryd.prog 95 #[.agg #[.int .i64 k, .int .i64 0, .int .i64 0, .int .i64 0, .int .i64 0, .bool l], .slice (some ⟨bb, oo, none⟩) rs.length cap] w fun e w' =>
      e = .returned (.agg #[.int .i64 (opsD k l rs).k, .int .i64 (opsD k l rs).d, .int .i64 (opsD k l rs).a, .int .i64 (opsD k l rs).b, .int .i64 (opsD k l rs).n, .bool (opsD k l rs).l]) ∧ Below w.heap.size w w' := by
  have hsz : siz k l = 1 + wid k l + (if kL k = 0 then 0 else 1) + (if kT k = 0 then 0 else 1) := rfl
  rcases ways k l h1 h2 hl with ⟨u, v, t, q⟩ | ⟨u, v, t, q⟩ | ⟨u, v, t, q⟩ | ⟨u, v, t, q⟩ | ⟨u, v, t, q⟩ | ⟨u, v, t, q⟩ | ⟨u, v, t, q⟩ | ⟨u, v, t, q⟩ | ⟨u, v, t, q⟩
  all_goals rw [q] at hsz
  all_goals simp only [v, t, if_true, if_false] at hsz
  · obtain ⟨p, r, rfl⟩ := two (rs := rs) (by omega)
    have e0 := hx p (by simp); have e1 := hx r (by simp)
    have := wo_U1 k l w h1 h2 ht bb oo cap hb p r (hc 0 p rfl) e0.1 e0.2 (hc 1 r rfl) e1.1 e1.2 (bf u) (bt t) q
    simpa [opsD, u, v, t, q] using this
  · obtain ⟨p, r, s, rfl⟩ := three (rs := rs) (by omega)
    have e0 := hx p (by simp); have e1 := hx r (by simp); have e2 := hx s (by simp)
    have := wo_U2 k l w h1 h2 ht bb oo cap hb p r s (hc 0 p rfl) e0.1 e0.2 (hc 1 r rfl) e1.1 e1.2 (hc 2 s rfl) e2.1 e2.2 (bf u) (bt t) q
    simpa [opsD, u, v, t, q] using this
  · obtain ⟨p, r, rfl⟩ := two (rs := rs) (by omega)
    have e0 := hx p (by simp); have e1 := hx r (by simp)
    have := wo_T0 k l w h1 h2 ht bb oo cap hb p r (hc 0 p rfl) e0.1 e0.2 (hc 1 r rfl) e1.1 e1.2 (bf u) (bf t) q
    simpa [opsD, u, v, t, q] using this
  · obtain ⟨p, rfl⟩ := one (rs := rs) (by omega)
    have e0 := hx p (by simp)
    have := wo_L0 k l w h1 h2 ht bb oo cap hb p (hc 0 p rfl) e0.1 e0.2 (bt u) (bf v) (bt t) q
    simpa [opsD, u, v, t, q] using this
  · obtain ⟨p, r, rfl⟩ := two (rs := rs) (by omega)
    have e0 := hx p (by simp); have e1 := hx r (by simp)
    have := wo_L1 k l w h1 h2 ht bb oo cap hb p r (hc 0 p rfl) e0.1 e0.2 (hc 1 r rfl) e1.1 e1.2 (bt u) (bf v) (bt t) q
    simpa [opsD, u, v, t, q] using this
  · obtain ⟨p, r, s, rfl⟩ := three (rs := rs) (by omega)
    have e0 := hx p (by simp); have e1 := hx r (by simp); have e2 := hx s (by simp)
    have := wo_L2 k l w h1 h2 ht bb oo cap hb p r s (hc 0 p rfl) e0.1 e0.2 (hc 1 r rfl) e1.1 e1.2 (hc 2 s rfl) e2.1 e2.2 (bt u) (bf v) (bt t) q
    simpa [opsD, u, v, t, q] using this
  · obtain rfl : rs = [] := List.length_eq_zero_iff.1 (by omega)
    have := wo_N0 k l w h1 h2 ht bb oo cap hb (bt u) (bt v) (bt t) q
    simpa [opsD, u, v, t, q] using this
  · obtain ⟨p, rfl⟩ := one (rs := rs) (by omega)
    have e0 := hx p (by simp)
    have := wo_N1 k l w h1 h2 ht bb oo cap hb p (hc 0 p rfl) e0.1 e0.2 (bt u) (bt v) (bt t) q
    simpa [opsD, u, v, t, q] using this
  · obtain ⟨p, r, rfl⟩ := two (rs := rs) (by omega)
    have e0 := hx p (by simp); have e1 := hx r (by simp)
    have := wo_N2 k l w h1 h2 ht bb oo cap hb p r (hc 0 p rfl) e0.1 e0.2 (hc 1 r rfl) e1.1 e1.2 (bt u) (bt v) (bt t) q
    simpa [opsD, u, v, t, q] using this
end Go.Proofs.YtechpdfcgimkkaaDoor
