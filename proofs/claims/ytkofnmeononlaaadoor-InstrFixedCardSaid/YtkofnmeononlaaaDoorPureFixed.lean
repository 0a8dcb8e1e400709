/-
  Bytes that are an instruction are that instruction's bytes.
-/
import Derived.Test.YtkofnmeononlaaaDoorPureBack
namespace Go.Proofs.YtkofnmeononlaaaDoor
open Isa
theorem fix1 {q : Int} (h0 : 0 ≤ q) (h1 : q ≤ 255) : sgn q 1 % 256 = q := by
  unfold sgn
  split
  · omega
  · split <;> omega
theorem fix2 {q t : Int} (h0 : 0 ≤ q) (h1 : q ≤ 255) (h2 : 0 ≤ t) (h3 : t ≤ 255) : sgn (q + t * 256) 2 % 256 = q ∧ sgn (q + t * 256) 2 / 256 % 256 = t := by
  unfold sgn
  split
  · omega
  · split <;> omega
theorem enc_ops {k : Int} {l : Bool} (h1 : 1 ≤ k) (h2 : k ≤ 24) (hl : l = true → rL k = true) (rs : List Int) (hn : (rs.length : Int) = siz k l - 1) (hx : ∀ x ∈ rs, 0 ≤ x ∧ x ≤ 255) :
    encL (opsD k l rs).k (opsD k l rs).d (opsD k l rs).a (opsD k l rs).b (opsD k l rs).n (opsD k l rs).l = firB k l :: rs := by
  cases l
  · clear hl
    rcases kinds h1 h2 with rfl | rfl | rfl | rfl | rfl | rfl | rfl | rfl | rfl | rfl | rfl | rfl | rfl | rfl | rfl | rfl | rfl | rfl | rfl | rfl | rfl | rfl | rfl | rfl
    · obtain rfl : rs = [] := List.length_eq_zero_iff.1 (by have : (rs.length : Int) = 0 := hn; omega)
      exact (show _ = ([0] : List Int) from rfl)
    · obtain rfl : rs = [] := List.length_eq_zero_iff.1 (by have : (rs.length : Int) = 0 := hn; omega)
      exact (show _ = ([1] : List Int) from rfl)
    · obtain rfl : rs = [] := List.length_eq_zero_iff.1 (by have : (rs.length : Int) = 0 := hn; omega)
      exact (show _ = ([2] : List Int) from rfl)
    · obtain rfl : rs = [] := List.length_eq_zero_iff.1 (by have : (rs.length : Int) = 0 := hn; omega)
      exact (show _ = ([3] : List Int) from rfl)
    · obtain ⟨p, q, t, rfl⟩ := three (rs := rs) (by have : (rs.length : Int) = 3 := hn; omega)
      have hp := hx p (by simp)
      have hq := hx q (by simp)
      have ht := hx t (by simp)
      refine (show _ = ([16, 16 * 0 + p, (sgn (q + t * 256) 2) % 256, (sgn (q + t * 256) 2) / 256 % 256] : List Int) from rfl).trans ?_
      show _ = ([16, p, q, t] : List Int)
      have e1 := fix2 hq.1 hq.2 ht.1 ht.2
      simp only [List.cons.injEq]
      repeat' apply And.intro
      all_goals first | trivial | exact e1.1 | exact e1.2 | omega
    · obtain ⟨p, q, rfl⟩ := two (rs := rs) (by have : (rs.length : Int) = 2 := hn; omega)
      have hp := hx p (by simp)
      have hq := hx q (by simp)
      refine (show _ = ([17, 16 * (p / 16) + (p % 16), (sgn q 1) % 256] : List Int) from rfl).trans ?_
      show _ = ([17, p, q] : List Int)
      have e1 := fix1 hq.1 hq.2
      simp only [List.cons.injEq]
      repeat' apply And.intro
      all_goals first | trivial | exact e1 | omega
    · obtain ⟨p, q, rfl⟩ := two (rs := rs) (by have : (rs.length : Int) = 2 := hn; omega)
      have hp := hx p (by simp)
      have hq := hx q (by simp)
      refine (show _ = ([32, 16 * (p / 16) + (p % 16), q] : List Int) from rfl).trans ?_
      show _ = ([32, p, q] : List Int)
      simp only [List.cons.injEq]
      repeat' apply And.intro
      all_goals first | trivial | omega
    · obtain ⟨p, q, rfl⟩ := two (rs := rs) (by have : (rs.length : Int) = 2 := hn; omega)
      have hp := hx p (by simp)
      have hq := hx q (by simp)
      refine (show _ = ([33, 16 * (p / 16) + (p % 16), q] : List Int) from rfl).trans ?_
      show _ = ([33, p, q] : List Int)
      simp only [List.cons.injEq]
      repeat' apply And.intro
      all_goals first | trivial | omega
    · obtain ⟨p, q, rfl⟩ := two (rs := rs) (by have : (rs.length : Int) = 2 := hn; omega)
      have hp := hx p (by simp)
      have hq := hx q (by simp)
      refine (show _ = ([34, 16 * (p / 16) + (p % 16), q] : List Int) from rfl).trans ?_
      show _ = ([34, p, q] : List Int)
      simp only [List.cons.injEq]
      repeat' apply And.intro
      all_goals first | trivial | omega
    · obtain ⟨p, q, rfl⟩ := two (rs := rs) (by have : (rs.length : Int) = 2 := hn; omega)
      have hp := hx p (by simp)
      have hq := hx q (by simp)
      refine (show _ = ([35, 16 * (p / 16) + (p % 16), q] : List Int) from rfl).trans ?_
      show _ = ([35, p, q] : List Int)
      simp only [List.cons.injEq]
      repeat' apply And.intro
      all_goals first | trivial | omega
    · obtain ⟨p, q, rfl⟩ := two (rs := rs) (by have : (rs.length : Int) = 2 := hn; omega)
      have hp := hx p (by simp)
      have hq := hx q (by simp)
      refine (show _ = ([36, 16 * (p / 16) + (p % 16), q] : List Int) from rfl).trans ?_
      show _ = ([36, p, q] : List Int)
      simp only [List.cons.injEq]
      repeat' apply And.intro
      all_goals first | trivial | omega
    · obtain ⟨p, q, rfl⟩ := two (rs := rs) (by have : (rs.length : Int) = 2 := hn; omega)
      have hp := hx p (by simp)
      have hq := hx q (by simp)
      refine (show _ = ([37, 16 * (p / 16) + (p % 16), q] : List Int) from rfl).trans ?_
      show _ = ([37, p, q] : List Int)
      simp only [List.cons.injEq]
      repeat' apply And.intro
      all_goals first | trivial | omega
    · obtain ⟨p, q, rfl⟩ := two (rs := rs) (by have : (rs.length : Int) = 2 := hn; omega)
      have hp := hx p (by simp)
      have hq := hx q (by simp)
      refine (show _ = ([38, 16 * (p / 16) + (p % 16), q] : List Int) from rfl).trans ?_
      show _ = ([38, p, q] : List Int)
      simp only [List.cons.injEq]
      repeat' apply And.intro
      all_goals first | trivial | omega
    · obtain ⟨p, q, rfl⟩ := two (rs := rs) (by have : (rs.length : Int) = 2 := hn; omega)
      have hp := hx p (by simp)
      have hq := hx q (by simp)
      refine (show _ = ([48, 16 * (p / 16) + (p % 16), (sgn q 1) % 256] : List Int) from rfl).trans ?_
      show _ = ([48, p, q] : List Int)
      have e1 := fix1 hq.1 hq.2
      simp only [List.cons.injEq]
      repeat' apply And.intro
      all_goals first | trivial | exact e1 | omega
    · obtain ⟨p, q, rfl⟩ := two (rs := rs) (by have : (rs.length : Int) = 2 := hn; omega)
      have hp := hx p (by simp)
      have hq := hx q (by simp)
      refine (show _ = ([49, 16 * (p / 16) + (p % 16), (sgn q 1) % 256] : List Int) from rfl).trans ?_
      show _ = ([49, p, q] : List Int)
      have e1 := fix1 hq.1 hq.2
      simp only [List.cons.injEq]
      repeat' apply And.intro
      all_goals first | trivial | exact e1 | omega
    · obtain ⟨p, rfl⟩ := one (rs := rs) (by have : (rs.length : Int) = 1 := hn; omega)
      have hp := hx p (by simp)
      refine (show _ = ([64, 16 * 0 + p] : List Int) from rfl).trans ?_
      show _ = ([64, p] : List Int)
      simp only [List.cons.injEq]
      repeat' apply And.intro
      all_goals first | trivial | omega
    · obtain ⟨p, rfl⟩ := one (rs := rs) (by have : (rs.length : Int) = 1 := hn; omega)
      have hp := hx p (by simp)
      refine (show _ = ([65, 16 * 0 + p] : List Int) from rfl).trans ?_
      show _ = ([65, p] : List Int)
      simp only [List.cons.injEq]
      repeat' apply And.intro
      all_goals first | trivial | omega
    · obtain ⟨p, q, rfl⟩ := two (rs := rs) (by have : (rs.length : Int) = 2 := hn; omega)
      have hp := hx p (by simp)
      have hq := hx q (by simp)
      refine (show _ = ([80, 16 * (p / 16) + (p % 16), (sgn q 1) % 256] : List Int) from rfl).trans ?_
      show _ = ([80, p, q] : List Int)
      have e1 := fix1 hq.1 hq.2
      simp only [List.cons.injEq]
      repeat' apply And.intro
      all_goals first | trivial | exact e1 | omega
    · obtain ⟨p, q, rfl⟩ := two (rs := rs) (by have : (rs.length : Int) = 2 := hn; omega)
      have hp := hx p (by simp)
      have hq := hx q (by simp)
      refine (show _ = ([81, 16 * (p / 16) + (p % 16), (sgn q 1) % 256] : List Int) from rfl).trans ?_
      show _ = ([81, p, q] : List Int)
      have e1 := fix1 hq.1 hq.2
      simp only [List.cons.injEq]
      repeat' apply And.intro
      all_goals first | trivial | exact e1 | omega
    · obtain ⟨p, q, rfl⟩ := two (rs := rs) (by have : (rs.length : Int) = 2 := hn; omega)
      have hp := hx p (by simp)
      have hq := hx q (by simp)
      refine (show _ = ([82, 16 * (p / 16) + (p % 16), (sgn q 1) % 256] : List Int) from rfl).trans ?_
      show _ = ([82, p, q] : List Int)
      have e1 := fix1 hq.1 hq.2
      simp only [List.cons.injEq]
      repeat' apply And.intro
      all_goals first | trivial | exact e1 | omega
    · obtain ⟨p, q, rfl⟩ := two (rs := rs) (by have : (rs.length : Int) = 2 := hn; omega)
      have hp := hx p (by simp)
      have hq := hx q (by simp)
      refine (show _ = ([83, 16 * (p / 16) + (p % 16), (sgn q 1) % 256] : List Int) from rfl).trans ?_
      show _ = ([83, p, q] : List Int)
      have e1 := fix1 hq.1 hq.2
      simp only [List.cons.injEq]
      repeat' apply And.intro
      all_goals first | trivial | exact e1 | omega
    · obtain ⟨p, rfl⟩ := one (rs := rs) (by have : (rs.length : Int) = 1 := hn; omega)
      have hp := hx p (by simp)
      refine (show _ = ([96, (sgn p 1) % 256] : List Int) from rfl).trans ?_
      show _ = ([96, p] : List Int)
      have e1 := fix1 hp.1 hp.2
      simp only [List.cons.injEq]
      repeat' apply And.intro
      all_goals first | trivial | exact e1 | omega
    · obtain ⟨p, q, rfl⟩ := two (rs := rs) (by have : (rs.length : Int) = 2 := hn; omega)
      have hp := hx p (by simp)
      have hq := hx q (by simp)
      refine (show _ = ([98, (sgn (p + q * 256) 2) % 256, (sgn (p + q * 256) 2) / 256 % 256] : List Int) from rfl).trans ?_
      show _ = ([98, p, q] : List Int)
      have e1 := fix2 hp.1 hp.2 hq.1 hq.2
      simp only [List.cons.injEq]
      repeat' apply And.intro
      all_goals first | trivial | exact e1.1 | exact e1.2 | omega
    · obtain ⟨p, q, rfl⟩ := two (rs := rs) (by have : (rs.length : Int) = 2 := hn; omega)
      have hp := hx p (by simp)
      have hq := hx q (by simp)
      refine (show _ = ([99, 16 * 0 + p, (sgn q 1) % 256] : List Int) from rfl).trans ?_
      show _ = ([99, p, q] : List Int)
      have e1 := fix1 hq.1 hq.2
      simp only [List.cons.injEq]
      repeat' apply And.intro
      all_goals first | trivial | exact e1 | omega
  · have hk : k = 18 ∨ k = 19 ∨ k = 20 ∨ k = 21 ∨ k = 22 := by
      have := hl rfl
      rcases kinds h1 h2 with rfl | rfl | rfl | rfl | rfl | rfl | rfl | rfl | rfl | rfl | rfl | rfl | rfl | rfl | rfl | rfl | rfl | rfl | rfl | rfl | rfl | rfl | rfl | rfl
      all_goals first | omega | (exact absurd this (by decide))
    rcases hk with rfl | rfl | rfl | rfl | rfl
    · obtain ⟨p, q, t, rfl⟩ := three (rs := rs) (by have : (rs.length : Int) = 3 := hn; omega)
      have hp := hx p (by simp)
      have hq := hx q (by simp)
      have ht := hx t (by simp)
      refine (show _ = ([84, 16 * (p / 16) + (p % 16), (sgn (q + t * 256) 2) % 256, (sgn (q + t * 256) 2) / 256 % 256] : List Int) from rfl).trans ?_
      show _ = ([84, p, q, t] : List Int)
      have e1 := fix2 hq.1 hq.2 ht.1 ht.2
      simp only [List.cons.injEq]
      repeat' apply And.intro
      all_goals first | trivial | exact e1.1 | exact e1.2 | omega
    · obtain ⟨p, q, t, rfl⟩ := three (rs := rs) (by have : (rs.length : Int) = 3 := hn; omega)
      have hp := hx p (by simp)
      have hq := hx q (by simp)
      have ht := hx t (by simp)
      refine (show _ = ([85, 16 * (p / 16) + (p % 16), (sgn (q + t * 256) 2) % 256, (sgn (q + t * 256) 2) / 256 % 256] : List Int) from rfl).trans ?_
      show _ = ([85, p, q, t] : List Int)
      have e1 := fix2 hq.1 hq.2 ht.1 ht.2
      simp only [List.cons.injEq]
      repeat' apply And.intro
      all_goals first | trivial | exact e1.1 | exact e1.2 | omega
    · obtain ⟨p, q, t, rfl⟩ := three (rs := rs) (by have : (rs.length : Int) = 3 := hn; omega)
      have hp := hx p (by simp)
      have hq := hx q (by simp)
      have ht := hx t (by simp)
      refine (show _ = ([86, 16 * (p / 16) + (p % 16), (sgn (q + t * 256) 2) % 256, (sgn (q + t * 256) 2) / 256 % 256] : List Int) from rfl).trans ?_
      show _ = ([86, p, q, t] : List Int)
      have e1 := fix2 hq.1 hq.2 ht.1 ht.2
      simp only [List.cons.injEq]
      repeat' apply And.intro
      all_goals first | trivial | exact e1.1 | exact e1.2 | omega
    · obtain ⟨p, q, t, rfl⟩ := three (rs := rs) (by have : (rs.length : Int) = 3 := hn; omega)
      have hp := hx p (by simp)
      have hq := hx q (by simp)
      have ht := hx t (by simp)
      refine (show _ = ([87, 16 * (p / 16) + (p % 16), (sgn (q + t * 256) 2) % 256, (sgn (q + t * 256) 2) / 256 % 256] : List Int) from rfl).trans ?_
      show _ = ([87, p, q, t] : List Int)
      have e1 := fix2 hq.1 hq.2 ht.1 ht.2
      simp only [List.cons.injEq]
      repeat' apply And.intro
      all_goals first | trivial | exact e1.1 | exact e1.2 | omega
    · obtain ⟨p, q, rfl⟩ := two (rs := rs) (by have : (rs.length : Int) = 2 := hn; omega)
      have hp := hx p (by simp)
      have hq := hx q (by simp)
      refine (show _ = ([97, (sgn (p + q * 256) 2) % 256, (sgn (p + q * 256) 2) / 256 % 256] : List Int) from rfl).trans ?_
      show _ = ([97, p, q] : List Int)
      have e1 := fix2 hp.1 hp.2 hq.1 hq.2
      simp only [List.cons.injEq]
      repeat' apply And.intro
      all_goals first | trivial | exact e1.1 | exact e1.2 | omega
/-- What is decoded without an error is encoded as it stood. -/
theorem dec_fixed (ns : List Int) (hx : ∀ x ∈ ns, 0 ≤ x ∧ x ≤ 255) (h : (decOut ns 0).2.2 = 0) :
    (decOut ns 0).1.chk = 0 ∧ (decOut ns 0).2.1 ≤ ns.length ∧ 0 ≤ (decOut ns 0).2.1 ∧
    encL (decOut ns 0).1.k (decOut ns 0).1.d (decOut ns 0).1.a (decOut ns 0).1.b (decOut ns 0).1.n (decOut ns 0).1.l = ns.take (decOut ns 0).2.1.toNat := by
  have hk := kindB_is (ns.getD (0 : Int).toNat 0)
  unfold decOut at h ⊢
  by_cases c1 : (0 : Int) < 0 ∨ (ns.length : Int) ≤ 0
  · rw [if_pos c1] at h; cases h
  rw [if_neg c1] at h ⊢
  generalize hkb : kindB (ns.getD (0 : Int).toNat 0) = kb at h hk ⊢
  obtain ⟨k, l⟩ := kb
  simp only at h hk ⊢
  by_cases c2 : k = 0
  · rw [if_pos c2] at h; cases h
  rw [if_neg c2] at h ⊢
  by_cases c3 : (ns.length : Int) - 0 < siz k l
  · rw [if_pos c3] at h; cases h
  rw [if_neg c3] at h ⊢
  by_cases c4 : (opsD k l ((ns.drop ((0 : Int).toNat + 1)).take (siz k l - 1).toNat)).chk = 0
  · rw [if_pos c4]
    obtain ⟨q1, q2, q3, q4⟩ := hk.resolve_left c2
    have s1 : 1 ≤ siz k l := by have := wid_bd k l q1 q2; unfold siz; split <;> split <;> omega
    refine ⟨c4, by show siz k l ≤ _; omega, by show 0 ≤ siz k l; omega, ?_⟩
    show encL _ _ _ _ _ _ = ns.take (siz k l).toNat
    rw [enc_ops q1 q2 q3 _ (by rw [List.length_take, List.length_drop]; omega) (fun x hx' => hx x (List.mem_of_mem_drop (List.mem_of_mem_take hx')))]
    have hf : firB k l = ns.getD 0 0 := q4
    rw [hf]
    cases ns with
    | nil => simp at c1
    | cons y ys =>
      obtain ⟨m, hm⟩ : ∃ m, (siz k l).toNat = m + 1 := ⟨(siz k l).toNat - 1, by omega⟩
      rw [hm, show (siz k l - 1).toNat = m by omega]
      rfl
  · rw [if_neg c4] at h; cases h
theorem dec_zero (ns : List Int) (p : Int) (h : (decOut ns p).2.2 ≠ 0) : (decOut ns p).1 = zeroI ∧ (decOut ns p).2.1 = 0 := by
  unfold decOut at h ⊢
  split at h
  · rename_i c; rw [if_pos c]; exact ⟨rfl, rfl⟩
  rename_i c; rw [if_neg c]
  simp only at h ⊢
  split at h
  · rename_i c; rw [if_pos c]; exact ⟨rfl, rfl⟩
  rename_i c; rw [if_neg c]
  split at h
  · rename_i c; rw [if_pos c]; exact ⟨rfl, rfl⟩
  rename_i c; rw [if_neg c]
  split at h
  · exact absurd rfl h
  · rename_i c; rw [if_neg c]; exact ⟨rfl, rfl⟩
end Go.Proofs.YtkofnmeononlaaaDoor
