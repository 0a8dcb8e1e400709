/-
  An instruction that may be: its bytes say it, and nothing else does.
-/
import Derived.Test.YtechpdfcgimkkaaDoorWalkDec2
import Derived.Test.YtechpdfcgimkkaaDoorWalkE2
import Derived.Test.YtechpdfcgimkkaaDoorWalkS1
import Derived.Test.YtechpdfcgimkkaaDoorPureRw
namespace Go.Proofs.YtechpdfcgimkkaaDoor
open Isa
theorem sgn1 {n : Int} (h0 : -128 ≤ n) (h1 : n ≤ 127) : sgn (n % 256) 1 = n := by
  unfold sgn
  split
  · omega
  · split <;> omega
theorem sgn2 {n : Int} (h0 : -32768 ≤ n) (h1 : n ≤ 32767) : sgn (n % 256 + n / 256 % 256 * 256) 2 = n := by
  unfold sgn
  split
  · omega
  · split <;> omega
theorem ins_eq {k d a b n d' a' b' : Int} {l : Bool} (hd : d = d') (ha : a = a') (hb : b = b') : (⟨k, d, a, b, n, l⟩ : Ins) = ⟨k, d', a', b', n, l⟩ := by rw [hd, ha, hb]
theorem form_zero {k d a b n : Int} {l : Bool} (h : formB k d a b n l = true) : (rD k = false → d = 0) ∧ (rA k = false → a = 0) ∧ (rB k = false → b = 0) ∧ (rN k = false → n = 0) := by
  unfold formB at h
  simp only [Bool.and_eq_true, Bool.or_eq_true, beq_iff_eq, Bool.not_eq_true'] at h
  obtain ⟨⟨⟨⟨h1, h2⟩, h3⟩, h4⟩, _⟩ := h
  refine ⟨fun q => ?_, fun q => ?_, fun q => ?_, fun q => ?_⟩
  · rcases h1 with x | x
    · exact x
    · rw [q] at x; cases x
  · rcases h2 with x | x
    · exact x
    · rw [q] at x; cases x
  · rcases h3 with x | x
    · exact x
    · rw [q] at x; cases x
  · rcases h4 with x | x
    · exact x
    · rw [q] at x; cases x
theorem ops_enc {k d a b n : Int} {l : Bool} (h : Isa.chk k d a b n l = 0) : opsD k l (encL k d a b n l).tail = ⟨k, d, a, b, n, l⟩ := by
  obtain ⟨h1, h2, hf, hd, ha, hb, hlo, hhi⟩ := chk_zero h
  have hlong := chk_long h
  obtain ⟨hD, hA, hB, hN⟩ := form_zero hf
  unfold regB at hd ha hb
  simp at hd ha hb
  clear h hf
  cases l
  · clear hlong
    rcases kinds h1 h2 with rfl | rfl | rfl | rfl | rfl | rfl | rfl | rfl | rfl | rfl | rfl | rfl | rfl | rfl | rfl | rfl | rfl | rfl | rfl | rfl | rfl | rfl | rfl | rfl
    · obtain rfl := hD rfl
      obtain rfl := hA rfl
      obtain rfl := hB rfl
      obtain rfl := hN rfl
      rw [show encL 1 0 0 0 0 false = [0] from rfl]
      exact (show opsD 1 false [] = ⟨1, 0, 0, 0, 0, false⟩ from rfl)
    · obtain rfl := hD rfl
      obtain rfl := hA rfl
      obtain rfl := hB rfl
      obtain rfl := hN rfl
      rw [show encL 2 0 0 0 0 false = [1] from rfl]
      exact (show opsD 2 false [] = ⟨2, 0, 0, 0, 0, false⟩ from rfl)
    · obtain rfl := hD rfl
      obtain rfl := hA rfl
      obtain rfl := hB rfl
      obtain rfl := hN rfl
      rw [show encL 3 0 0 0 0 false = [2] from rfl]
      exact (show opsD 3 false [] = ⟨3, 0, 0, 0, 0, false⟩ from rfl)
    · obtain rfl := hD rfl
      obtain rfl := hA rfl
      obtain rfl := hB rfl
      obtain rfl := hN rfl
      rw [show encL 4 0 0 0 0 false = [3] from rfl]
      exact (show opsD 4 false [] = ⟨4, 0, 0, 0, 0, false⟩ from rfl)
    · obtain rfl := hA rfl
      obtain rfl := hB rfl
      have n0 : (-32768 : Int) ≤ n := hlo
      have n1 : n ≤ 32767 := hhi
      rw [show encL 5 d 0 0 n false = [16, 16 * 0 + d, n % 256, n / 256 % 256] from rfl]
      refine (show opsD 5 false [16 * 0 + d, n % 256, n / 256 % 256] = ⟨5, 16 * 0 + d, 0, 0, sgn (n % 256 + n / 256 % 256 * 256) 2, false⟩ from rfl).trans ?_
      rw [sgn2 n0 n1]
      refine ins_eq (by omega) (by omega) (by omega)
    · obtain rfl := hB rfl
      have n0 : (-128 : Int) ≤ n := hlo
      have n1 : n ≤ 127 := hhi
      rw [show encL 6 d a 0 n false = [17, 16 * d + a, n % 256] from rfl]
      refine (show opsD 6 false [16 * d + a, n % 256] = ⟨6, (16 * d + a) / 16, (16 * d + a) % 16, 0, sgn (n % 256) 1, false⟩ from rfl).trans ?_
      rw [sgn1 (by omega) (by omega)]
      refine ins_eq (by omega) (by omega) (by omega)
    · obtain rfl := hN rfl
      rw [show encL 7 d a b 0 false = [32, 16 * d + a, b] from rfl]
      refine (show opsD 7 false [16 * d + a, b] = ⟨7, (16 * d + a) / 16, (16 * d + a) % 16, b, 0, false⟩ from rfl).trans ?_
      refine ins_eq (by omega) (by omega) (by omega)
    · obtain rfl := hN rfl
      rw [show encL 8 d a b 0 false = [33, 16 * d + a, b] from rfl]
      refine (show opsD 8 false [16 * d + a, b] = ⟨8, (16 * d + a) / 16, (16 * d + a) % 16, b, 0, false⟩ from rfl).trans ?_
      refine ins_eq (by omega) (by omega) (by omega)
    · obtain rfl := hN rfl
      rw [show encL 9 d a b 0 false = [34, 16 * d + a, b] from rfl]
      refine (show opsD 9 false [16 * d + a, b] = ⟨9, (16 * d + a) / 16, (16 * d + a) % 16, b, 0, false⟩ from rfl).trans ?_
      refine ins_eq (by omega) (by omega) (by omega)
    · obtain rfl := hN rfl
      rw [show encL 10 d a b 0 false = [35, 16 * d + a, b] from rfl]
      refine (show opsD 10 false [16 * d + a, b] = ⟨10, (16 * d + a) / 16, (16 * d + a) % 16, b, 0, false⟩ from rfl).trans ?_
      refine ins_eq (by omega) (by omega) (by omega)
    · obtain rfl := hN rfl
      rw [show encL 11 d a b 0 false = [36, 16 * d + a, b] from rfl]
      refine (show opsD 11 false [16 * d + a, b] = ⟨11, (16 * d + a) / 16, (16 * d + a) % 16, b, 0, false⟩ from rfl).trans ?_
      refine ins_eq (by omega) (by omega) (by omega)
    · obtain rfl := hN rfl
      rw [show encL 12 d a b 0 false = [37, 16 * d + a, b] from rfl]
      refine (show opsD 12 false [16 * d + a, b] = ⟨12, (16 * d + a) / 16, (16 * d + a) % 16, b, 0, false⟩ from rfl).trans ?_
      refine ins_eq (by omega) (by omega) (by omega)
    · obtain rfl := hN rfl
      rw [show encL 13 d a b 0 false = [38, 16 * d + a, b] from rfl]
      refine (show opsD 13 false [16 * d + a, b] = ⟨13, (16 * d + a) / 16, (16 * d + a) % 16, b, 0, false⟩ from rfl).trans ?_
      refine ins_eq (by omega) (by omega) (by omega)
    · obtain rfl := hB rfl
      have n0 : (-128 : Int) ≤ n := hlo
      have n1 : n ≤ 127 := hhi
      rw [show encL 14 d a 0 n false = [48, 16 * d + a, n % 256] from rfl]
      refine (show opsD 14 false [16 * d + a, n % 256] = ⟨14, (16 * d + a) / 16, (16 * d + a) % 16, 0, sgn (n % 256) 1, false⟩ from rfl).trans ?_
      rw [sgn1 (by omega) (by omega)]
      refine ins_eq (by omega) (by omega) (by omega)
    · obtain rfl := hD rfl
      have n0 : (-128 : Int) ≤ n := hlo
      have n1 : n ≤ 127 := hhi
      rw [show encL 15 0 a b n false = [49, 16 * b + a, n % 256] from rfl]
      refine (show opsD 15 false [16 * b + a, n % 256] = ⟨15, 0, (16 * b + a) % 16, (16 * b + a) / 16, sgn (n % 256) 1, false⟩ from rfl).trans ?_
      rw [sgn1 (by omega) (by omega)]
      refine ins_eq (by omega) (by omega) (by omega)
    · obtain rfl := hA rfl
      obtain rfl := hB rfl
      obtain rfl := hN rfl
      rw [show encL 16 d 0 0 0 false = [64, 16 * 0 + d] from rfl]
      refine (show opsD 16 false [16 * 0 + d] = ⟨16, 16 * 0 + d, 0, 0, 0, false⟩ from rfl).trans ?_
      refine ins_eq (by omega) (by omega) (by omega)
    · obtain rfl := hD rfl
      obtain rfl := hB rfl
      obtain rfl := hN rfl
      rw [show encL 17 0 a 0 0 false = [65, 16 * 0 + a] from rfl]
      refine (show opsD 17 false [16 * 0 + a] = ⟨17, 0, 16 * 0 + a, 0, 0, false⟩ from rfl).trans ?_
      refine ins_eq (by omega) (by omega) (by omega)
    · obtain rfl := hD rfl
      have n0 : (-128 : Int) ≤ n := hlo
      have n1 : n ≤ 127 := hhi
      rw [show encL 18 0 a b n false = [80, 16 * a + b, n % 256] from rfl]
      refine (show opsD 18 false [16 * a + b, n % 256] = ⟨18, 0, (16 * a + b) / 16, (16 * a + b) % 16, sgn (n % 256) 1, false⟩ from rfl).trans ?_
      rw [sgn1 (by omega) (by omega)]
      refine ins_eq (by omega) (by omega) (by omega)
    · obtain rfl := hD rfl
      have n0 : (-128 : Int) ≤ n := hlo
      have n1 : n ≤ 127 := hhi
      rw [show encL 19 0 a b n false = [81, 16 * a + b, n % 256] from rfl]
      refine (show opsD 19 false [16 * a + b, n % 256] = ⟨19, 0, (16 * a + b) / 16, (16 * a + b) % 16, sgn (n % 256) 1, false⟩ from rfl).trans ?_
      rw [sgn1 (by omega) (by omega)]
      refine ins_eq (by omega) (by omega) (by omega)
    · obtain rfl := hD rfl
      have n0 : (-128 : Int) ≤ n := hlo
      have n1 : n ≤ 127 := hhi
      rw [show encL 20 0 a b n false = [82, 16 * a + b, n % 256] from rfl]
      refine (show opsD 20 false [16 * a + b, n % 256] = ⟨20, 0, (16 * a + b) / 16, (16 * a + b) % 16, sgn (n % 256) 1, false⟩ from rfl).trans ?_
      rw [sgn1 (by omega) (by omega)]
      refine ins_eq (by omega) (by omega) (by omega)
    · obtain rfl := hD rfl
      have n0 : (-128 : Int) ≤ n := hlo
      have n1 : n ≤ 127 := hhi
      rw [show encL 21 0 a b n false = [83, 16 * a + b, n % 256] from rfl]
      refine (show opsD 21 false [16 * a + b, n % 256] = ⟨21, 0, (16 * a + b) / 16, (16 * a + b) % 16, sgn (n % 256) 1, false⟩ from rfl).trans ?_
      rw [sgn1 (by omega) (by omega)]
      refine ins_eq (by omega) (by omega) (by omega)
    · obtain rfl := hD rfl
      obtain rfl := hA rfl
      obtain rfl := hB rfl
      have n0 : (-128 : Int) ≤ n := hlo
      have n1 : n ≤ 127 := hhi
      rw [show encL 22 0 0 0 n false = [96, n % 256] from rfl]
      refine (show opsD 22 false [n % 256] = ⟨22, 0, 0, 0, sgn (n % 256) 1, false⟩ from rfl).trans ?_
      rw [sgn1 (by omega) (by omega)]
    · obtain rfl := hD rfl
      obtain rfl := hA rfl
      obtain rfl := hB rfl
      have n0 : (-32768 : Int) ≤ n := hlo
      have n1 : n ≤ 32767 := hhi
      rw [show encL 23 0 0 0 n false = [98, n % 256, n / 256 % 256] from rfl]
      refine (show opsD 23 false [n % 256, n / 256 % 256] = ⟨23, 0, 0, 0, sgn (n % 256 + n / 256 % 256 * 256) 2, false⟩ from rfl).trans ?_
      rw [sgn2 n0 n1]
    · obtain rfl := hD rfl
      obtain rfl := hB rfl
      have n0 : (0 : Int) ≤ n := hlo
      have n1 : n ≤ 19 := hhi
      rw [show encL 24 0 a 0 n false = [99, 16 * 0 + a, n % 256] from rfl]
      refine (show opsD 24 false [16 * 0 + a, n % 256] = ⟨24, 0, 16 * 0 + a, 0, sgn (n % 256) 1, false⟩ from rfl).trans ?_
      rw [sgn1 (by omega) (by omega)]
      refine ins_eq (by omega) (by omega) (by omega)
  · have hk : k = 18 ∨ k = 19 ∨ k = 20 ∨ k = 21 ∨ k = 22 := by
      have := hlong rfl
      rcases kinds h1 h2 with rfl | rfl | rfl | rfl | rfl | rfl | rfl | rfl | rfl | rfl | rfl | rfl | rfl | rfl | rfl | rfl | rfl | rfl | rfl | rfl | rfl | rfl | rfl | rfl
      all_goals first | omega | (exact absurd this (by decide))
    rcases hk with rfl | rfl | rfl | rfl | rfl
    · obtain rfl := hD rfl
      have n0 : (-32768 : Int) ≤ n := hlo
      have n1 : n ≤ 32767 := hhi
      rw [show encL 18 0 a b n true = [84, 16 * a + b, n % 256, n / 256 % 256] from rfl]
      refine (show opsD 18 true [16 * a + b, n % 256, n / 256 % 256] = ⟨18, 0, (16 * a + b) / 16, (16 * a + b) % 16, sgn (n % 256 + n / 256 % 256 * 256) 2, true⟩ from rfl).trans ?_
      rw [sgn2 n0 n1]
      refine ins_eq (by omega) (by omega) (by omega)
    · obtain rfl := hD rfl
      have n0 : (-32768 : Int) ≤ n := hlo
      have n1 : n ≤ 32767 := hhi
      rw [show encL 19 0 a b n true = [85, 16 * a + b, n % 256, n / 256 % 256] from rfl]
      refine (show opsD 19 true [16 * a + b, n % 256, n / 256 % 256] = ⟨19, 0, (16 * a + b) / 16, (16 * a + b) % 16, sgn (n % 256 + n / 256 % 256 * 256) 2, true⟩ from rfl).trans ?_
      rw [sgn2 n0 n1]
      refine ins_eq (by omega) (by omega) (by omega)
    · obtain rfl := hD rfl
      have n0 : (-32768 : Int) ≤ n := hlo
      have n1 : n ≤ 32767 := hhi
      rw [show encL 20 0 a b n true = [86, 16 * a + b, n % 256, n / 256 % 256] from rfl]
      refine (show opsD 20 true [16 * a + b, n % 256, n / 256 % 256] = ⟨20, 0, (16 * a + b) / 16, (16 * a + b) % 16, sgn (n % 256 + n / 256 % 256 * 256) 2, true⟩ from rfl).trans ?_
      rw [sgn2 n0 n1]
      refine ins_eq (by omega) (by omega) (by omega)
    · obtain rfl := hD rfl
      have n0 : (-32768 : Int) ≤ n := hlo
      have n1 : n ≤ 32767 := hhi
      rw [show encL 21 0 a b n true = [87, 16 * a + b, n % 256, n / 256 % 256] from rfl]
      refine (show opsD 21 true [16 * a + b, n % 256, n / 256 % 256] = ⟨21, 0, (16 * a + b) / 16, (16 * a + b) % 16, sgn (n % 256 + n / 256 % 256 * 256) 2, true⟩ from rfl).trans ?_
      rw [sgn2 n0 n1]
      refine ins_eq (by omega) (by omega) (by omega)
    · obtain rfl := hD rfl
      obtain rfl := hA rfl
      obtain rfl := hB rfl
      have n0 : (-32768 : Int) ≤ n := hlo
      have n1 : n ≤ 32767 := hhi
      rw [show encL 22 0 0 0 n true = [97, n % 256, n / 256 % 256] from rfl]
      refine (show opsD 22 true [n % 256, n / 256 % 256] = ⟨22, 0, 0, 0, sgn (n % 256 + n / 256 % 256 * 256) 2, true⟩ from rfl).trans ?_
      rw [sgn2 n0 n1]
theorem kind_enc {k : Int} {l : Bool} (h1 : 1 ≤ k) (h2 : k ≤ 24) (hl : l = true → rL k = true) : kindB (firB k l) = (k, l) := by
  cases l
  · rcases kinds h1 h2 with rfl | rfl | rfl | rfl | rfl | rfl | rfl | rfl | rfl | rfl | rfl | rfl | rfl | rfl | rfl | rfl | rfl | rfl | rfl | rfl | rfl | rfl | rfl | rfl <;> rfl
  · have hk : k = 18 ∨ k = 19 ∨ k = 20 ∨ k = 21 ∨ k = 22 := by
      have := hl rfl
      rcases kinds h1 h2 with rfl | rfl | rfl | rfl | rfl | rfl | rfl | rfl | rfl | rfl | rfl | rfl | rfl | rfl | rfl | rfl | rfl | rfl | rfl | rfl | rfl | rfl | rfl | rfl
      all_goals first | omega | (exact absurd this (by decide))
    rcases hk with rfl | rfl | rfl | rfl | rfl <;> rfl
theorem encL_head (k d a b n : Int) (l : Bool) : encL k d a b n l = firB k l :: (encL k d a b n l).tail := by
  unfold encL L3 L2 L1; rfl
/-- Wherever an instruction's bytes stand they are decoded as it is. -/
theorem dec_back {k d a b n : Int} {l : Bool} (h : Isa.chk k d a b n l = 0) (pre post : List Int) : decOut (pre ++ (encL k d a b n l ++ post)) pre.length = (⟨k, d, a, b, n, l⟩, siz k l, 0) := by
  obtain ⟨h1, h2, _⟩ := chk_zero h
  have hlen := encL_len (d := d) (a := a) (b := b) (n := n) (l := l) h1 h2
  have hs : 1 ≤ siz k l := by have := wid_bd k l h1 h2; unfold siz; split <;> split <;> omega
  unfold decOut
  rw [if_neg (by rw [List.length_append, List.length_append]; omega)]
  have hg : (pre ++ (encL k d a b n l ++ post)).getD (pre.length : Int).toNat 0 = firB k l := by
    rw [Int.toNat_natCast, List.getD_eq_getElem?_getD, List.getElem?_append_right (Nat.le_refl _), Nat.sub_self, encL_head]; rfl
  have hdr : ((pre ++ (encL k d a b n l ++ post)).drop ((pre.length : Int).toNat + 1)).take (siz k l - 1).toNat = (encL k d a b n l).tail := by
    rw [Int.toNat_natCast, List.drop_append, List.drop_of_length_le (by omega), Nat.add_sub_cancel_left, encL_head]
    have : ((encL k d a b n l).tail).length = (siz k l - 1).toNat := by rw [List.length_tail]; omega
    simp [this]
  simp only [hg, kind_enc h1 h2 (chk_long h), hdr, ops_enc h]
  rw [if_neg (by omega), if_neg (by rw [List.length_append, List.length_append]; omega)]
  exact if_pos h
end Go.Proofs.YtechpdfcgimkkaaDoor
