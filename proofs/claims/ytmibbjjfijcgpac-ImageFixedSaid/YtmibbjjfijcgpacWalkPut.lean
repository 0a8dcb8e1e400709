/-
  image.Encode's put.
-/
import Derived.Test.YtmibbjjfijcgpacEncKit
namespace Go.Proofs.Ytmibbjjfijcgpac
open Go.RowKit Go.Joins
set_option maxHeartbeats 4000000 in
theorem put_any (wd : Nat) (n : Int) (B gb : Nat) (v : Value) (ns : List Int) (w : World) (hw : wd ≤ 8) (hn : ns.length ≤ 100000) (h : Buf w B gb v ns) :
    Calls Try.prog 26 #[.int .i64 wd, .int .i64 n, .pointer (some ⟨gb, 0, none⟩)] w fun e w' => e = .returned (.tuple #[]) ∧ ∃ v', Buf w' B gb v' (ns ++ be wd n) ∧ Keep B gb w w' := by
  obtain ⟨i0, hi, hz0, hz1, hz2⟩ := info_of inByte
  have HB : Hid (Buf w B gb v ns) := h
  clear h
  go_enter Try.func26, Try.ntmps26
  go_wp2_with fail
  go_loopw [5] (fun u wr => ∃ (j : Nat) (x : Int) (v' : Value), j ≤ wd ∧ u = .int .i64 x ∧ x = (j : Int) - 1 ∧ Hid (Buf wr B gb v' (ns ++ (be wd n).take (wd - j))) ∧ Hid (Keep B gb w wr)) (fun u _ => (intOf u + 1).toNat)
  case atStart => exact ⟨wd, _, v, by omega, rfl, by go_num, by show Buf _ _ _ _ _; rw [Nat.sub_self, List.take_zero, List.append_nil]; exact HB.out, Keep.refl _ _ _⟩
  case round =>
    obtain ⟨j, x, v', j1, rfl, hx, bf, kp⟩ := hrel
    by_cases hj : 1 ≤ j
    · obtain ⟨p, rfl⟩ : ∃ i, j = i + 1 := ⟨j - 1, by omega⟩
      obtain rfl : x = (p : Int) := by omega
      clear hx
      have hc := bf.out.cell
      have hf := bf.out.frozen
      have hlt := bf.out.lt
      have hbt := be_take wd n p (by omega)
      have hln : (ns ++ (be wd n).take (wd - (p + 1))).length ≤ 100008 := by rw [List.length_append, List.length_take, be_len]; omega
      obtain ⟨ms, hms⟩ : ∃ ms, ns ++ (be wd n).take (wd - (p + 1)) = ms := ⟨_, rfl⟩
      rw [hms] at bf hln
      have HT : Hid (ns ++ (be wd n).take (wd - p) = ms ++ [n / 2 ^ (8 * p) % 256]) := by show _ = _; rw [hbt, ← List.append_assoc, hms]
      clear hbt hms
      have hp : p ≤ 7 := by omega
      have hge := bf.out.ge
      have e0 : IntKind.i64.wrap (8 * (p : Int)) = 8 * (p : Int) := by rw [IntKind.wrap_i64]; omega
      have e1 : (8 * (p : Int)).toNat = 8 * p := by omega
      have e2 : (0 : Int) ≤ 8 * (p : Int) := by omega
      have e3 : 8 * (p : Int) ≤ 64 := by omega
      obtain ⟨v2, W2, hr, hbx, ⟨a2, l2, k2, rfl⟩, r1, r2⟩ := buf_one bf.out (IntKind.u8.wrap (n / 2 ^ (8 * p))) (by omega) 22
      have HR : Hid _ := hr
      have t0 : W2.cell? ⟨gb, 0, none⟩ = some v' := by simp [World.cell?, hbx]
      have t1 : W2.frozen? ⟨gb, 0, none⟩ = false := by simp [World.frozen?, hbx]
      have hwrap : IntKind.u8.wrap (n / 2 ^ (8 * p)) = n / 2 ^ (8 * p) % 256 := by rw [IntKind.wrap_u8]
      rw [hwrap, ← HT.out] at r1
      have R1 : Hid _ := r1
      have R2 : Hid _ := r2
      clear hr hbx r1 r2 hwrap
      go_wp2_with fail
      go_region_law (refine step_append_two rfl (.tmp 12) (.tmp 18) 22 22 rfl _ _ rfl rfl HR.out ?_)
      all_goals
        go_wp2
        go_roundw
        case rel => exact ⟨p, _, _, by omega, rfl, by go_num, R1.out, kp.out.trans R2.out⟩
        case measure => simp [intOf]
    · obtain rfl : j = 0 := by omega
      obtain rfl : x = -1 := by omega
      clear hx
      have hfin := bf.out
      rw [Nat.sub_zero, List.take_of_length_le (by rw [be_len]; exact Nat.le_refl _)] at hfin
      have HF : Hid _ := hfin
      clear hfin
      go_wp2
      go_end0
      exact ⟨rfl, _, HF.out, kp.out⟩
end Go.Proofs.Ytmibbjjfijcgpac
