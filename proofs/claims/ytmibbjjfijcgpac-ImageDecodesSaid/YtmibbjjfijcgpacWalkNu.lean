/-
  The reader's number.
-/
import Derived.Test.YtmibbjjfijcgpacDecKit
namespace Go.Proofs.Ytmibbjjfijcgpac
open Go.RowKit Go.Joins
theorem take_len (r : Rd) (n : Nat) : (r.take n).1.length ≤ n := by
  unfold Rd.take
  split
  · simp
  · rw [List.length_take]; omega
theorem take_bytes (r : Rd) (n : Nat) (h : ∀ x ∈ r.left, 0 ≤ x ∧ x ≤ 255) : ∀ x ∈ (r.take n).1, 0 ≤ x ∧ x ≤ 255 := by
  unfold Rd.take
  split
  · intro x hx; cases hx
  · intro x hx; exact h x (List.mem_of_mem_take hx)
theorem bval_snoc (bs : List Int) (b : Int) : bval (bs ++ [b]) = bval bs * 256 + b := by unfold bval; rw [List.foldl_append]; rfl
theorem bval_next {bs : List Int} {j : Nat} {b : Int} (h : bs[j]? = some b) : bval (bs.take (j + 1)) = bval (bs.take j) * 256 + b := by rw [List.take_add_one, h]; exact bval_snoc _ _
theorem bval_bd (bs : List Int) (h : ∀ x ∈ bs, 0 ≤ x ∧ x ≤ 255) : 0 ≤ bval bs ∧ bval bs < 256 ^ bs.length := by
  obtain ⟨n, hn⟩ : ∃ n, bs.length = n := ⟨_, rfl⟩
  induction n generalizing bs with
  | zero => obtain rfl := List.length_eq_zero_iff.1 hn; exact ⟨by decide, by decide⟩
  | succ n ih =>
    have hne : bs ≠ [] := by rintro rfl; simp at hn
    obtain ⟨cs, b, rfl⟩ : ∃ cs b, bs = cs ++ [b] := ⟨bs.dropLast, bs.getLast hne, (List.dropLast_concat_getLast hne).symm⟩
    have hc : cs.length = n := by simp at hn; exact hn
    obtain ⟨h1, h2⟩ := ih cs (fun x hx => h x (by simp [hx])) hc
    obtain ⟨b1, b2⟩ := h b (by simp)
    rw [bval_snoc, List.length_append, hc]
    rw [hc] at h2
    have e : (256 : Int) ^ (n + [b].length) = 256 ^ n * 256 := by simp [Int.pow_succ]
    rw [e]
    constructor <;> omega
theorem bval_64 (bs : List Int) (h : ∀ x ∈ bs, 0 ≤ x ∧ x ≤ 255) (k : Nat) (hk : bs.length ≤ k) : bval bs < 256 ^ k := by
  obtain ⟨_, h2⟩ := bval_bd bs h
  have h3 : 256 ^ bs.length ≤ 256 ^ k := Nat.pow_le_pow_right (by decide) hk
  have h4 : ((256 : Nat) : Int) ^ bs.length ≤ ((256 : Nat) : Int) ^ k := by rw [← Int.natCast_pow, ← Int.natCast_pow]; exact Int.ofNat_le.2 h3
  exact Int.lt_of_lt_of_le h2 h4
theorem or_byte (x b : Int) (h0 : 0 ≤ x) (h1 : x < 72057594037927936) (h2 : 0 ≤ b) (h3 : b ≤ 255) : bits .or .u64 (x * 256) b = x * 256 + b := by
  obtain ⟨a, rfl⟩ := Int.eq_ofNat_of_zero_le h0
  obtain ⟨c, rfl⟩ := Int.eq_ofNat_of_zero_le h2
  have e : ((a : Int) * 256) = ((a * 256 : Nat) : Int) := by simp
  rw [e, bits_or_u64_nat (a * 256) c (by omega) (by omega)]
  have h := Nat.shiftLeft_add_eq_or_of_lt (i := 8) (b := c) (by omega) a
  rw [Nat.shiftLeft_eq] at h
  rw [← h]
  simp
set_option maxHeartbeats 1000000 in
theorem number_any (B g : Nat) (r : Rd) (k : Nat) (w : World) (h : RdAt w B g r) (hk : k ≤ 8) :
    Calls Try.prog 42 #[.pointer (some ⟨g, 0, none⟩), .int .i64 k] w fun e w' => e = .returned (.int .i64 (r.num k).1) ∧ RdAt w' B g (r.num k).2 ∧ Only g w w' := by
  have HR : Hid (RdAt w B g r) := h
  have hby := take_bytes r k h.bytes
  have hle := take_len r k
  clear h
  go_enter Try.func42, Try.ntmps42
  go_wp2_with fail
  refine (take_any B g r k w HR.out (by omega)).mono ?_
  rintro e w1 ⟨v, rfl, hrd, hl, _, honly⟩
  obtain ⟨bs, hbs⟩ : ∃ bs, (r.take k).1 = bs := ⟨_, rfl⟩
  have hnum : (r.num k).1 = toI (bval bs) := by unfold Rd.num; rw [hbs]
  have HRD : Hid (RdAt w1 B g (r.num k).2) := hrd
  rw [hbs] at hl hby hle
  obtain ⟨aa, cp, rfl, hlen⟩ := hl.form
  have HL : Hid (ListAt w1 ucell 1 (.slice aa bs.length cp) bs) := hl
  have HBY : Hid _ := hby
  have HNUM : Hid _ := hnum
  have HON : Hid _ := honly
  unfold maxLen at hlen
  clear hrd hl hby hnum hbs honly
  go_wp2_with fail
  go_loopw [5, 12] (fun n u wr => ∃ j : Nat, j ≤ bs.length ∧ u = .int .i64 (j : Int) ∧ n = .int .u64 (bval (bs.take j)) ∧ wr = w1) (fun _ u _ => (bs.length - intOf u).toNat)
  case atStart => exact ⟨0, by omega, rfl, rfl, rfl⟩
  case round =>
    obtain ⟨j, j1, rfl, rfl, rfl⟩ := hrel
    by_cases hj : j < bs.length
    · obtain ⟨y, hy⟩ : ∃ y, bs[j]? = some y := ⟨_, List.getElem?_eq_getElem (by omega)⟩
      obtain ⟨bb, oo, cap, hv, c1, c2, c3, c4⟩ := HL.out.resolve_left (by rintro ⟨_, _, _, h⟩; subst h; simp at hj)
      cases hv
      have d0 := c4 j y hy 0 (.int .u8 y) rfl
      rw [Nat.mul_one, Nat.add_zero] at d0
      obtain ⟨y1, y2⟩ := HBY.out y (List.mem_of_getElem? hy)
      obtain ⟨x1, _⟩ := bval_bd (bs.take j) (fun x hx => HBY.out x (List.mem_of_mem_take hx))
      have x2 := bval_64 (bs.take j) (fun x hx => HBY.out x (List.mem_of_mem_take hx)) 7 (by rw [List.length_take]; omega)
      have x3 : bval (bs.take j) < 72057594037927936 := x2
      have HX : Hid _ := bval_next hy
      generalize bval (bs.take j) = x at *
      have e1 := or_byte x y x1 x3 y1 y2
      have e2 : IntKind.u64.wrap (x * 256) = x * 256 := by rw [IntKind.wrap_u64]; omega
      have e3 : IntKind.u64.wrap (x * 2 ^ 8) = x * 256 := by rw [IntKind.wrap_u64]; omega
      have hjj : (j : Int) < (bs.length : Int) := by omega
      clear c4 hy x2
      go_wp2
      go_roundw
      case rel => exact ⟨j + 1, by omega, by go_num, by rw [HX.out], trivial⟩
      case measure => simp [intOf]; omega
    · have hjl : j = bs.length := by omega
      obtain ⟨x1, _⟩ := bval_bd bs HBY.out
      have x2 := bval_64 bs HBY.out 8 (by omega)
      have x3 : bval bs < 18446744073709551616 := x2
      have ht : Hid (bval (bs.take j) = bval bs) := by show _ = _; rw [hjl, List.take_length]
      have hI : Hid (wrap64 (bval bs) = toI (bval bs)) := by show _ = _; unfold wrap64 toI; split <;> omega
      clear x2
      go_wp2
      go_ret
      exact ⟨by rw [HNUM.out, ← hI.out, ← ht.out]; rfl, HRD.out, HON.out⟩
end Go.Proofs.Ytmibbjjfijcgpac
