/-
  boltholeref's tape: num.
-/
import Derived.Test.YtmibbjjfijcgpacWalkTp
import Derived.Deep.QuietTactic
import Derived.BigQuiet
namespace Go.Proofs.Ytmibbjjfijcgpac
open Go.RowKit Go.Joins
theorem sval_next {s : Int} {bs : List Int} {j : Nat} {b : Int} (h : bs[j]? = some b) : sval s (bs.take (j + 1)) = sval s (bs.take j) * 256 + b := by rw [List.take_add_one, h]; unfold sval; rw [List.foldl_append]; rfl
set_option maxHeartbeats 2000000 in
theorem tnum_any (B g : Nat) (bs : List Int) (r : Rd) (k : Nat) (w : World) (h : TpAt w B g bs r) (hk : k = 1 ∨ k = 2 ∨ k = 8) :
    Calls Try.prog 31 #[.pointer (some ⟨g, 0, none⟩), .int .i64 k] w fun e w' => e = .returned (.int .i64 (r.num k).1) ∧ TpAt w' B g bs (r.num k).2 ∧ FrG g w w' := by
  have HR : Hid (TpAt w B g bs r) := h
  have hby := take_bytes r k h.byt
  have hle := take_len2 r k
  clear h
  go_enter Try.func31, Try.ntmps31
  go_wp2_with fail
  refine (next_any B g bs r k w HR.out (by omega)).mono ?_
  rintro e w1 ⟨aa, ll, cp, rfl, htp, hl, _, hfr⟩
  obtain ⟨cs, hcs⟩ : ∃ cs, (r.take k).1 = cs := ⟨_, rfl⟩
  have hnum : (r.num k).1 = toI (bval cs) := by unfold Rd.num; rw [hcs]
  have HTP : Hid (TpAt w1 B g bs (r.num k).2) := htp
  rw [hcs] at hl hby hle
  obtain ⟨_, _, hv, hlen⟩ := hl.form
  cases hv
  have hl8 : cs.length = 0 ∨ cs.length = 1 ∨ cs.length = 2 ∨ cs.length = 8 := by omega
  obtain ⟨sv1, sv2⟩ := sval_ok cs hby hl8
  have HL : Hid (ListAt w1 ucell 1 (.slice aa cs.length cp) cs) := hl
  have HBY : Hid _ := hby
  have HNUM : Hid _ := hnum.trans sv2.symm
  have HFR : Hid _ := hfr
  have HSV : Hid _ := sv1
  unfold maxLen at hlen
  clear htp hl hby hnum hcs hfr sv1 sv2
  by_cases h8 : cs.length = 8
  · obtain ⟨y, hy⟩ : ∃ y, cs[0]? = some y := ⟨_, List.getElem?_eq_getElem (by omega)⟩
    obtain ⟨bb, oo, cap, hv, c1, c2, c3, c4⟩ := HL.out.resolve_left (by rintro ⟨_, _, _, h⟩; subst h; simp at h8)
    cases hv
    have d0 := c4 0 y hy 0 (.int .u8 y) rfl
    rw [Nat.zero_mul, Nat.add_zero] at d0
    have hhd : cs.headD 0 = y := by cases cs with | nil => simp at h8 | cons a t => simpa using hy
    have hi8 : (cs.length : Int) = 8 := by omega
    clear c4
    have hz : 0 < cs.length := by omega
    have hzi : (0 : Int) < (cs.length : Int) := by omega
    by_cases q : 128 ≤ y
    · have hs : Hid (sgn cs = -1) := by show _ = _; unfold sgn; rw [if_pos ⟨h8, by rw [hhd]; exact q⟩]
      clear hhd hy
      go_wp2_with fail
      go_loopw [6, 7] (fun n u wr => ∃ j : Nat, j ≤ cs.length ∧ u = .int .i64 (j : Int) ∧ n = .int .i64 (sval (sgn cs) (cs.take j)) ∧ wr = w1) (fun _ u _ => (cs.length - intOf u).toNat)
      case atStart => exact ⟨0, by omega, rfl, by rw [hs.out]; rfl, rfl⟩
      case round =>
        obtain ⟨j, j1, rfl, rfl, rfl⟩ := hrel
        by_cases hj : j < cs.length
        · obtain ⟨y, hy⟩ : ∃ y, cs[j]? = some y := ⟨_, List.getElem?_eq_getElem (by omega)⟩
          obtain ⟨bb, oo, cap, hv, c1, c2, c3, c4⟩ := HL.out.resolve_left (by rintro ⟨_, _, _, h⟩; subst h; simp at hj)
          cases hv
          have d0 := c4 j y hy 0 (.int .u8 y) rfl
          rw [Nat.mul_one, Nat.add_zero] at d0
          obtain ⟨y1, y2⟩ := HBY.out y (List.mem_of_getElem? hy)
          obtain ⟨x1, x2⟩ := HSV.out j hj
          have HX : Hid _ := sval_next (s := sgn cs) hy
          generalize sval (sgn cs) (cs.take j) = x at *
          have hjj : (j : Int) < (8 : Int) := by omega
          clear c4 hy
          go_wp2
          go_roundw
          case rel => exact ⟨j + 1, by omega, by go_num, by rw [HX.out], trivial⟩
          case measure => simp [intOf]; omega
        · have hjl : j = cs.length := by omega
          have ht : Hid (∀ i, i = cs.length → sval (sgn cs) (cs.take i) = sval (sgn cs) cs) := fun i hi => by rw [hi, List.take_length]
          have hjj : ¬ (j : Int) < (8 : Int) := by omega
          go_wp2
          go_ret
          exact ⟨by rw [HNUM.out, ← ht.out 8 (by omega)]; rfl, HTP.out, HFR.out⟩
    · have hs : Hid (sgn cs = 0) := by show _ = _; unfold sgn; rw [if_neg (fun h => q (by rw [← hhd]; exact h.2))]
      clear hhd hy
      go_wp2_with fail
      go_loopw [6, 7] (fun n u wr => ∃ j : Nat, j ≤ cs.length ∧ u = .int .i64 (j : Int) ∧ n = .int .i64 (sval (sgn cs) (cs.take j)) ∧ wr = w1) (fun _ u _ => (cs.length - intOf u).toNat)
      case atStart => exact ⟨0, by omega, rfl, by rw [hs.out]; rfl, rfl⟩
      case round =>
        obtain ⟨j, j1, rfl, rfl, rfl⟩ := hrel
        by_cases hj : j < cs.length
        · obtain ⟨y, hy⟩ : ∃ y, cs[j]? = some y := ⟨_, List.getElem?_eq_getElem (by omega)⟩
          obtain ⟨bb, oo, cap, hv, c1, c2, c3, c4⟩ := HL.out.resolve_left (by rintro ⟨_, _, _, h⟩; subst h; simp at hj)
          cases hv
          have d0 := c4 j y hy 0 (.int .u8 y) rfl
          rw [Nat.mul_one, Nat.add_zero] at d0
          obtain ⟨y1, y2⟩ := HBY.out y (List.mem_of_getElem? hy)
          obtain ⟨x1, x2⟩ := HSV.out j hj
          have HX : Hid _ := sval_next (s := sgn cs) hy
          generalize sval (sgn cs) (cs.take j) = x at *
          have hjj : (j : Int) < (8 : Int) := by omega
          clear c4 hy
          go_wp2
          go_roundw
          case rel => exact ⟨j + 1, by omega, by go_num, by rw [HX.out], trivial⟩
          case measure => simp [intOf]; omega
        · have hjl : j = cs.length := by omega
          have ht : Hid (∀ i, i = cs.length → sval (sgn cs) (cs.take i) = sval (sgn cs) cs) := fun i hi => by rw [hi, List.take_length]
          have hjj : ¬ (j : Int) < (8 : Int) := by omega
          go_wp2
          go_ret
          exact ⟨by rw [HNUM.out, ← ht.out 8 (by omega)]; rfl, HTP.out, HFR.out⟩
  · have hs : Hid (sgn cs = 0) := by show _ = _; unfold sgn; rw [if_neg (fun h => h8 h.1)]
    have h8i : ¬ (cs.length : Int) = 8 := by omega
    go_wp2_with fail
    go_loopw [6, 7] (fun n u wr => ∃ j : Nat, j ≤ cs.length ∧ u = .int .i64 (j : Int) ∧ n = .int .i64 (sval (sgn cs) (cs.take j)) ∧ wr = w1) (fun _ u _ => (cs.length - intOf u).toNat)
    case atStart => exact ⟨0, by omega, rfl, by rw [hs.out]; rfl, rfl⟩
    case round =>
      obtain ⟨j, j1, rfl, rfl, rfl⟩ := hrel
      by_cases hj : j < cs.length
      · obtain ⟨y, hy⟩ : ∃ y, cs[j]? = some y := ⟨_, List.getElem?_eq_getElem (by omega)⟩
        obtain ⟨bb, oo, cap, hv, c1, c2, c3, c4⟩ := HL.out.resolve_left (by rintro ⟨_, _, _, h⟩; subst h; simp at hj)
        cases hv
        have d0 := c4 j y hy 0 (.int .u8 y) rfl
        rw [Nat.mul_one, Nat.add_zero] at d0
        obtain ⟨y1, y2⟩ := HBY.out y (List.mem_of_getElem? hy)
        obtain ⟨x1, x2⟩ := HSV.out j hj
        have HX : Hid _ := sval_next (s := sgn cs) hy
        generalize sval (sgn cs) (cs.take j) = x at *
        have hjj : (j : Int) < (cs.length : Int) := by omega
        clear c4 hy
        go_wp2
        go_roundw
        case rel => exact ⟨j + 1, by omega, by go_num, by rw [HX.out], trivial⟩
        case measure => simp [intOf]; omega
      · have hjl : j = cs.length := by omega
        have ht : Hid (∀ i, i = cs.length → sval (sgn cs) (cs.take i) = sval (sgn cs) cs) := fun i hi => by rw [hi, List.take_length]
        have hjj : ¬ (j : Int) < (cs.length : Int) := by omega
        go_wp2
        go_ret
        exact ⟨by rw [HNUM.out, ← ht.out j hjl]; rfl, HTP.out, HFR.out⟩
end Go.Proofs.Ytmibbjjfijcgpac
