/-
  package step: (*machine).do, a kind at a time.
-/
import Derived.Test.YtechpdfcgimkkaaDoorMEC
import Derived.BigQuiet
import Derived.Deep.QuietTactic
import Derived.Deep.RegionWith
import Derived.Deep.RegionHeld3
namespace Go.Proofs.YtechpdfcgimkkaaDoor
open Go.RowKit Go.Joins Isa
set_option maxRecDepth 100000 in
set_option maxHeartbeats 2000000 in
theorem do_brno (w0 w : World) (B gm gd : Nat) (vT vI vO : Value) (s : Mc) (tabs : List (List Int)) (k : Int) (d a b n sz : Int) (l : Bool) (h : MSt w0 w B gm gd vT vI vO s) (hr : RegsOk s.rs) (hbd : BdOk d a b n s.pc sz) (k18 : 18 ≤ k) (k21 : k ≤ 21) (ht : takenB k (s.rs.getD a.toNat ⟨0, false⟩).n (s.rs.getD b.toNat ⟨0, false⟩).n = false) :
    Calls Tryd.prog 61 #[.pointer (some ⟨gm, 0, none⟩), .agg #[.int .i64 k, .int .i64 d, .int .i64 a, .int .i64 b, .int .i64 n, .bool l], .int .i64 sz] w fun e w' => e = .returned (.tuple #[]) ∧ ∃ vI' vO', MSt w0 w' B gm gd vT vI' vO' (doS tabs s k d a b n sz) := by
  obtain ⟨d0, d1, a0, a1, b0, b1, n0, n1, c0, c1, s0, s1⟩ := hbd
  obtain ⟨D, rfl⟩ := Int.eq_ofNat_of_zero_le d0
  obtain ⟨A, rfl⟩ := Int.eq_ofNat_of_zero_le a0
  obtain ⟨b', rfl⟩ := Int.eq_ofNat_of_zero_le b0
  have hm := h.mach
  obtain ⟨va, ra, p1, p2, p3, p4⟩ := hm.reg A (by omega)
  obtain ⟨vb, rb, q1, q2, q3, q4⟩ := hm.reg b' (by omega)
  obtain ⟨vd, rd, t1, t2, t3, t4⟩ := hm.reg D (by omega)
  obtain ⟨z0, z1, z2, z3, z4, z5⟩ := hm.rest
  obtain ⟨va0, va1⟩ := hr va (List.mem_of_getElem? ra)
  obtain ⟨vb0, vb1⟩ := hr vb (List.mem_of_getElem? rb)
  have ga : s.rs.getD ((A : Int)).toNat ⟨0, false⟩ = va := by rw [Int.toNat_natCast, List.getD_eq_getElem?_getD, ra]; rfl
  have gb : s.rs.getD ((b' : Int)).toNat ⟨0, false⟩ = vb := by rw [Int.toNat_natCast, List.getD_eq_getElem?_getD, rb]; rfl
  have hg := hm.lt
  have hl := hm.len
  have e5 : (k == 5) = false := by simp; omega
  have e6 : (k == 6) = false := by simp; omega
  have e14 : (k == 14) = false := by simp; omega
  have e15 : (k == 15) = false := by simp; omega
  have e16 : (k == 16) = false := by simp; omega
  have e17 : (k == 17) = false := by simp; omega
  have e22 : (k == 22) = false := by simp; omega
  have o1 : opB k = false := by unfold opB; simp; omega
  have o2 : brB k = true := by unfold brB; simp; omega
  have o3 : takenB k va.n vb.n = false := by rw [← ga, ← gb]; exact ht
  clear ht
  have HS : Hid (doS tabs s k D A b' n sz = ⟨s.rs, s.mem, s.ins, s.told, s.pc + sz⟩) := by show _ = _; simp only [doS]; rw [ga, gb, o3]; rw [if_neg (by omega), if_neg (by omega), o1, if_neg (by simp), if_neg (by omega), if_neg (by omega), if_neg (by omega), if_neg (by omega), o2]; simp
  have HH : Hid _ := h
  have HX : Hid _ := h.box
  clear h ra rb rd hm ga gb hr
  obtain ⟨rs, mem, ins, told, pc⟩ := s
  simp only at *
  obtain ⟨an, ac⟩ := va
  obtain ⟨bn, bc⟩ := vb
  obtain ⟨dn, dc⟩ := vd
  simp only at *
  go_enter Tryd.func61, Tryd.ntmps61
  go_wp2_with fail
  go_quiet (fail)
  go_wp2_with (first | (go_at_call 100; refine (isop_any _ _).mono ?_; rintro e w' ⟨rfl, rfl⟩) | (go_at_call 103; refine (isbr_any _ _).mono ?_; rintro e w' ⟨rfl, rfl⟩) | (go_at_call 104; refine (taken_any _ _ _ _).mono ?_; rintro e w' ⟨rfl, rfl⟩))
  all_goals
    go_wp2_with fail
    go_end0
    refine ⟨rfl, vI, vO, ?_⟩
    rw [HS.out]
    exact HH.out.at' _ (by repeat (first | with_reducible refine Chg.set ?_ _ _ | with_reducible refine Chg.alloc ?_ _ | with_reducible refine Chg.drewN ?_ _ | with_reducible refine Chg.drew ?_ | exact Chg.refl HX.out))
set_option maxRecDepth 100000 in
set_option maxHeartbeats 2000000 in
theorem do_bryes (w0 w : World) (B gm gd : Nat) (vT vI vO : Value) (s : Mc) (tabs : List (List Int)) (k : Int) (d a b n sz : Int) (l : Bool) (h : MSt w0 w B gm gd vT vI vO s) (hr : RegsOk s.rs) (hbd : BdOk d a b n s.pc sz) (k18 : 18 ≤ k) (k21 : k ≤ 21) (ht : takenB k (s.rs.getD a.toNat ⟨0, false⟩).n (s.rs.getD b.toNat ⟨0, false⟩).n = true) :
    Calls Tryd.prog 61 #[.pointer (some ⟨gm, 0, none⟩), .agg #[.int .i64 k, .int .i64 d, .int .i64 a, .int .i64 b, .int .i64 n, .bool l], .int .i64 sz] w fun e w' => e = .returned (.tuple #[]) ∧ ∃ vI' vO', MSt w0 w' B gm gd vT vI' vO' (doS tabs s k d a b n sz) := by
  obtain ⟨d0, d1, a0, a1, b0, b1, n0, n1, c0, c1, s0, s1⟩ := hbd
  obtain ⟨D, rfl⟩ := Int.eq_ofNat_of_zero_le d0
  obtain ⟨A, rfl⟩ := Int.eq_ofNat_of_zero_le a0
  obtain ⟨b', rfl⟩ := Int.eq_ofNat_of_zero_le b0
  have hm := h.mach
  obtain ⟨va, ra, p1, p2, p3, p4⟩ := hm.reg A (by omega)
  obtain ⟨vb, rb, q1, q2, q3, q4⟩ := hm.reg b' (by omega)
  obtain ⟨vd, rd, t1, t2, t3, t4⟩ := hm.reg D (by omega)
  obtain ⟨z0, z1, z2, z3, z4, z5⟩ := hm.rest
  obtain ⟨va0, va1⟩ := hr va (List.mem_of_getElem? ra)
  obtain ⟨vb0, vb1⟩ := hr vb (List.mem_of_getElem? rb)
  have ga : s.rs.getD ((A : Int)).toNat ⟨0, false⟩ = va := by rw [Int.toNat_natCast, List.getD_eq_getElem?_getD, ra]; rfl
  have gb : s.rs.getD ((b' : Int)).toNat ⟨0, false⟩ = vb := by rw [Int.toNat_natCast, List.getD_eq_getElem?_getD, rb]; rfl
  have hg := hm.lt
  have hl := hm.len
  have e5 : (k == 5) = false := by simp; omega
  have e6 : (k == 6) = false := by simp; omega
  have e14 : (k == 14) = false := by simp; omega
  have e15 : (k == 15) = false := by simp; omega
  have e16 : (k == 16) = false := by simp; omega
  have e17 : (k == 17) = false := by simp; omega
  have e22 : (k == 22) = false := by simp; omega
  have o1 : opB k = false := by unfold opB; simp; omega
  have o2 : brB k = true := by unfold brB; simp; omega
  have o3 : takenB k va.n vb.n = true := by rw [← ga, ← gb]; exact ht
  clear ht
  have HS : Hid (doS tabs s k D A b' n sz = ⟨s.rs, s.mem, s.ins, s.told, s.pc + n⟩) := by show _ = _; simp only [doS]; rw [ga, gb, o3]; rw [if_neg (by omega), if_neg (by omega), o1, if_neg (by simp), if_neg (by omega), if_neg (by omega), if_neg (by omega), if_neg (by omega), o2]; simp
  have HH : Hid _ := h
  have HX : Hid _ := h.box
  clear h ra rb rd hm ga gb hr
  obtain ⟨rs, mem, ins, told, pc⟩ := s
  simp only at *
  obtain ⟨an, ac⟩ := va
  obtain ⟨bn, bc⟩ := vb
  obtain ⟨dn, dc⟩ := vd
  simp only at *
  go_enter Tryd.func61, Tryd.ntmps61
  go_wp2_with fail
  go_quiet (fail)
  go_wp2_with (first | (go_at_call 100; refine (isop_any _ _).mono ?_; rintro e w' ⟨rfl, rfl⟩) | (go_at_call 103; refine (isbr_any _ _).mono ?_; rintro e w' ⟨rfl, rfl⟩) | (go_at_call 104; refine (taken_any _ _ _ _).mono ?_; rintro e w' ⟨rfl, rfl⟩))
  go_quiet (fail)
  all_goals
    go_wp2_with fail
    go_end0
    refine ⟨rfl, vI, vO, ?_⟩
    rw [HS.out]
    exact HH.out.at' _ (by repeat (first | with_reducible refine Chg.set ?_ _ _ | with_reducible refine Chg.alloc ?_ _ | with_reducible refine Chg.drewN ?_ _ | with_reducible refine Chg.drew ?_ | exact Chg.refl HX.out))
set_option maxRecDepth 100000 in
set_option maxHeartbeats 2000000 in
theorem do_jump (w0 w : World) (B gm gd : Nat) (vT vI vO : Value) (s : Mc) (tabs : List (List Int)) (d a b n sz : Int) (l : Bool) (h : MSt w0 w B gm gd vT vI vO s) (hr : RegsOk s.rs) (hbd : BdOk d a b n s.pc sz) :
    Calls Tryd.prog 61 #[.pointer (some ⟨gm, 0, none⟩), .agg #[.int .i64 22, .int .i64 d, .int .i64 a, .int .i64 b, .int .i64 n, .bool l], .int .i64 sz] w fun e w' => e = .returned (.tuple #[]) ∧ ∃ vI' vO', MSt w0 w' B gm gd vT vI' vO' (doS tabs s 22 d a b n sz) := by
  obtain ⟨d0, d1, a0, a1, b0, b1, n0, n1, c0, c1, s0, s1⟩ := hbd
  obtain ⟨D, rfl⟩ := Int.eq_ofNat_of_zero_le d0
  obtain ⟨A, rfl⟩ := Int.eq_ofNat_of_zero_le a0
  obtain ⟨b', rfl⟩ := Int.eq_ofNat_of_zero_le b0
  have hm := h.mach
  obtain ⟨va, ra, p1, p2, p3, p4⟩ := hm.reg A (by omega)
  obtain ⟨vb, rb, q1, q2, q3, q4⟩ := hm.reg b' (by omega)
  obtain ⟨vd, rd, t1, t2, t3, t4⟩ := hm.reg D (by omega)
  obtain ⟨z0, z1, z2, z3, z4, z5⟩ := hm.rest
  obtain ⟨va0, va1⟩ := hr va (List.mem_of_getElem? ra)
  obtain ⟨vb0, vb1⟩ := hr vb (List.mem_of_getElem? rb)
  have ga : s.rs.getD ((A : Int)).toNat ⟨0, false⟩ = va := by rw [Int.toNat_natCast, List.getD_eq_getElem?_getD, ra]; rfl
  have gb : s.rs.getD ((b' : Int)).toNat ⟨0, false⟩ = vb := by rw [Int.toNat_natCast, List.getD_eq_getElem?_getD, rb]; rfl
  have hg := hm.lt
  have hl := hm.len
  have o1 : opB 22 = false := by decide
  have o2 : brB 22 = false := by decide
  have HS : Hid (doS tabs s 22 D A b' n sz = ⟨s.rs, s.mem, s.ins, s.told, s.pc + n⟩) := by show _ = _; simp [doS, o1, o2]
  have HH : Hid _ := h
  have HX : Hid _ := h.box
  clear h ra rb rd hm ga gb hr
  obtain ⟨rs, mem, ins, told, pc⟩ := s
  simp only at *
  obtain ⟨an, ac⟩ := va
  obtain ⟨bn, bc⟩ := vb
  obtain ⟨dn, dc⟩ := vd
  simp only at *
  go_enter Tryd.func61, Tryd.ntmps61
  go_wp2_with fail
  go_quiet (fail)
  go_wp2_with (first | (go_at_call 100; refine (isop_any _ _).mono ?_; rintro e w' ⟨rfl, rfl⟩) | (go_at_call 103; refine (isbr_any _ _).mono ?_; rintro e w' ⟨rfl, rfl⟩) | (go_at_call 104; refine (taken_any _ _ _ _).mono ?_; rintro e w' ⟨rfl, rfl⟩))
  go_quiet (fail)
  all_goals
    go_wp2_with fail
    go_end0
    refine ⟨rfl, vI, vO, ?_⟩
    rw [HS.out]
    exact HH.out.at' _ (by repeat (first | with_reducible refine Chg.set ?_ _ _ | with_reducible refine Chg.alloc ?_ _ | with_reducible refine Chg.drewN ?_ _ | with_reducible refine Chg.drew ?_ | exact Chg.refl HX.out))
end Go.Proofs.YtechpdfcgimkkaaDoor
/-
  package step: (*machine).do, a kind at a time.
-/
namespace Go.Proofs.YtechpdfcgimkkaaDoor
open Go.RowKit Go.Joins Isa
set_option maxRecDepth 100000 in
set_option maxHeartbeats 2000000 in
theorem do_ret (w0 w : World) (B gm gd : Nat) (vT vI vO : Value) (s : Mc) (tabs : List (List Int)) (d a b n sz : Int) (l : Bool) (h : MSt w0 w B gm gd vT vI vO s) (hr : RegsOk s.rs) (hbd : BdOk d a b n s.pc sz) :
    Calls Tryd.prog 61 #[.pointer (some ⟨gm, 0, none⟩), .agg #[.int .i64 3, .int .i64 d, .int .i64 a, .int .i64 b, .int .i64 n, .bool l], .int .i64 sz] w fun e w' => e = .returned (.tuple #[]) ∧ ∃ vI' vO', MSt w0 w' B gm gd vT vI' vO' (doS tabs s 3 d a b n sz) := by
  obtain ⟨d0, d1, a0, a1, b0, b1, n0, n1, c0, c1, s0, s1⟩ := hbd
  obtain ⟨D, rfl⟩ := Int.eq_ofNat_of_zero_le d0
  obtain ⟨A, rfl⟩ := Int.eq_ofNat_of_zero_le a0
  obtain ⟨b', rfl⟩ := Int.eq_ofNat_of_zero_le b0
  have hm := h.mach
  obtain ⟨va, ra, p1, p2, p3, p4⟩ := hm.reg A (by omega)
  obtain ⟨vb, rb, q1, q2, q3, q4⟩ := hm.reg b' (by omega)
  obtain ⟨vd, rd, t1, t2, t3, t4⟩ := hm.reg D (by omega)
  obtain ⟨z0, z1, z2, z3, z4, z5⟩ := hm.rest
  obtain ⟨va0, va1⟩ := hr va (List.mem_of_getElem? ra)
  obtain ⟨vb0, vb1⟩ := hr vb (List.mem_of_getElem? rb)
  have ga : s.rs.getD ((A : Int)).toNat ⟨0, false⟩ = va := by rw [Int.toNat_natCast, List.getD_eq_getElem?_getD, ra]; rfl
  have gb : s.rs.getD ((b' : Int)).toNat ⟨0, false⟩ = vb := by rw [Int.toNat_natCast, List.getD_eq_getElem?_getD, rb]; rfl
  have hg := hm.lt
  have hl := hm.len
  have o1 : opB 3 = false := by decide
  have o2 : brB 3 = false := by decide
  obtain ⟨v7, r7, y1, y2, y3, y4⟩ := hm.reg 7 (by omega)
  have g7 : s.rs.getD 7 ⟨0, false⟩ = v7 := by rw [List.getD_eq_getElem?_getD, r7]; rfl
  have HS : Hid (doS tabs s 3 D A b' n sz = ⟨s.rs, s.mem, s.ins, s.told, v7.n⟩) := by show _ = _; rw [← g7]; simp [doS, o1, o2]
  clear r7 g7
  have HH : Hid _ := h
  have HX : Hid _ := h.box
  clear h ra rb rd hm ga gb hr
  obtain ⟨rs, mem, ins, told, pc⟩ := s
  simp only at *
  obtain ⟨an, ac⟩ := va
  obtain ⟨bn, bc⟩ := vb
  obtain ⟨dn, dc⟩ := vd
  simp only at *
  go_enter Tryd.func61, Tryd.ntmps61
  go_wp2_with fail
  go_quiet (fail)
  go_wp2_with (first | (go_at_call 100; refine (isop_any _ _).mono ?_; rintro e w' ⟨rfl, rfl⟩) | (go_at_call 103; refine (isbr_any _ _).mono ?_; rintro e w' ⟨rfl, rfl⟩) | (go_at_call 104; refine (taken_any _ _ _ _).mono ?_; rintro e w' ⟨rfl, rfl⟩))
  all_goals
    go_wp2_with fail
    go_end0
    refine ⟨rfl, vI, vO, ?_⟩
    rw [HS.out]
    exact HH.out.at' _ (by repeat (first | with_reducible refine Chg.set ?_ _ _ | with_reducible refine Chg.alloc ?_ _ | with_reducible refine Chg.drewN ?_ _ | with_reducible refine Chg.drew ?_ | exact Chg.refl HX.out))
set_option maxRecDepth 100000 in
set_option maxHeartbeats 2000000 in
theorem do_call (w0 w : World) (B gm gd : Nat) (vT vI vO : Value) (s : Mc) (tabs : List (List Int)) (d a b n sz : Int) (l : Bool) (h : MSt w0 w B gm gd vT vI vO s) (hr : RegsOk s.rs) (hbd : BdOk d a b n s.pc sz) :
    Calls Tryd.prog 61 #[.pointer (some ⟨gm, 0, none⟩), .agg #[.int .i64 23, .int .i64 d, .int .i64 a, .int .i64 b, .int .i64 n, .bool l], .int .i64 sz] w fun e w' => e = .returned (.tuple #[]) ∧ ∃ vI' vO', MSt w0 w' B gm gd vT vI' vO' (doS tabs s 23 d a b n sz) := by
  obtain ⟨d0, d1, a0, a1, b0, b1, n0, n1, c0, c1, s0, s1⟩ := hbd
  obtain ⟨D, rfl⟩ := Int.eq_ofNat_of_zero_le d0
  obtain ⟨A, rfl⟩ := Int.eq_ofNat_of_zero_le a0
  obtain ⟨b', rfl⟩ := Int.eq_ofNat_of_zero_le b0
  have hm := h.mach
  obtain ⟨va, ra, p1, p2, p3, p4⟩ := hm.reg A (by omega)
  obtain ⟨vb, rb, q1, q2, q3, q4⟩ := hm.reg b' (by omega)
  obtain ⟨vd, rd, t1, t2, t3, t4⟩ := hm.reg D (by omega)
  obtain ⟨z0, z1, z2, z3, z4, z5⟩ := hm.rest
  obtain ⟨va0, va1⟩ := hr va (List.mem_of_getElem? ra)
  obtain ⟨vb0, vb1⟩ := hr vb (List.mem_of_getElem? rb)
  have ga : s.rs.getD ((A : Int)).toNat ⟨0, false⟩ = va := by rw [Int.toNat_natCast, List.getD_eq_getElem?_getD, ra]; rfl
  have gb : s.rs.getD ((b' : Int)).toNat ⟨0, false⟩ = vb := by rw [Int.toNat_natCast, List.getD_eq_getElem?_getD, rb]; rfl
  have hg := hm.lt
  have hl := hm.len
  have o1 : opB 23 = false := by decide
  have o2 : brB 23 = false := by decide
  obtain ⟨v7, r7, y1, y2, y3, y4⟩ := hm.reg 7 (by omega)
  have HS : Hid (doS tabs s 23 D A b' n sz = ⟨s.rs.set 7 ⟨s.pc + sz, true⟩, s.mem, s.ins, s.told, s.pc + n⟩) := by show _ = _; simp [doS, o1, o2]
  clear r7
  have HH : Hid _ := h
  have HX : Hid _ := h.box
  clear h ra rb rd hm ga gb hr
  obtain ⟨rs, mem, ins, told, pc⟩ := s
  simp only at *
  obtain ⟨an, ac⟩ := va
  obtain ⟨bn, bc⟩ := vb
  obtain ⟨dn, dc⟩ := vd
  simp only at *
  go_enter Tryd.func61, Tryd.ntmps61
  go_wp2_with fail
  go_quiet (fail)
  go_wp2_with (first | (go_at_call 100; refine (isop_any _ _).mono ?_; rintro e w' ⟨rfl, rfl⟩) | (go_at_call 103; refine (isbr_any _ _).mono ?_; rintro e w' ⟨rfl, rfl⟩) | (go_at_call 104; refine (taken_any _ _ _ _).mono ?_; rintro e w' ⟨rfl, rfl⟩))
  go_region_with (first | (go_at_call 105; refine (address_x _ _).mono ?_; rintro e w' ⟨rfl, rfl⟩))
  all_goals (go_wp2_with fail; go_quiet (fail))
  all_goals
    go_wp2_with fail
    go_end0
    refine ⟨rfl, vI, vO, ?_⟩
    rw [HS.out]
    exact HH.out.reg 7 (by omega) ⟨pc + sz, true⟩ _ (by repeat (first | with_reducible refine Chg.set ?_ _ _ | with_reducible refine Chg.alloc ?_ _ | with_reducible refine Chg.drewN ?_ _ | with_reducible refine Chg.drew ?_ | exact Chg.refl HX.out))
end Go.Proofs.YtechpdfcgimkkaaDoor
/-
  package step: (*machine).do, a kind at a time.
-/
namespace Go.Proofs.YtechpdfcgimkkaaDoor
open Go.RowKit Go.Joins Isa
set_option maxRecDepth 100000 in
set_option maxHeartbeats 2000000 in
theorem do_op (w0 w : World) (B gm gd : Nat) (vT vI vO : Value) (s : Mc) (tabs : List (List Int)) (k : Int) (d a b n sz : Int) (l : Bool) (h : MSt w0 w B gm gd vT vI vO s) (hr : RegsOk s.rs) (hbd : BdOk d a b n s.pc sz) (k7 : 7 ≤ k) (k13 : k ≤ 13) :
    Calls Tryd.prog 61 #[.pointer (some ⟨gm, 0, none⟩), .agg #[.int .i64 k, .int .i64 d, .int .i64 a, .int .i64 b, .int .i64 n, .bool l], .int .i64 sz] w fun e w' => e = .returned (.tuple #[]) ∧ ∃ vI' vO', MSt w0 w' B gm gd vT vI' vO' (doS tabs s k d a b n sz) := by
  obtain ⟨d0, d1, a0, a1, b0, b1, n0, n1, c0, c1, s0, s1⟩ := hbd
  obtain ⟨D, rfl⟩ := Int.eq_ofNat_of_zero_le d0
  obtain ⟨A, rfl⟩ := Int.eq_ofNat_of_zero_le a0
  obtain ⟨b', rfl⟩ := Int.eq_ofNat_of_zero_le b0
  have hm := h.mach
  obtain ⟨va, ra, p1, p2, p3, p4⟩ := hm.reg A (by omega)
  obtain ⟨vb, rb, q1, q2, q3, q4⟩ := hm.reg b' (by omega)
  obtain ⟨vd, rd, t1, t2, t3, t4⟩ := hm.reg D (by omega)
  obtain ⟨z0, z1, z2, z3, z4, z5⟩ := hm.rest
  obtain ⟨va0, va1⟩ := hr va (List.mem_of_getElem? ra)
  obtain ⟨vb0, vb1⟩ := hr vb (List.mem_of_getElem? rb)
  have ga : s.rs.getD ((A : Int)).toNat ⟨0, false⟩ = va := by rw [Int.toNat_natCast, List.getD_eq_getElem?_getD, ra]; rfl
  have gb : s.rs.getD ((b' : Int)).toNat ⟨0, false⟩ = vb := by rw [Int.toNat_natCast, List.getD_eq_getElem?_getD, rb]; rfl
  have hg := hm.lt
  have hl := hm.len
  have e5 : (k == 5) = false := by simp; omega
  have e6 : (k == 6) = false := by simp; omega
  have o1 : opB k = true := by unfold opB; simp; omega
  have HS : Hid (doS tabs s k D A b' n sz = ⟨s.rs.set D ⟨operN k va.n vb.n, false⟩, s.mem, s.ins, s.told, s.pc + sz⟩) := by show _ = _; simp only [doS]; rw [ga, gb, o1, if_neg (by omega), if_neg (by omega)]; simp
  have HH : Hid _ := h
  have HX : Hid _ := h.box
  clear h ra rb rd hm ga gb hr
  obtain ⟨rs, mem, ins, told, pc⟩ := s
  simp only at *
  obtain ⟨an, ac⟩ := va
  obtain ⟨bn, bc⟩ := vb
  obtain ⟨dn, dc⟩ := vd
  simp only at *
  go_enter Tryd.func61, Tryd.ntmps61
  go_wp2_with fail
  go_quiet (fail)
  go_wp2_with (first | (go_at_call 100; refine (isop_any _ _).mono ?_; rintro e w' ⟨rfl, rfl⟩) | (go_at_call 103; refine (isbr_any _ _).mono ?_; rintro e w' ⟨rfl, rfl⟩) | (go_at_call 104; refine (taken_any _ _ _ _).mono ?_; rintro e w' ⟨rfl, rfl⟩))
  generalize hop : operN k an bn = on at *
  go_region_with (first | (go_at_call 101; refine (operate_any k an bn _ k7 k13 va0 va1 vb0 vb1).mono ?_; rw [hop]; rintro e w' ⟨rfl, m, rfl⟩) | (go_at_call 92; refine (number_x _ _).mono ?_; rintro e w' ⟨rfl, rfl⟩))
  all_goals
    go_wp2_with fail
    go_end0
    refine ⟨rfl, vI, vO, ?_⟩
    rw [HS.out]
    exact HH.out.reg D (by omega) ⟨on, false⟩ _ (by repeat (first | with_reducible refine Chg.set ?_ _ _ | with_reducible refine Chg.alloc ?_ _ | with_reducible refine Chg.drewN ?_ _ | with_reducible refine Chg.drew ?_ | exact Chg.refl HX.out))
end Go.Proofs.YtechpdfcgimkkaaDoor
