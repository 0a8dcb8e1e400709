/-
  package step: (*machine).do, a kind at a time.
-/
import Derived.Test.YtechpdfcgimkkaaDoorMEC
import Derived.BigQuiet
import Derived.Deep.QuietTactic
import Derived.Deep.RegionWith
import Derived.Deep.RegionHeld3
namespace Go.Proofs.YtechpdfcgimkkaaDoor
open Go.RowKit Go.Joins Isa
set_option maxRecDepth 100000 in
set_option maxHeartbeats 2000000 in
theorem do_li (w0 w : World) (B gm gd : Nat) (vT vI vO : Value) (s : Mc) (tabs : List (List Int)) (d a b n sz : Int) (l : Bool) (h : MSt w0 w B gm gd vT vI vO s) (hr : RegsOk s.rs) (hbd : BdOk d a b n s.pc sz) :
    Calls Tryd.prog 61 #[.pointer (some ⟨gm, 0, none⟩), .agg #[.int .i64 5, .int .i64 d, .int .i64 a, .int .i64 b, .int .i64 n, .bool l], .int .i64 sz] w fun e w' => e = .returned (.tuple #[]) ∧ ∃ vI' vO', MSt w0 w' B gm gd vT vI' vO' (doS tabs s 5 d a b n sz) := by
  obtain ⟨d0, d1, a0, a1, b0, b1, n0, n1, c0, c1, s0, s1⟩ := hbd
  obtain ⟨D, rfl⟩ := Int.eq_ofNat_of_zero_le d0
  obtain ⟨A, rfl⟩ := Int.eq_ofNat_of_zero_le a0
  obtain ⟨b', rfl⟩ := Int.eq_ofNat_of_zero_le b0
  have hm := h.mach
  obtain ⟨va, ra, p1, p2, p3, p4⟩ := hm.reg A (by omega)
  obtain ⟨vb, rb, q1, q2, q3, q4⟩ := hm.reg b' (by omega)
  obtain ⟨vd, rd, t1, t2, t3, t4⟩ := hm.reg D (by omega)
  obtain ⟨z0, z1, z2, z3, z4, z5⟩ := hm.rest
  obtain ⟨va0, va1⟩ := hr va (List.mem_of_getElem? ra)
  obtain ⟨vb0, vb1⟩ := hr vb (List.mem_of_getElem? rb)
  have ga : s.rs.getD ((A : Int)).toNat ⟨0, false⟩ = va := by rw [Int.toNat_natCast, List.getD_eq_getElem?_getD, ra]; rfl
  have gb : s.rs.getD ((b' : Int)).toNat ⟨0, false⟩ = vb := by rw [Int.toNat_natCast, List.getD_eq_getElem?_getD, rb]; rfl
  have hg := hm.lt
  have hl := hm.len
  have HS : Hid (doS tabs s 5 D A b' n sz = ⟨s.rs.set D ⟨n, false⟩, s.mem, s.ins, s.told, s.pc + sz⟩) := by show _ = _; simp [doS]
  have HH : Hid _ := h
  have HX : Hid _ := h.box
  clear h ra rb rd hm ga gb hr
  obtain ⟨rs, mem, ins, told, pc⟩ := s
  simp only at *
  obtain ⟨an, ac⟩ := va
  obtain ⟨bn, bc⟩ := vb
  obtain ⟨dn, dc⟩ := vd
  simp only at *
  go_enter Tryd.func61, Tryd.ntmps61
  go_wp2_with fail
  go_quiet (fail)
  go_wp2_with (first | (go_at_call 100; refine (isop_any _ _).mono ?_; rintro e w' ⟨rfl, rfl⟩) | (go_at_call 103; refine (isbr_any _ _).mono ?_; rintro e w' ⟨rfl, rfl⟩) | (go_at_call 104; refine (taken_any _ _ _ _).mono ?_; rintro e w' ⟨rfl, rfl⟩))
  go_region_with (first | (go_at_call 92; refine (number_x _ _).mono ?_; rintro e w' ⟨rfl, rfl⟩))
  all_goals
    go_wp2_with fail
    go_end0
    refine ⟨rfl, vI, vO, ?_⟩
    rw [HS.out]
    exact HH.out.reg D (by omega) ⟨n, false⟩ _ (by repeat (first | with_reducible refine Chg.set ?_ _ _ | with_reducible refine Chg.alloc ?_ _ | with_reducible refine Chg.drewN ?_ _ | with_reducible refine Chg.drew ?_ | exact Chg.refl HX.out))
set_option maxRecDepth 100000 in
set_option maxHeartbeats 2000000 in
theorem do_nop (w0 w : World) (B gm gd : Nat) (vT vI vO : Value) (s : Mc) (tabs : List (List Int)) (d a b n sz : Int) (l : Bool) (h : MSt w0 w B gm gd vT vI vO s) (hr : RegsOk s.rs) (hbd : BdOk d a b n s.pc sz) :
    Calls Tryd.prog 61 #[.pointer (some ⟨gm, 0, none⟩), .agg #[.int .i64 4, .int .i64 d, .int .i64 a, .int .i64 b, .int .i64 n, .bool l], .int .i64 sz] w fun e w' => e = .returned (.tuple #[]) ∧ ∃ vI' vO', MSt w0 w' B gm gd vT vI' vO' (doS tabs s 4 d a b n sz) := by
  obtain ⟨d0, d1, a0, a1, b0, b1, n0, n1, c0, c1, s0, s1⟩ := hbd
  obtain ⟨D, rfl⟩ := Int.eq_ofNat_of_zero_le d0
  obtain ⟨A, rfl⟩ := Int.eq_ofNat_of_zero_le a0
  obtain ⟨b', rfl⟩ := Int.eq_ofNat_of_zero_le b0
  have hm := h.mach
  obtain ⟨va, ra, p1, p2, p3, p4⟩ := hm.reg A (by omega)
  obtain ⟨vb, rb, q1, q2, q3, q4⟩ := hm.reg b' (by omega)
  obtain ⟨vd, rd, t1, t2, t3, t4⟩ := hm.reg D (by omega)
  obtain ⟨z0, z1, z2, z3, z4, z5⟩ := hm.rest
  obtain ⟨va0, va1⟩ := hr va (List.mem_of_getElem? ra)
  obtain ⟨vb0, vb1⟩ := hr vb (List.mem_of_getElem? rb)
  have ga : s.rs.getD ((A : Int)).toNat ⟨0, false⟩ = va := by rw [Int.toNat_natCast, List.getD_eq_getElem?_getD, ra]; rfl
  have gb : s.rs.getD ((b' : Int)).toNat ⟨0, false⟩ = vb := by rw [Int.toNat_natCast, List.getD_eq_getElem?_getD, rb]; rfl
  have hg := hm.lt
  have hl := hm.len
  have o1 : opB 4 = false := by decide
  have o2 : brB 4 = false := by decide
  have HS : Hid (doS tabs s 4 D A b' n sz = ⟨s.rs, s.mem, s.ins, s.told, s.pc + sz⟩) := by show _ = _; simp [doS, o1, o2]
  have HH : Hid _ := h
  have HX : Hid _ := h.box
  clear h ra rb rd hm ga gb hr
  obtain ⟨rs, mem, ins, told, pc⟩ := s
  simp only at *
  obtain ⟨an, ac⟩ := va
  obtain ⟨bn, bc⟩ := vb
  obtain ⟨dn, dc⟩ := vd
  simp only at *
  go_enter Tryd.func61, Tryd.ntmps61
  go_wp2_with fail
  go_quiet (fail)
  go_wp2_with (first | (go_at_call 100; refine (isop_any _ _).mono ?_; rintro e w' ⟨rfl, rfl⟩) | (go_at_call 103; refine (isbr_any _ _).mono ?_; rintro e w' ⟨rfl, rfl⟩) | (go_at_call 104; refine (taken_any _ _ _ _).mono ?_; rintro e w' ⟨rfl, rfl⟩))
  all_goals
    go_wp2_with fail
    go_end0
    refine ⟨rfl, vI, vO, ?_⟩
    rw [HS.out]
    exact HH.out.at' _ (by repeat (first | with_reducible refine Chg.set ?_ _ _ | with_reducible refine Chg.alloc ?_ _ | with_reducible refine Chg.drewN ?_ _ | with_reducible refine Chg.drew ?_ | exact Chg.refl HX.out))
end Go.Proofs.YtechpdfcgimkkaaDoor
/-
  package step: (*machine).do, a kind at a time.
-/
namespace Go.Proofs.YtechpdfcgimkkaaDoor
open Go.RowKit Go.Joins Isa
set_option maxRecDepth 100000 in
set_option maxHeartbeats 2000000 in
theorem do_addi (w0 w : World) (B gm gd : Nat) (vT vI vO : Value) (s : Mc) (tabs : List (List Int)) (d a b n sz : Int) (l : Bool) (h : MSt w0 w B gm gd vT vI vO s) (hr : RegsOk s.rs) (hbd : BdOk d a b n s.pc sz) :
    Calls Tryd.prog 61 #[.pointer (some ⟨gm, 0, none⟩), .agg #[.int .i64 6, .int .i64 d, .int .i64 a, .int .i64 b, .int .i64 n, .bool l], .int .i64 sz] w fun e w' => e = .returned (.tuple #[]) ∧ ∃ vI' vO', MSt w0 w' B gm gd vT vI' vO' (doS tabs s 6 d a b n sz) := by
  obtain ⟨d0, d1, a0, a1, b0, b1, n0, n1, c0, c1, s0, s1⟩ := hbd
  obtain ⟨D, rfl⟩ := Int.eq_ofNat_of_zero_le d0
  obtain ⟨A, rfl⟩ := Int.eq_ofNat_of_zero_le a0
  obtain ⟨b', rfl⟩ := Int.eq_ofNat_of_zero_le b0
  have hm := h.mach
  obtain ⟨va, ra, p1, p2, p3, p4⟩ := hm.reg A (by omega)
  obtain ⟨vb, rb, q1, q2, q3, q4⟩ := hm.reg b' (by omega)
  obtain ⟨vd, rd, t1, t2, t3, t4⟩ := hm.reg D (by omega)
  obtain ⟨z0, z1, z2, z3, z4, z5⟩ := hm.rest
  obtain ⟨va0, va1⟩ := hr va (List.mem_of_getElem? ra)
  obtain ⟨vb0, vb1⟩ := hr vb (List.mem_of_getElem? rb)
  have ga : s.rs.getD ((A : Int)).toNat ⟨0, false⟩ = va := by rw [Int.toNat_natCast, List.getD_eq_getElem?_getD, ra]; rfl
  have gb : s.rs.getD ((b' : Int)).toNat ⟨0, false⟩ = vb := by rw [Int.toNat_natCast, List.getD_eq_getElem?_getD, rb]; rfl
  have hg := hm.lt
  have hl := hm.len
  have u1 : -9223372036854775808 ≤ va.n + n := by omega
  have u2 : va.n + n ≤ 9223372036854775807 := by omega
  have HS : Hid (doS tabs s 6 D A b' n sz = ⟨s.rs.set D ⟨foldN (va.n + n), false⟩, s.mem, s.ins, s.told, s.pc + sz⟩) := by show _ = _; simp only [doS]; rw [ga]; simp
  have wA : IntKind.i64.wrap (va.n + n) = va.n + n := by rw [IntKind.wrap_i64]; omega
  have wB : wrap64 (va.n + n) = va.n + n := by unfold wrap64; omega
  have FO : Hid (∀ w, Calls Tryd.prog 99 #[.int .i64 (va.n + n)] w fun e w' => e = .returned (.int .i64 (foldN (va.n + n))) ∧ w' = w) := fun w => fold_any _ w u1 u2
  generalize foldN (va.n + n) = fn at *
  have HH : Hid _ := h
  have HX : Hid _ := h.box
  clear h ra rb rd hm ga gb hr
  obtain ⟨rs, mem, ins, told, pc⟩ := s
  simp only at *
  obtain ⟨an, ac⟩ := va
  obtain ⟨bn, bc⟩ := vb
  obtain ⟨dn, dc⟩ := vd
  simp only at *
  go_enter Tryd.func61, Tryd.ntmps61
  go_wp2_with fail
  go_quiet (fail)
  go_wp2_with (first | (go_at_call 100; refine (isop_any _ _).mono ?_; rintro e w' ⟨rfl, rfl⟩) | (go_at_call 103; refine (isbr_any _ _).mono ?_; rintro e w' ⟨rfl, rfl⟩) | (go_at_call 104; refine (taken_any _ _ _ _).mono ?_; rintro e w' ⟨rfl, rfl⟩))
  go_region_with (first | (go_at_call 99; refine (FO.out _).mono ?_; rintro e w' ⟨rfl, rfl⟩) | (go_at_call 92; refine (number_x _ _).mono ?_; rintro e w' ⟨rfl, rfl⟩))
  all_goals
    go_wp2_with fail
    go_end0
    refine ⟨rfl, vI, vO, ?_⟩
    rw [HS.out]
    exact HH.out.reg D (by omega) ⟨fn, false⟩ _ (by repeat (first | with_reducible refine Chg.set ?_ _ _ | with_reducible refine Chg.alloc ?_ _ | with_reducible refine Chg.drewN ?_ _ | with_reducible refine Chg.drew ?_ | exact Chg.refl HX.out))
end Go.Proofs.YtechpdfcgimkkaaDoor
/-
  package step: (*machine).do, a kind at a time.
-/
namespace Go.Proofs.YtechpdfcgimkkaaDoor
open Go.RowKit Go.Joins Isa
set_option maxRecDepth 100000 in
set_option maxHeartbeats 2000000 in
theorem do_load (w0 w : World) (B gm gd : Nat) (vT vI vO : Value) (s : Mc) (tabs : List (List Int)) (d a b n sz : Int) (l : Bool) (h : MSt w0 w B gm gd vT vI vO s) (hr : RegsOk s.rs) (hbd : BdOk d a b n s.pc sz) (m0 : 0 ≤ (s.rs.getD a.toNat ⟨0, false⟩).n + n) (m1 : (s.rs.getD a.toNat ⟨0, false⟩).n + n < s.mem.length) :
    Calls Tryd.prog 61 #[.pointer (some ⟨gm, 0, none⟩), .agg #[.int .i64 14, .int .i64 d, .int .i64 a, .int .i64 b, .int .i64 n, .bool l], .int .i64 sz] w fun e w' => e = .returned (.tuple #[]) ∧ ∃ vI' vO', MSt w0 w' B gm gd vT vI' vO' (doS tabs s 14 d a b n sz) := by
  obtain ⟨d0, d1, a0, a1, b0, b1, n0, n1, c0, c1, s0, s1⟩ := hbd
  obtain ⟨D, rfl⟩ := Int.eq_ofNat_of_zero_le d0
  obtain ⟨A, rfl⟩ := Int.eq_ofNat_of_zero_le a0
  obtain ⟨b', rfl⟩ := Int.eq_ofNat_of_zero_le b0
  have hm := h.mach
  obtain ⟨va, ra, p1, p2, p3, p4⟩ := hm.reg A (by omega)
  obtain ⟨vb, rb, q1, q2, q3, q4⟩ := hm.reg b' (by omega)
  obtain ⟨vd, rd, t1, t2, t3, t4⟩ := hm.reg D (by omega)
  obtain ⟨z0, z1, z2, z3, z4, z5⟩ := hm.rest
  obtain ⟨va0, va1⟩ := hr va (List.mem_of_getElem? ra)
  obtain ⟨vb0, vb1⟩ := hr vb (List.mem_of_getElem? rb)
  have ga : s.rs.getD ((A : Int)).toNat ⟨0, false⟩ = va := by rw [Int.toNat_natCast, List.getD_eq_getElem?_getD, ra]; rfl
  have gb : s.rs.getD ((b' : Int)).toNat ⟨0, false⟩ = vb := by rw [Int.toNat_natCast, List.getD_eq_getElem?_getD, rb]; rfl
  have hg := hm.lt
  have hl := hm.len
  have o1 : opB 14 = false := by decide
  have o2 : brB 14 = false := by decide
  obtain ⟨M, hM⟩ := Int.eq_ofNat_of_zero_le (show 0 ≤ va.n + n by rw [← ga]; exact m0)
  have hM2 : M < s.mem.length := by have := m1; rw [ga, hM] at this; omega
  have hM3 : (M : Int) < (s.mem.length : Int) := by omega
  obtain ⟨x, hx⟩ : ∃ x, s.mem[M]? = some x := ⟨_, List.getElem?_eq_getElem hM2⟩
  obtain ⟨mx0, mx1, mx2, mx3, mx4⟩ := mem_cells h.mem hx
  have gx : s.mem.getD M ⟨0, false⟩ = x := by rw [List.getD_eq_getElem?_getD, hx]; rfl
  have nd1 : gd ≠ gm := h.apart
  have nd2 : gm ≠ gd := fun e => nd1 e.symm
  have HS : Hid (doS tabs s 14 D A b' n sz = ⟨s.rs.set D x, s.mem, s.ins, s.told, s.pc + sz⟩) := by show _ = _; simp only [doS]; rw [ga, hM]; simp only [Int.toNat_natCast, gx]; simp [o1]
  clear hx m0 m1 gx
  obtain ⟨xn, xc⟩ := x
  have HH : Hid _ := h
  have HX : Hid _ := h.box
  clear h ra rb rd hm ga gb hr
  obtain ⟨rs, mem, ins, told, pc⟩ := s
  simp only at *
  obtain ⟨an, ac⟩ := va
  obtain ⟨bn, bc⟩ := vb
  obtain ⟨dn, dc⟩ := vd
  simp only at *
  go_enter Tryd.func61, Tryd.ntmps61
  go_wp2_with fail
  go_quiet (fail)
  go_wp2_with (first | (go_at_call 100; refine (isop_any _ _).mono ?_; rintro e w' ⟨rfl, rfl⟩) | (go_at_call 103; refine (isbr_any _ _).mono ?_; rintro e w' ⟨rfl, rfl⟩) | (go_at_call 104; refine (taken_any _ _ _ _).mono ?_; rintro e w' ⟨rfl, rfl⟩))
  go_region
  all_goals
    go_wp2_with fail
    go_end0
    refine ⟨rfl, vI, vO, ?_⟩
    rw [HS.out]
    exact HH.out.reg D (by omega) ⟨xn, xc⟩ _ (by repeat (first | with_reducible refine Chg.set ?_ _ _ | with_reducible refine Chg.alloc ?_ _ | with_reducible refine Chg.drewN ?_ _ | with_reducible refine Chg.drew ?_ | exact Chg.refl HX.out))
set_option maxRecDepth 100000 in
set_option maxHeartbeats 2000000 in
theorem do_store (w0 w : World) (B gm gd : Nat) (vT vI vO : Value) (s : Mc) (tabs : List (List Int)) (d a b n sz : Int) (l : Bool) (h : MSt w0 w B gm gd vT vI vO s) (hr : RegsOk s.rs) (hbd : BdOk d a b n s.pc sz) (m0 : 0 ≤ (s.rs.getD a.toNat ⟨0, false⟩).n + n) (m1 : (s.rs.getD a.toNat ⟨0, false⟩).n + n < s.mem.length) :
    Calls Tryd.prog 61 #[.pointer (some ⟨gm, 0, none⟩), .agg #[.int .i64 15, .int .i64 d, .int .i64 a, .int .i64 b, .int .i64 n, .bool l], .int .i64 sz] w fun e w' => e = .returned (.tuple #[]) ∧ ∃ vI' vO', MSt w0 w' B gm gd vT vI' vO' (doS tabs s 15 d a b n sz) := by
  obtain ⟨d0, d1, a0, a1, b0, b1, n0, n1, c0, c1, s0, s1⟩ := hbd
  obtain ⟨D, rfl⟩ := Int.eq_ofNat_of_zero_le d0
  obtain ⟨A, rfl⟩ := Int.eq_ofNat_of_zero_le a0
  obtain ⟨b', rfl⟩ := Int.eq_ofNat_of_zero_le b0
  have hm := h.mach
  obtain ⟨va, ra, p1, p2, p3, p4⟩ := hm.reg A (by omega)
  obtain ⟨vb, rb, q1, q2, q3, q4⟩ := hm.reg b' (by omega)
  obtain ⟨vd, rd, t1, t2, t3, t4⟩ := hm.reg D (by omega)
  obtain ⟨z0, z1, z2, z3, z4, z5⟩ := hm.rest
  obtain ⟨va0, va1⟩ := hr va (List.mem_of_getElem? ra)
  obtain ⟨vb0, vb1⟩ := hr vb (List.mem_of_getElem? rb)
  have ga : s.rs.getD ((A : Int)).toNat ⟨0, false⟩ = va := by rw [Int.toNat_natCast, List.getD_eq_getElem?_getD, ra]; rfl
  have gb : s.rs.getD ((b' : Int)).toNat ⟨0, false⟩ = vb := by rw [Int.toNat_natCast, List.getD_eq_getElem?_getD, rb]; rfl
  have hg := hm.lt
  have hl := hm.len
  have o1 : opB 15 = false := by decide
  have o2 : brB 15 = false := by decide
  obtain ⟨M, hM⟩ := Int.eq_ofNat_of_zero_le (show 0 ≤ va.n + n by rw [← ga]; exact m0)
  have hM2 : M < s.mem.length := by have := m1; rw [ga, hM] at this; omega
  have hM3 : (M : Int) < (s.mem.length : Int) := by omega
  obtain ⟨x, hx⟩ : ∃ x, s.mem[M]? = some x := ⟨_, List.getElem?_eq_getElem hM2⟩
  obtain ⟨mx0, mx1, mx2, mx3, mx4⟩ := mem_cells h.mem hx
  have gx : s.mem.getD M ⟨0, false⟩ = x := by rw [List.getD_eq_getElem?_getD, hx]; rfl
  have nd1 : gd ≠ gm := h.apart
  have nd2 : gm ≠ gd := fun e => nd1 e.symm
  have HS : Hid (doS tabs s 15 D A b' n sz = ⟨s.rs, s.mem.set M vb, s.ins, s.told, s.pc + sz⟩) := by show _ = _; simp only [doS]; rw [ga, gb, hM, Int.toNat_natCast]; simp [o1]
  have HM := h.mem
  have HMM : Hid _ := HM
  clear hx m0 m1 HM gx
  obtain ⟨xn, xc⟩ := x
  have HH : Hid _ := h
  have HX : Hid _ := h.box
  clear h ra rb rd hm ga gb hr
  obtain ⟨rs, mem, ins, told, pc⟩ := s
  simp only at *
  obtain ⟨an, ac⟩ := va
  obtain ⟨bn, bc⟩ := vb
  obtain ⟨dn, dc⟩ := vd
  simp only at *
  go_enter Tryd.func61, Tryd.ntmps61
  go_wp2_with fail
  go_quiet (fail)
  go_wp2_with (first | (go_at_call 100; refine (isop_any _ _).mono ?_; rintro e w' ⟨rfl, rfl⟩) | (go_at_call 103; refine (isbr_any _ _).mono ?_; rintro e w' ⟨rfl, rfl⟩) | (go_at_call 104; refine (taken_any _ _ _ _).mono ?_; rintro e w' ⟨rfl, rfl⟩))
  go_region
  all_goals
    go_wp2_with fail
    go_end0
    refine ⟨rfl, vI, vO, ?_⟩
    rw [HS.out]
    exact (HH.out.memset M hM2 ⟨bn, bc⟩ (by repeat (first | with_reducible refine Chg.set ?_ _ _ | with_reducible refine Chg.alloc ?_ _ | with_reducible refine Chg.drewN ?_ _ | with_reducible refine Chg.drew ?_ | exact Chg.refl HMM.out))).at' _ (Chg.set (Chg.refl (MSt.box (HH.out.memset M hM2 ⟨bn, bc⟩ (by repeat (first | with_reducible refine Chg.set ?_ _ _ | with_reducible refine Chg.alloc ?_ _ | with_reducible refine Chg.drewN ?_ _ | with_reducible refine Chg.drew ?_ | exact Chg.refl HMM.out))))) _ _)
end Go.Proofs.YtechpdfcgimkkaaDoor
