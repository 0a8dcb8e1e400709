/-
  package step: (*machine).do, a kind at a time.
-/
import Derived.Test.YtechpdfcgimkkaaDoorMEC
import Derived.BigQuiet
import Derived.Deep.QuietTactic
import Derived.Deep.RegionWith
import Derived.Deep.RegionHeld3
namespace Go.Proofs.YtechpdfcgimkkaaDoor
open Go.RowKit Go.Joins Isa
set_option maxRecDepth 100000 in
set_option maxHeartbeats 2000000 in
theorem do_table (w0 w : World) (B gm gd : Nat) (vT vI vO : Value) (s : Mc) (tabs : List (List Int)) (d a b n sz : Int) (l : Bool) (h : MSt w0 w B gm gd vT vI vO s) (hr : RegsOk s.rs) (hbd : BdOk d a b n s.pc sz) (us : List Value) (hT : ListAt w0 vcell 1 vT us) (hU : us.length = tabs.length) (hE : ∀ (j : Nat) (u : Value) (t : List Int), us[j]? = some u → tabs[j]? = some t → ListAt w0 icell 1 u t) (k0 : 0 ≤ n) (k1 : n < (tabs.length : Int)) (v0 : 0 ≤ (s.rs.getD a.toNat ⟨0, false⟩).n) (v1 : (s.rs.getD a.toNat ⟨0, false⟩).n < ((tabs.getD n.toNat []).length : Int)) :
    Calls Tryd.prog 61 #[.pointer (some ⟨gm, 0, none⟩), .agg #[.int .i64 24, .int .i64 d, .int .i64 a, .int .i64 b, .int .i64 n, .bool l], .int .i64 sz] w fun e w' => e = .returned (.tuple #[]) ∧ ∃ vI' vO', MSt w0 w' B gm gd vT vI' vO' (doS tabs s 24 d a b n sz) := by
  obtain ⟨d0, d1, a0, a1, b0, b1, n0, n1, c0, c1, s0, s1⟩ := hbd
  obtain ⟨D, rfl⟩ := Int.eq_ofNat_of_zero_le d0
  obtain ⟨A, rfl⟩ := Int.eq_ofNat_of_zero_le a0
  obtain ⟨b', rfl⟩ := Int.eq_ofNat_of_zero_le b0
  have hm := h.mach
  obtain ⟨va, ra, p1, p2, p3, p4⟩ := hm.reg A (by omega)
  obtain ⟨vb, rb, q1, q2, q3, q4⟩ := hm.reg b' (by omega)
  obtain ⟨vd, rd, t1, t2, t3, t4⟩ := hm.reg D (by omega)
  obtain ⟨z0, z1, z2, z3, z4, z5⟩ := hm.rest
  obtain ⟨va0, va1⟩ := hr va (List.mem_of_getElem? ra)
  obtain ⟨vb0, vb1⟩ := hr vb (List.mem_of_getElem? rb)
  have ga : s.rs.getD ((A : Int)).toNat ⟨0, false⟩ = va := by rw [Int.toNat_natCast, List.getD_eq_getElem?_getD, ra]; rfl
  have gb : s.rs.getD ((b' : Int)).toNat ⟨0, false⟩ = vb := by rw [Int.toNat_natCast, List.getD_eq_getElem?_getD, rb]; rfl
  have hg := hm.lt
  have hl := hm.len
  have o1 : opB 24 = false := by decide
  have o2 : brB 24 = false := by decide
  obtain ⟨N, rfl⟩ := Int.eq_ofNat_of_zero_le k0
  obtain ⟨V, hV⟩ := Int.eq_ofNat_of_zero_le (show 0 ≤ va.n by rw [← ga]; exact v0)
  have v1' : (V : Int) < ((tabs.getD N []).length : Int) := by have := v1; rw [ga, hV, Int.toNat_natCast] at this; exact this
  obtain ⟨u, hu⟩ : ∃ u, us[N]? = some u := ⟨_, List.getElem?_eq_getElem (by omega)⟩
  obtain ⟨t, ht⟩ : ∃ t, tabs[N]? = some t := ⟨_, List.getElem?_eq_getElem (by omega)⟩
  have gt : tabs.getD N [] = t := by rw [List.getD_eq_getElem?_getD, ht]; rfl
  rw [gt] at v1'
  obtain ⟨y, hy⟩ : ∃ y, t[V]? = some y := ⟨_, List.getElem?_eq_getElem (by omega)⟩
  have gy : t.getD V 0 = y := by rw [List.getD_eq_getElem?_getD, hy]; rfl
  have HS : Hid (doS tabs s 24 D A b' N sz = ⟨s.rs, s.mem, s.ins, s.told, y⟩) := by show _ = _; simp only [doS]; rw [ga, hV]; simp only [Int.toNat_natCast, gt, gy]; simp [o1, o2]
  obtain ⟨bb, oo, cap, hv, f1, f2, f3, f4⟩ := (hT.stays h.hB h.base).resolve_left (by rintro ⟨_, _, _, hh⟩; subst hh; simp at hu)
  subst hv
  have x0 : w.cell? ⟨bb, oo + N, none⟩ = some u := by have := f4 N u hu 0 u rfl; rwa [Nat.mul_one, Nat.add_zero] at this
  obtain ⟨b2, o2', cap2, hv2, f5, f6, f7, f8⟩ := ((hE N u t hu ht).stays h.hB h.base).resolve_left (by rintro ⟨_, _, _, hh⟩; subst hh; simp at hy)
  subst hv2
  have x1 : w.cell? ⟨b2, o2' + V, none⟩ = some (.int .i64 y) := by have := f8 V y hy 0 _ rfl; rwa [Nat.mul_one, Nat.add_zero] at this
  have x2 : (N : Int) < (us.length : Int) := by omega
  have x3 : (V : Int) < (t.length : Int) := by omega
  have x4 : V < t.length := by omega
  have x5 : N < us.length := by omega
  clear hT hE hU f4 f8 v0 v1 v1' gt gy ht hy hu k1
  have HH : Hid _ := h
  have HX : Hid _ := h.box
  clear h ra rb rd hm ga gb hr
  obtain ⟨rs, mem, ins, told, pc⟩ := s
  simp only at *
  obtain ⟨an, ac⟩ := va
  obtain ⟨bn, bc⟩ := vb
  obtain ⟨dn, dc⟩ := vd
  simp only at *
  go_enter Tryd.func61, Tryd.ntmps61
  go_wp2_with fail
  go_quiet (fail)
  go_wp2_with (first | (go_at_call 100; refine (isop_any _ _).mono ?_; rintro e w' ⟨rfl, rfl⟩) | (go_at_call 103; refine (isbr_any _ _).mono ?_; rintro e w' ⟨rfl, rfl⟩) | (go_at_call 104; refine (taken_any _ _ _ _).mono ?_; rintro e w' ⟨rfl, rfl⟩))
  go_quiet (fail)
  all_goals
    go_wp2_with fail
    go_end0
    refine ⟨rfl, vI, vO, ?_⟩
    rw [HS.out]
    exact HH.out.at' _ (by repeat (first | with_reducible refine Chg.set ?_ _ _ | with_reducible refine Chg.alloc ?_ _ | with_reducible refine Chg.drewN ?_ _ | with_reducible refine Chg.drew ?_ | exact Chg.refl HX.out))
end Go.Proofs.YtechpdfcgimkkaaDoor
/-
  package step: (*machine).do, a kind at a time.
-/
namespace Go.Proofs.YtechpdfcgimkkaaDoor
open Go.RowKit Go.Joins Isa
set_option maxRecDepth 100000 in
set_option maxHeartbeats 2000000 in
theorem do_in0 (w0 w : World) (B gm gd : Nat) (vT vI vO : Value) (s : Mc) (tabs : List (List Int)) (d a b n sz : Int) (l : Bool) (h : MSt w0 w B gm gd vT vI vO s) (hr : RegsOk s.rs) (hbd : BdOk d a b n s.pc sz) (hin : s.ins = []) :
    Calls Tryd.prog 61 #[.pointer (some ⟨gm, 0, none⟩), .agg #[.int .i64 16, .int .i64 d, .int .i64 a, .int .i64 b, .int .i64 n, .bool l], .int .i64 sz] w fun e w' => e = .returned (.tuple #[]) ∧ ∃ vI' vO', MSt w0 w' B gm gd vT vI' vO' (doS tabs s 16 d a b n sz) := by
  obtain ⟨d0, d1, a0, a1, b0, b1, n0, n1, c0, c1, s0, s1⟩ := hbd
  obtain ⟨D, rfl⟩ := Int.eq_ofNat_of_zero_le d0
  obtain ⟨A, rfl⟩ := Int.eq_ofNat_of_zero_le a0
  obtain ⟨b', rfl⟩ := Int.eq_ofNat_of_zero_le b0
  have hm := h.mach
  obtain ⟨va, ra, p1, p2, p3, p4⟩ := hm.reg A (by omega)
  obtain ⟨vb, rb, q1, q2, q3, q4⟩ := hm.reg b' (by omega)
  obtain ⟨vd, rd, t1, t2, t3, t4⟩ := hm.reg D (by omega)
  obtain ⟨z0, z1, z2, z3, z4, z5⟩ := hm.rest
  obtain ⟨va0, va1⟩ := hr va (List.mem_of_getElem? ra)
  obtain ⟨vb0, vb1⟩ := hr vb (List.mem_of_getElem? rb)
  have ga : s.rs.getD ((A : Int)).toNat ⟨0, false⟩ = va := by rw [Int.toNat_natCast, List.getD_eq_getElem?_getD, ra]; rfl
  have gb : s.rs.getD ((b' : Int)).toNat ⟨0, false⟩ = vb := by rw [Int.toNat_natCast, List.getD_eq_getElem?_getD, rb]; rfl
  have hg := hm.lt
  have hl := hm.len
  have o1 : opB 16 = false := by decide
  have o2 : brB 16 = false := by decide
  have HS : Hid (doS tabs s 16 D A b' n sz = ⟨s.rs.set D ⟨0, false⟩, s.mem, s.ins, s.told, s.pc + sz⟩) := by show _ = _; simp [doS, o1, hin]
  have NX : Hid (∀ w', w'.cell? ⟨gm, 18, none⟩ = w.cell? ⟨gm, 18, none⟩ → Calls Tryd.prog 102 #[.pointer (some ⟨gm, 0, none⟩)] w' fun e w2 => e = .returned (.int .i64 0) ∧ w2 = w') := fun w' hc => next_none gm vI w' (hc.trans z2) (by have := h.ins; rw [hin] at this; exact this.form.imp fun _ hh => hh.imp fun _ hh => hh.1)
  clear hin
  have HH : Hid _ := h
  have HX : Hid _ := h.box
  clear h ra rb rd hm ga gb hr
  obtain ⟨rs, mem, ins, told, pc⟩ := s
  simp only at *
  obtain ⟨an, ac⟩ := va
  obtain ⟨bn, bc⟩ := vb
  obtain ⟨dn, dc⟩ := vd
  simp only at *
  go_enter Tryd.func61, Tryd.ntmps61
  go_wp2_with fail
  go_quiet (fail)
  go_wp2_with (first | (go_at_call 100; refine (isop_any _ _).mono ?_; rintro e w' ⟨rfl, rfl⟩) | (go_at_call 103; refine (isbr_any _ _).mono ?_; rintro e w' ⟨rfl, rfl⟩) | (go_at_call 104; refine (taken_any _ _ _ _).mono ?_; rintro e w' ⟨rfl, rfl⟩))
  go_region_with (first | (go_at_call 102; refine (NX.out _ (by simp [World.cell?_alloc_past, hg])).mono ?_; rintro e w' ⟨rfl, rfl⟩) | (go_at_call 92; refine (number_x _ _).mono ?_; rintro e w' ⟨rfl, rfl⟩))
  all_goals
    go_wp2_with fail
    go_end0
    refine ⟨rfl, vI, vO, ?_⟩
    rw [HS.out]
    exact HH.out.reg D (by omega) ⟨0, false⟩ _ (by repeat (first | with_reducible refine Chg.set ?_ _ _ | with_reducible refine Chg.alloc ?_ _ | with_reducible refine Chg.drewN ?_ _ | with_reducible refine Chg.drew ?_ | exact Chg.refl HX.out))
end Go.Proofs.YtechpdfcgimkkaaDoor
/-
  package step: (*machine).do, a kind at a time.
-/
namespace Go.Proofs.YtechpdfcgimkkaaDoor
open Go.RowKit Go.Joins Isa
set_option maxRecDepth 100000 in
set_option maxHeartbeats 2000000 in
theorem do_in1 (w0 w : World) (B gm gd : Nat) (vT vI vO : Value) (s : Mc) (tabs : List (List Int)) (d a b n sz : Int) (l : Bool) (h : MSt w0 w B gm gd vT vI vO s) (hr : RegsOk s.rs) (hbd : BdOk d a b n s.pc sz) (x : Int) (xs : List Int) (hin : s.ins = x :: xs) :
    Calls Tryd.prog 61 #[.pointer (some ⟨gm, 0, none⟩), .agg #[.int .i64 16, .int .i64 d, .int .i64 a, .int .i64 b, .int .i64 n, .bool l], .int .i64 sz] w fun e w' => e = .returned (.tuple #[]) ∧ ∃ vI' vO', MSt w0 w' B gm gd vT vI' vO' (doS tabs s 16 d a b n sz) := by
  obtain ⟨d0, d1, a0, a1, b0, b1, n0, n1, c0, c1, s0, s1⟩ := hbd
  obtain ⟨D, rfl⟩ := Int.eq_ofNat_of_zero_le d0
  obtain ⟨A, rfl⟩ := Int.eq_ofNat_of_zero_le a0
  obtain ⟨b', rfl⟩ := Int.eq_ofNat_of_zero_le b0
  have hm := h.mach
  obtain ⟨va, ra, p1, p2, p3, p4⟩ := hm.reg A (by omega)
  obtain ⟨vb, rb, q1, q2, q3, q4⟩ := hm.reg b' (by omega)
  obtain ⟨vd, rd, t1, t2, t3, t4⟩ := hm.reg D (by omega)
  obtain ⟨z0, z1, z2, z3, z4, z5⟩ := hm.rest
  obtain ⟨va0, va1⟩ := hr va (List.mem_of_getElem? ra)
  obtain ⟨vb0, vb1⟩ := hr vb (List.mem_of_getElem? rb)
  have ga : s.rs.getD ((A : Int)).toNat ⟨0, false⟩ = va := by rw [Int.toNat_natCast, List.getD_eq_getElem?_getD, ra]; rfl
  have gb : s.rs.getD ((b' : Int)).toNat ⟨0, false⟩ = vb := by rw [Int.toNat_natCast, List.getD_eq_getElem?_getD, rb]; rfl
  have hg := hm.lt
  have hl := hm.len
  have o1 : opB 16 = false := by decide
  have o2 : brB 16 = false := by decide
  have hi := h.ins
  rw [hin] at hi
  obtain ⟨bb, oo, cap, hv, f1, f2, f3, f4⟩ := hi.resolve_left (by rintro ⟨_, _, _, hh⟩; cases hh)
  have hx : w.cell? ⟨bb, oo, none⟩ = some (.int .i64 x) := by
    have e := f4 0 x rfl 0 _ rfl
    rw [Nat.zero_mul, Nat.add_zero] at e
    exact (h.base.cell (p := ⟨bb, oo, none⟩) (by show bb < B; have := h.hB; omega)).trans e
  have hbm : bb ≠ gm := by have := h.hB; have := h.ge; omega
  have HI : Hid _ := ins_tail hi hv
  have HS : Hid (doS tabs s 16 D A b' n sz = ⟨s.rs.set D ⟨x, false⟩, s.mem, xs, s.told, s.pc + sz⟩) := by show _ = _; simp [doS, o1, hin]
  rw [hv] at z2
  simp only [List.length_cons] at z2 f1
  have NX : Hid (∀ w', w'.cell? ⟨gm, 18, none⟩ = w.cell? ⟨gm, 18, none⟩ → w'.cell? ⟨bb, oo, none⟩ = w.cell? ⟨bb, oo, none⟩ → (∀ o, w'.frozen? ⟨gm, o, none⟩ = false) → gm < w'.heap.size → Calls Tryd.prog 102 #[.pointer (some ⟨gm, 0, none⟩)] w' fun e w2 => e = .returned (.int .i64 x) ∧ w2 = w'.setCell ⟨gm, 18, none⟩ (.slice (if cap = 1 then some ⟨bb, oo, none⟩ else some ⟨bb, oo + 1, none⟩) xs.length (cap - 1))) := fun w' hc hd hf hl' => next_some gm bb oo xs.length cap x w' (hc.trans z2) (hd.trans hx) hf f1 hl'
  have bl : bb < w.heap.size := by have := h.hB; have := h.ge; omega
  generalize hvv : (if cap = 1 then some (⟨bb, oo, none⟩ : Addr) else some ⟨bb, oo + 1, none⟩) = av at *
  clear hi f4 hin hv hvv
  have HH : Hid _ := h
  have HX : Hid _ := h.box
  clear h ra rb rd hm ga gb hr
  obtain ⟨rs, mem, ins, told, pc⟩ := s
  simp only at *
  obtain ⟨an, ac⟩ := va
  obtain ⟨bn, bc⟩ := vb
  obtain ⟨dn, dc⟩ := vd
  simp only at *
  go_enter Tryd.func61, Tryd.ntmps61
  go_wp2_with fail
  go_quiet (fail)
  go_wp2_with (first | (go_at_call 100; refine (isop_any _ _).mono ?_; rintro e w' ⟨rfl, rfl⟩) | (go_at_call 103; refine (isbr_any _ _).mono ?_; rintro e w' ⟨rfl, rfl⟩) | (go_at_call 104; refine (taken_any _ _ _ _).mono ?_; rintro e w' ⟨rfl, rfl⟩))
  go_region_with (first | (go_at_call 102; refine (NX.out _ (by simp [World.cell?_alloc_past, hg]) (by simp [World.cell?_alloc_past, bl]) (by intro o; simp [World.frozen?_alloc_past, hg, z5]) (by simp; omega)).mono ?_; rintro e w' ⟨rfl, rfl⟩) | (go_at_call 92; refine (number_x _ _).mono ?_; rintro e w' ⟨rfl, rfl⟩))
  all_goals
    go_wp2_with fail
    go_end0
    refine ⟨rfl, .slice av xs.length (cap - 1), vO, ?_⟩
    rw [HS.out]
    exact HH.out.regIn D (by omega) ⟨x, false⟩ _ HI.out (by repeat (first | with_reducible refine Chg.set ?_ _ _ | with_reducible refine Chg.alloc ?_ _ | with_reducible refine Chg.drewN ?_ _ | with_reducible refine Chg.drew ?_ | exact Chg.refl HX.out))
end Go.Proofs.YtechpdfcgimkkaaDoor
/-
  package step: (*machine).do, a kind at a time.
-/
namespace Go.Proofs.YtechpdfcgimkkaaDoor
open Go.RowKit Go.Joins Isa
set_option maxRecDepth 100000 in
set_option maxHeartbeats 2000000 in
theorem do_out (w0 w : World) (B gm gd : Nat) (vT vI vO : Value) (s : Mc) (tabs : List (List Int)) (d a b n sz : Int) (l : Bool) (h : MSt w0 w B gm gd vT vI vO s) (hr : RegsOk s.rs) (hbd : BdOk d a b n s.pc sz) (ht : s.told.length ≤ 200000) :
    Calls Tryd.prog 61 #[.pointer (some ⟨gm, 0, none⟩), .agg #[.int .i64 17, .int .i64 d, .int .i64 a, .int .i64 b, .int .i64 n, .bool l], .int .i64 sz] w fun e w' => e = .returned (.tuple #[]) ∧ ∃ vI' vO', MSt w0 w' B gm gd vT vI' vO' (doS tabs s 17 d a b n sz) := by
  obtain ⟨d0, d1, a0, a1, b0, b1, n0, n1, c0, c1, s0, s1⟩ := hbd
  obtain ⟨D, rfl⟩ := Int.eq_ofNat_of_zero_le d0
  obtain ⟨A, rfl⟩ := Int.eq_ofNat_of_zero_le a0
  obtain ⟨b', rfl⟩ := Int.eq_ofNat_of_zero_le b0
  have hm := h.mach
  obtain ⟨va, ra, p1, p2, p3, p4⟩ := hm.reg A (by omega)
  obtain ⟨vb, rb, q1, q2, q3, q4⟩ := hm.reg b' (by omega)
  obtain ⟨vd, rd, t1, t2, t3, t4⟩ := hm.reg D (by omega)
  obtain ⟨z0, z1, z2, z3, z4, z5⟩ := hm.rest
  obtain ⟨va0, va1⟩ := hr va (List.mem_of_getElem? ra)
  obtain ⟨vb0, vb1⟩ := hr vb (List.mem_of_getElem? rb)
  have ga : s.rs.getD ((A : Int)).toNat ⟨0, false⟩ = va := by rw [Int.toNat_natCast, List.getD_eq_getElem?_getD, ra]; rfl
  have gb : s.rs.getD ((b' : Int)).toNat ⟨0, false⟩ = vb := by rw [Int.toNat_natCast, List.getD_eq_getElem?_getD, rb]; rfl
  have hg := hm.lt
  have hl := hm.len
  have o1 : opB 17 = false := by decide
  have o2 : brB 17 = false := by decide
  have HS : Hid (doS tabs s 17 D A b' n sz = ⟨s.rs, s.mem, s.ins, s.told ++ [va.n], s.pc + sz⟩) := by show _ = _; simp only [doS]; rw [ga]; simp [o1]
  have hB := h.mach.lt
  have hB2 := h.ge
  have HH : Hid _ := h
  have HX : Hid _ := h.box
  clear h ra rb rd hm ga gb hr
  obtain ⟨rs, mem, ins, told, pc⟩ := s
  simp only at *
  obtain ⟨an, ac⟩ := va
  obtain ⟨bn, bc⟩ := vb
  obtain ⟨dn, dc⟩ := vd
  simp only at *
  go_enter Tryd.func61, Tryd.ntmps61
  go_wp2_with fail
  go_quiet (fail)
  obtain ⟨aO, lO, cO, hvO⟩ := row_form HH.out.told
  have BW : Below w.heap.size w ((w.alloc (.cells #[.int .i64 17, .int .i64 D, .int .i64 A, .int .i64 b', .int .i64 n, .bool l] 61)).drewN nq) := below_drewN ((Below.refl _ _).alloc (Nat.le_refl _) _) _
  have OT := row_up HH.out.told BW
  obtain ⟨vO', W, hr, ho, gr, hbw⟩ := row_app 3 26 1 8 _ Tryd.underlying26 inInt rfl (by decide) OT (by have := BW.size; omega) [.int .i64 an] rfl (by intro x hx; simp at hx; subst hx; rfl) (by simp only at ht ⊢; omega) (by simp only at ht ⊢; unfold maxLen; omega) (Or.inl rfl)
  have TL := fun pc' => HH.out.tell (x := an) (pc' := pc') (BW.trans (hbw.mono BW.size)) ho gr
  have ez : ((w.alloc (.cells #[.int .i64 17, .int .i64 D, .int .i64 A, .int .i64 b', .int .i64 n, .bool l] 61)).drewN nq).heap.size = w.heap.size + 1 := by simp
  have gz : gm < W.heap.size := by have := gr.size; have := hbw.size; rw [ez] at this; omega
  rw [ez] at hr
  obtain ⟨aP, lP, cP, hvP⟩ := row_form ho
  subst hvP
  subst hvO
  have hbox := (TL 0).1
  have k0 : W.cell? ⟨gm, 19, none⟩ = some (.slice aO lO cO) := by have := (MachAt.mk (w := W) hl hbox).rest; exact this.2.2.2.1
  have k1 : W.cell? ⟨gm, 20, none⟩ = some (.int .i64 pc) := by have := (MachAt.mk (w := W) hl hbox).rest; exact this.2.2.2.2.1
  have k2 : W.frozen? ⟨gm, 19, none⟩ = false := by simp [World.frozen?, hbox]
  have k3 : W.frozen? ⟨gm, 20, none⟩ = false := by simp [World.frozen?, hbox]
  have HR : Hid ((Builtin.append_ #[26, 26] 26 #[.slice aO lO cO, .slice (some ⟨w.heap.size + 1, 0, none⟩) 1 1]).run Tryd.prog (((w.alloc (.cells #[.int .i64 17, .int .i64 D, .int .i64 A, .int .i64 b', .int .i64 n, .bool l] 61)).alloc (.cells #[.int .i64 an] 3)).drewN nq) = .ok (.slice aP lP cP) W) := hr
  have HTL : Hid (∀ pc' : Int, MSt w0 ((W.setCell ⟨gm, 19, none⟩ (.slice aP lP cP)).setCell ⟨gm, 20, none⟩ (.int .i64 pc')) B gm gd vT vI (.slice aP lP cP) ⟨rs, mem, ins, told ++ [an], pc'⟩) := fun pc' => (TL pc').2
  clear hr ho gr hbw TL hbox BW OT ez
  go_wp2_with (first | (go_at_call 100; refine (isop_any _ _).mono ?_; rintro e w' ⟨rfl, rfl⟩) | (at_builtin; refine wpList_append_two _ rfl (.tmp 137) (.tmp 139) 26 26 rfl _ _ rfl rfl HR.out ?_))
  go_end0
  refine ⟨rfl, vI, .slice aP lP cP, ?_⟩
  rw [HS.out]
  exact HTL.out _
end Go.Proofs.YtechpdfcgimkkaaDoor
