/-
  package step: (*machine).do, a kind at a time.
-/
import Derived.Test.YtechpdfcgimkkaaDoorMcTl
import Derived.BigQuiet
import Derived.Deep.QuietTactic
import Derived.Deep.RegionWith
import Derived.Deep.RegionHeld3
namespace Go.Proofs.YtechpdfcgimkkaaDoor
open Go.RowKit Go.Joins Isa
set_option maxRecDepth 100000 in
set_option maxHeartbeats 2000000 in
theorem do_out (w0 w : World) (B gm gd : Nat) (vT vI vO : Value) (s : Mc) (tabs : List (List Int)) (d a b n sz : Int) (l : Bool) (h : MSt w0 w B gm gd vT vI vO s) (hr : RegsOk s.rs) (hbd : BdOk d a b n s.pc sz) (ht : s.told.length ≤ 200000) :
    Calls Tryd.prog 61 #[.pointer (some ⟨gm, 0, none⟩), .agg #[.int .i64 17, .int .i64 d, .int .i64 a, .int .i64 b, .int .i64 n, .bool l], .int .i64 sz] w fun e w' => e = .returned (.tuple #[]) ∧ ∃ vI' vO', MSt w0 w' B gm gd vT vI' vO' (doS tabs s 17 d a b n sz) := by
  obtain ⟨d0, d1, a0, a1, b0, b1, n0, n1, c0, c1, s0, s1⟩ := hbd
  obtain ⟨D, rfl⟩ := Int.eq_ofNat_of_zero_le d0
  obtain ⟨A, rfl⟩ := Int.eq_ofNat_of_zero_le a0
  obtain ⟨b', rfl⟩ := Int.eq_ofNat_of_zero_le b0
  have hm := h.mach
  obtain ⟨va, ra, p1, p2, p3, p4⟩ := hm.reg A (by omega)
  obtain ⟨vb, rb, q1, q2, q3, q4⟩ := hm.reg b' (by omega)
  obtain ⟨vd, rd, t1, t2, t3, t4⟩ := hm.reg D (by omega)
  obtain ⟨z0, z1, z2, z3, z4, z5⟩ := hm.rest
  obtain ⟨va0, va1⟩ := hr va (List.mem_of_getElem? ra)
  obtain ⟨vb0, vb1⟩ := hr vb (List.mem_of_getElem? rb)
  have ga : s.rs.getD ((A : Int)).toNat ⟨0, false⟩ = va := by rw [Int.toNat_natCast, List.getD_eq_getElem?_getD, ra]; rfl
  have gb : s.rs.getD ((b' : Int)).toNat ⟨0, false⟩ = vb := by rw [Int.toNat_natCast, List.getD_eq_getElem?_getD, rb]; rfl
  have hg := hm.lt
  have hl := hm.len
  have o1 : opB 17 = false := by decide
  have o2 : brB 17 = false := by decide
  have HS : Hid (doS tabs s 17 D A b' n sz = ⟨s.rs, s.mem, s.ins, s.told ++ [va.n], s.pc + sz⟩) := by show _ = _; simp only [doS]; rw [ga]; simp [o1]
  have hB := h.mach.lt
  have hB2 := h.ge
  have HH : Hid _ := h
  have HX : Hid _ := h.box
  clear h ra rb rd hm ga gb hr
  obtain ⟨rs, mem, ins, told, pc⟩ := s
  simp only at *
  obtain ⟨an, ac⟩ := va
  obtain ⟨bn, bc⟩ := vb
  obtain ⟨dn, dc⟩ := vd
  simp only at *
  go_enter Tryd.func61, Tryd.ntmps61
  go_wp2_with fail
  go_quiet (fail)
  obtain ⟨aO, lO, cO, hvO⟩ := row_form HH.out.told
  have BW : Below w.heap.size w ((w.alloc (.cells #[.int .i64 17, .int .i64 D, .int .i64 A, .int .i64 b', .int .i64 n, .bool l] 61)).drewN nq) := below_drewN ((Below.refl _ _).alloc (Nat.le_refl _) _) _
  have OT := row_up HH.out.told BW
  obtain ⟨vO', W, hr, ho, gr, hbw⟩ := row_app 3 26 1 8 _ Tryd.underlying26 inInt rfl (by decide) OT (by have := BW.size; omega) [.int .i64 an] rfl (by intro x hx; simp at hx; subst hx; rfl) (by simp only at ht ⊢; omega) (by simp only at ht ⊢; unfold maxLen; omega) (Or.inl rfl)
  have TL := fun pc' => HH.out.tell (x := an) (pc' := pc') (BW.trans (hbw.mono BW.size)) ho gr
  have ez : ((w.alloc (.cells #[.int .i64 17, .int .i64 D, .int .i64 A, .int .i64 b', .int .i64 n, .bool l] 61)).drewN nq).heap.size = w.heap.size + 1 := by simp
  have gz : gm < W.heap.size := by have := gr.size; have := hbw.size; rw [ez] at this; omega
  rw [ez] at hr
  obtain ⟨aP, lP, cP, hvP⟩ := row_form ho
  subst hvP
  subst hvO
  have hbox := (TL 0).1
  have k0 : W.cell? ⟨gm, 19, none⟩ = some (.slice aO lO cO) := by have := (MachAt.mk (w := W) hl hbox).rest; exact this.2.2.2.1
  have k1 : W.cell? ⟨gm, 20, none⟩ = some (.int .i64 pc) := by have := (MachAt.mk (w := W) hl hbox).rest; exact this.2.2.2.2.1
  have k2 : W.frozen? ⟨gm, 19, none⟩ = false := by simp [World.frozen?, hbox]
  have k3 : W.frozen? ⟨gm, 20, none⟩ = false := by simp [World.frozen?, hbox]
  have HR : Hid ((Builtin.append_ #[26, 26] 26 #[.slice aO lO cO, .slice (some ⟨w.heap.size + 1, 0, none⟩) 1 1]).run Tryd.prog (((w.alloc (.cells #[.int .i64 17, .int .i64 D, .int .i64 A, .int .i64 b', .int .i64 n, .bool l] 61)).alloc (.cells #[.int .i64 an] 3)).drewN nq) = .ok (.slice aP lP cP) W) := hr
  have HTL : Hid (∀ pc' : Int, MSt w0 ((W.setCell ⟨gm, 19, none⟩ (.slice aP lP cP)).setCell ⟨gm, 20, none⟩ (.int .i64 pc')) B gm gd vT vI (.slice aP lP cP) ⟨rs, mem, ins, told ++ [an], pc'⟩) := fun pc' => (TL pc').2
  clear hr ho gr hbw TL hbox BW OT ez
  go_wp2_with (first | (go_at_call 100; refine (isop_any _ _).mono ?_; rintro e w' ⟨rfl, rfl⟩) | (at_builtin; refine wpList_append_two _ rfl (.tmp 137) (.tmp 139) 26 26 rfl _ _ rfl rfl HR.out ?_))
  go_end0
  refine ⟨rfl, vI, .slice aP lP cP, ?_⟩
  rw [HS.out]
  exact HTL.out _
end Go.Proofs.YtechpdfcgimkkaaDoor
