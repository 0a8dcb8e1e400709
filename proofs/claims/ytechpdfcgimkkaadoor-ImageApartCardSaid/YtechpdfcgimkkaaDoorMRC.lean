/-
  slices.ContainsFunc at step.check's function value; what a run is made of.
-/
import Derived.Test.YtechpdfcgimkkaaDoorMPC
import Derived.Test.YtechpdfcgimkkaaDoorMQC
import Derived.Test.YtechpdfcgimkkaaDoorMEC
import Derived.Deep.RegionWith
import Derived.Test.YtechpdfcgimkkaaDoorMIC
import Derived.Test.YtechpdfcgimkkaaDoorMOC
import Derived.Test.YtechpdfcgimkkaaDoorMCC
namespace Go.Proofs.YtechpdfcgimkkaaDoor
open Go.RowKit Go.Joins
theorem sfar_any (n : Int) (w : World) : Calls Tryd.prog 91 #[.int .i64 n] w fun e w' => e = .returned (.bool (farB n)) ∧ w' = w := by
  by_cases h0 : n < -1099511627776
  · have hr : Hid (farB n = true) := by show _ = _; simp [farB, h0]
    go_enter Tryd.func91, Tryd.ntmps91
    go_wp2
    go_ret
    exact ⟨by rw [hr.out]; rfl, rfl⟩
  · by_cases h1 : 1099511627776 < n
    · have hr : Hid (farB n = true) := by show _ = _; simp [farB, h1]
      go_enter Tryd.func91, Tryd.ntmps91
      go_wp2
      go_ret
      exact ⟨by rw [hr.out]; rfl, rfl⟩
    · have hr : Hid (farB n = false) := by show _ = _; simp [farB]; omega
      go_enter Tryd.func91, Tryd.ntmps91
      go_wp2
      go_ret
      exact ⟨by rw [hr.out]; rfl, rfl⟩
set_option maxHeartbeats 1000000 in
theorem sidxFar_any (v : Value) (xs : List Int) (w : World) (h : ListAt w icell 1 v xs) : Calls Tryd.prog 90 #[v, .func (.func 91) #[] #[]] w fun e w' => ∃ r : Int, e = .returned (.int .i64 r) ∧ decide (0 ≤ r) = xs.any farB ∧ w' = w := by
  obtain ⟨aa, cp, rfl, hlen⟩ := h.form
  have HL : Hid (ListAt w icell 1 (.slice aa xs.length cp) xs) := h
  unfold maxLen at hlen
  clear h
  go_enter Tryd.func90, Tryd.ntmps90
  go_wp2_with fail
  go_loopw [8] (fun u wr => ∃ j : Nat, j ≤ xs.length ∧ u = .int .i64 (j : Int) ∧ Hid ((xs.take j).any farB = false) ∧ wr = w) (fun u _ => (xs.length - intOf u).toNat)
  case atStart => exact ⟨0, by omega, rfl, rfl, rfl⟩
  case round =>
    obtain ⟨j, j1, rfl, j2, rfl⟩ := hrel
    by_cases hj : j < xs.length
    · obtain ⟨y, hy⟩ : ∃ y, xs[j]? = some y := ⟨_, List.getElem?_eq_getElem (by omega)⟩
      obtain ⟨bb, oo, cap, hv, c1, c2, c3, c4⟩ := HL.out.resolve_left (by rintro ⟨_, _, _, h⟩; subst h; simp at hj)
      cases hv
      have d0 := c4 j y hy 0 (.int .i64 y) rfl
      rw [Nat.mul_one, Nat.add_zero] at d0
      have HY : Hid _ := hy
      clear c4 hy
      cases hk : farB y
      · go_wp2_with (go_at_call 91; refine (sfar_any _ _).mono ?_; rw [hk]; rintro e w1 ⟨rfl, hw1⟩; obtain rfl := hw1.symm)
        go_roundw
        case rel => exact ⟨j + 1, by omega, by go_num, any_next _ _ _ _ HY.out j2.out hk, trivial⟩
        case measure => simp [intOf]; omega
      · go_wp2_with (go_at_call 91; refine (sfar_any _ _).mono ?_; rw [hk]; rintro e w1 ⟨rfl, hw1⟩; obtain rfl := hw1.symm)
        go_ret
        exact ⟨_, rfl, by rw [any_hit _ _ _ _ HY.out hk]; simp, by first | rfl | trivial⟩
    · have hr : Hid (xs.any farB = false) := by have := j2.out; rwa [List.take_of_length_le (by omega)] at this
      go_wp2
      go_ret
      exact ⟨_, rfl, by rw [hr.out]; rfl, by first | rfl | trivial⟩
theorem shasFar_any (v : Value) (xs : List Int) (w : World) (h : ListAt w icell 1 v xs) : Calls Tryd.prog 46 #[v, .func (.func 91) #[] #[]] w fun e w' => e = .returned (.bool (xs.any farB)) ∧ w' = w := by
  have HH : Hid (ListAt w icell 1 v xs) := h
  clear h
  go_enter Tryd.func46, Tryd.ntmps46
  go_wp2_with (go_at_call 90; refine (sidxFar_any v xs w HH.out).mono ?_; rintro e w1 ⟨r, rfl, hr, hw1⟩; obtain rfl := hw1.symm)
  go_ret
  exact ⟨by rw [← hr]; rfl, rfl⟩
/-- P3.5: what a run is made of. -/
def runChk (m : Img) (ins : List Int) (fuel : Int) : Int := if imgChk m ≠ 0 then imgChk m else if fuel < 0 ∨ 100000 < fuel then 2 else if 100 < ins.length then 1 else if ins.any farB then 2 else 0
set_option maxRecDepth 100000 in
set_option maxHeartbeats 1000000 in
theorem rcheck_any (vT vF vB vD vL vI : Value) (m : Img) (ins : List Int) (fuel : Int) (w : World) (hI : ImgAt w vT vF vB vD vL m) (hok : m.ok) (hin : ListAt w icell 1 vI ins) :
    Calls Tryd.prog 56 #[.agg #[vT, vF, vB, vD, vL, .int .i64 m.entry], vI, .int .i64 fuel] w fun e w' => e = .returned (.int .i64 (runChk m ins fuel)) ∧ Below w.heap.size w w' := by
  obtain ⟨aT, cT, rfl, lT⟩ := hI.text.form
  obtain ⟨aF, cF, rfl, lF⟩ := hI.funcs.form
  obtain ⟨aD, cD, rfl, lD⟩ := hI.data.form
  obtain ⟨aL, cL, rfl, lL⟩ := hI.lines.form
  obtain ⟨vs, hv, -, -⟩ := hI.tables
  obtain ⟨aB, cB, rfl, lB⟩ := hv.form
  obtain ⟨aI, cI, rfl, lI⟩ := hin.form
  clear hv
  have BA : Hid (Below w.heap.size w (w.alloc (.cells #[.slice aT m.text.length cT, .slice aF m.funcs.length cF, .slice aB vs.length cB, .slice aD m.data.length cD, .slice aL m.lines.length cL, .int .i64 m.entry] 29))) := (Below.refl _ _).alloc (Nat.le_refl _) _
  have CK : Hid (Calls Tryd.prog 21 #[.agg #[.slice aT m.text.length cT, .slice aF m.funcs.length cF, .slice aB vs.length cB, .slice aD m.data.length cD, .slice aL m.lines.length cL, .int .i64 m.entry]] (w.alloc (.cells #[.slice aT m.text.length cT, .slice aF m.funcs.length cF, .slice aB vs.length cB, .slice aD m.data.length cD, .slice aL m.lines.length cL, .int .i64 m.entry] 29)) fun e w' => e = .returned (.int .i64 (imgChk m)) ∧ Below w.heap.size w w') :=
    (icheck_any _ _ _ _ _ m _ (hI.stays (Nat.le_refl _) BA.out) hok).mono fun e w' hh => ⟨hh.1, BA.out.trans (hh.2.mono (by simp))⟩
  have CF : Hid (∀ w', Below w.heap.size w w' → Calls Tryd.prog 46 #[.slice aI ins.length cI, .func (.func 91) #[] #[]] w' fun e w2 => e = .returned (.bool (ins.any farB)) ∧ w2 = w') := fun w' hb => shasFar_any _ ins w' (hin.stays (Nat.le_refl _) hb)
  have RC : Hid (runChk m ins fuel = if imgChk m ≠ 0 then imgChk m else if fuel < 0 ∨ 100000 < fuel then 2 else if 100 < ins.length then 1 else if ins.any farB then 2 else 0) := rfl
  generalize runChk m ins fuel = out at *
  unfold maxLen at lI
  clear hI hin hok lT lF lD lL lB
  by_cases hc : imgChk m = 0
  · rw [hc] at CK RC
    rw [if_neg (by simp)] at RC
    clear hc
    by_cases hf : fuel < 0
    · rw [if_pos (Or.inl hf)] at RC
      go_enter Tryd.func56, Tryd.ntmps56
      go_wp2_with (first | (go_at_call 21; refine CK.out.mono ?_; rintro e w1 ⟨rfl, hb⟩))
      go_ret
      exact ⟨by rw [RC.out]; rfl, hb⟩
    by_cases hf2 : 100000 < fuel
    · rw [if_pos (Or.inr hf2)] at RC
      go_enter Tryd.func56, Tryd.ntmps56
      go_wp2_with (first | (go_at_call 21; refine CK.out.mono ?_; rintro e w1 ⟨rfl, hb⟩))
      go_ret
      exact ⟨by rw [RC.out]; rfl, hb⟩
    rw [if_neg (by omega)] at RC
    by_cases hl : 100 < ins.length
    · rw [if_pos hl] at RC
      have hl' : (100 : Int) < (ins.length : Int) := by omega
      go_enter Tryd.func56, Tryd.ntmps56
      go_wp2_with (first | (go_at_call 21; refine CK.out.mono ?_; rintro e w1 ⟨rfl, hb⟩))
      go_ret
      exact ⟨by rw [RC.out]; rfl, hb⟩
    rw [if_neg hl] at RC
    have hl' : ¬ (100 : Int) < (ins.length : Int) := by omega
    generalize ins.any farB = fb at *
    cases fb
    all_goals
      go_enter Tryd.func56, Tryd.ntmps56
      go_wp2_with (first | (go_at_call 21; refine CK.out.mono ?_; rintro e w1 ⟨rfl, hb⟩) | (go_at_call 46; refine (CF.out _ hb).mono ?_; rintro e w2 ⟨rfl, rfl⟩))
      go_ret
      exact ⟨by rw [RC.out]; rfl, hb⟩
  · rw [if_pos hc] at RC
    have hz : (imgChk m != 0) = true := by simp [hc]
    have HC : Hid (¬ imgChk m = 0) := hc
    clear hc
    generalize imgChk m = z at *
    go_enter Tryd.func56, Tryd.ntmps56
    go_wp2_with (first | (go_at_call 21; refine CK.out.mono ?_; rintro e w1 ⟨rfl, hb⟩))
    go_ret
    exact ⟨by rw [RC.out]; rfl, hb⟩
end Go.Proofs.YtechpdfcgimkkaaDoor
/-
  package step: a run that has ended; what a run is made of.
-/
namespace Go.Proofs.YtechpdfcgimkkaaDoor
open Go.RowKit Go.Joins Isa
set_option maxRecDepth 100000 in
set_option maxHeartbeats 2000000 in
theorem ended_any (gm : Nat) (rs : List Vl) (vM vT vI : Value) (aO : Option Addr) (lO cO : Nat) (pc en st : Int) (w : World) (h : MachAt w gm rs vM vT vI (.slice aO lO cO) pc) :
    Calls Tryd.prog 59 #[.pointer (some ⟨gm, 0, none⟩), .int .i64 en, .int .i64 st] w fun e w' => e = .returned (.agg #[.slice aO lO cO, .int .i64 en, .int .i64 st, .int .i64 pc]) ∧ Below w.heap.size w w' := by
  obtain ⟨_, _, _, z3, z4, z5⟩ := h.rest
  have hg := h.lt
  clear h
  go_enter Tryd.func59, Tryd.ntmps59
  go_wp2_with fail
  go_region
  all_goals
    go_wp2_with fail
    refine bodyPost_ret (v := .agg #[.slice aO lO cO, .int .i64 en, .int .i64 st, .int .i64 pc]) (by simp [results, Tryd.results59, go_sem]) rfl ⟨rfl, ?_⟩
    first | exact (Below.refl _ _).alloc (Nat.le_refl _) _ | exact ((Below.refl _ _).alloc (Nat.le_refl _) _).drew | exact below_drewN ((Below.refl _ _).alloc (Nat.le_refl _) _) _
end Go.Proofs.YtechpdfcgimkkaaDoor
/-
  package step: a run, plain; what a run needs of an image that may be; how it ends in memory.
-/
namespace Go.Proofs.YtechpdfcgimkkaaDoor
open Go.RowKit Go.Joins Isa
/-- A run: n steps left, st done: the state, how it ended, how many steps. -/
def runN (text : List Int) (tabs : List (List Int)) : Nat → Int → Mc → Mc × Int × Int
  | 0, st, s => (s, 3, st)
  | n + 1, st, s =>
    if (decOut text s.pc).2.2 ≠ 0 then (s, 2, st)
    else if endN s.rs s.mem.length tabs (decOut text s.pc).1.k (decOut text s.pc).1.a (decOut text s.pc).1.b (decOut text s.pc).1.n ≠ 0 then (s, endN s.rs s.mem.length tabs (decOut text s.pc).1.k (decOut text s.pc).1.a (decOut text s.pc).1.b (decOut text s.pc).1.n, st)
    else runN text tabs n (st + 1) (doS tabs s (decOut text s.pc).1.k (decOut text s.pc).1.d (decOut text s.pc).1.a (decOut text s.pc).1.b (decOut text s.pc).1.n (decOut text s.pc).2.1)
structure Ru where
  told : List Int
  en : Int
  st : Int
  pc : Int
def noFn : Fn := ⟨ByteArray.empty, 0, 0⟩
def runOf (r : Mc × Int × Int) : Ru := ⟨r.1.told, r.2.1, r.2.2, r.1.pc⟩
/-- P3.5. -/
def runOut (m : Img) (ins : List Int) (fuel : Int) : Ru :=
  if runChk m ins fuel = 0 then runOf (runN m.text m.tables fuel.toNat 0 (mc0 m ins (m.funcs.getD m.entry.toNat noFn))) else ⟨[], 0, 0, 0⟩
theorem shW_bd (s : Int) : 0 ≤ shW s ∧ shW s ≤ 2 := by
  unfold shW
  generalize s.toNat = n
  have h : ∀ n, n < 11 → 0 ≤ ([0, 2, 1, 0, 1, 0, 0, 1, 1, 2, 1] : List Int).getD n 0 ∧ ([0, 2, 1, 0, 1, 0, 0, 1, 1, 2, 1] : List Int).getD n 0 ≤ 2 := by decide
  by_cases hn : n < 11
  · exact h n hn
  · rw [List.getD_eq_getElem?_getD, List.getElem?_eq_none (by simp; omega)]; simp
theorem siz_all (k : Int) (l : Bool) : 0 ≤ siz k l ∧ siz k l ≤ 10 := by
  have h := shW_bd (opS k)
  unfold siz wid kW
  cases l <;> simp only [if_true, if_false, Bool.false_eq_true] <;> repeat' split
  all_goals omega
theorem dec_ok {ns : List Int} {p : Int} (h : (decOut ns p).2.2 = 0) : 0 ≤ p ∧ p < ns.length ∧ (decOut ns p).1.chk = 0 ∧ 0 ≤ (decOut ns p).2.1 ∧ (decOut ns p).2.1 ≤ 10 := by
  unfold decOut at *
  by_cases h1 : p < 0 ∨ ns.length ≤ p
  · rw [if_pos h1] at h; simp at h
  · rw [if_neg h1] at *
    dsimp only at *
    split at h
    · simp at h
    · rename_i h2
      rw [if_neg h2]
      split at h
      · simp at h
      · rename_i h3
        rw [if_neg h3]
        split at h
        · rename_i h4
          rw [if_pos h4]
          exact ⟨by omega, by omega, h4, (siz_all _ _).1, (siz_all _ _).2⟩
        · simp at h
theorem runChk_ok {m : Img} {ins : List Int} {fuel : Int} (h : runChk m ins fuel = 0) : imgChk m = 0 ∧ 0 ≤ fuel ∧ fuel ≤ 100000 ∧ ins.length ≤ 100 ∧ ∀ x ∈ ins, (-1099511627776 : Int) ≤ x ∧ x ≤ 1099511627776 := by
  unfold runChk at h
  split at h
  · rename_i h1; exact absurd h h1
  · rename_i h1
    split at h
    · simp at h
    · split at h
      · simp at h
      · split at h
        · simp at h
        · rename_i h2 h3 h4
          refine ⟨by simpa using h1, by omega, by omega, by omega, fun x hx => ?_⟩
          simp [farB] at h4
          exact h4 x hx
theorem imgChk_ok {m : Img} (h : imgChk m = 0) : m.text.length ≤ 8000 ∧ 0 ≤ m.entry ∧ m.entry < m.funcs.length ∧ m.data.length ≤ 64 ∧ ∀ x ∈ m.data, (-1099511627776 : Int) ≤ x ∧ x ≤ 1099511627776 := by
  unfold imgChk at h
  split at h
  · simp at h
  · split at h
    · rename_i h1; exact absurd h h1
    · split at h
      · simp at h
      · split at h
        · simp at h
        · split at h
          · rename_i h1; exact absurd h h1
          · split at h
            · simp at h
            · rename_i h1 h2 h3 h4 h5 h6
              refine ⟨by omega, by omega, by omega, by omega, fun x hx => ?_⟩
              have h7 : ¬ (x < -1099511627776 ∨ 1099511627776 < x) := fun hh => h6 ⟨x, hx, hh⟩
              omega
theorem mcok0 {m : Img} {ins : List Int} {fuel : Int} (h : runChk m ins fuel = 0) (f : Fn) : McOk (mc0 m ins f) := by
  obtain ⟨h1, _, _, _, h2⟩ := runChk_ok h
  obtain ⟨_, _, _, _, h3⟩ := imgChk_ok h1
  refine ⟨?_, ?_, h2⟩
  · intro v hv
    have : v = ⟨0, false⟩ := List.eq_of_mem_replicate hv
    subst this
    decide
  · intro v hv
    obtain ⟨x, hx, rfl⟩ := List.mem_map.1 hv
    exact h3 x hx
theorem fin_run {w0 W w2 : World} {B gm gd g : Nat} {vT vI vO x0 x1 x2 x3 : Value} {s : Mc} (h : MSt w0 W B gm gd vT vI vO s) (hb : Below W.heap.size W w2) (hg : w0.heap[g]? = some (.cells #[x0, x1, x2, x3] 52)) :
    w2.heap[g]? = some (.cells #[x0, x1, x2, x3] 52) ∧ ∀ y0 y1 y2 y3, World.ownsRow ((((w2.setCell ⟨g, 0, none⟩ y0).setCell ⟨g, 1, none⟩ y1).setCell ⟨g, 2, none⟩ y2).setCell ⟨g, 3, none⟩ y3) B 3 1 vO s.told.length (flat icell s.told) ∧
      ∀ wb : World, wb.heap.size ≤ g → Below wb.heap.size wb w0 → Below wb.heap.size wb ((((w2.setCell ⟨g, 0, none⟩ y0).setCell ⟨g, 1, none⟩ y1).setCell ⟨g, 2, none⟩ y2).setCell ⟨g, 3, none⟩ y3) := by
  have u := h.up hb
  have hl : g < w0.heap.size := (Array.getElem?_eq_some_iff.1 hg).1
  have hg2 : w2.heap[g]? = some (.cells #[x0, x1, x2, x3] 52) := (u.base.block g (by have := u.hB; omega)).trans hg
  refine ⟨hg2, fun y0 y1 y2 y3 => ?_⟩
  have C := ((((Chg.refl hg2).set 0 y0).set 1 y1).set 2 y2).set 3 y3
  refine ⟨row_same u.told fun k hk => ?_, fun wb hwb h0 => h0.trans ((u.base.mono ?_).trans (C.below hwb))⟩
  · obtain ⟨_, cur, hgk⟩ := row_block u.told hk
    exact C.rest k (Array.getElem?_eq_some_iff.1 hgk).1 (by rintro rfl; rw [hg2] at hgk; simp at hgk)
  · have := h0.size; have := u.hB; omega
theorem text_of {w : World} {v : Value} {ns : List Int} (h : ListAt w ucell 1 v ns) (hx : ∀ x ∈ ns, 0 ≤ x ∧ x ≤ 255) : TextAt w v ns := by
  refine ⟨hx, h.imp id ?_⟩
  rintro ⟨bb, oo, cap, h1, h2, h3, h4, h5⟩
  refine ⟨bb, oo, cap, h1, h2, h3, h4, fun j x hj => ?_⟩
  have := h5 j x hj 0 _ rfl
  rwa [Nat.mul_one, Nat.add_zero] at this
theorem text_up {w w' : World} {v : Value} {ns : List Int} (h : TextAt w v ns) (hb : Below w.heap.size w w') : TextAt w' v ns := by
  refine ⟨h.1, h.2.imp id ?_⟩
  rintro ⟨bb, oo, cap, h1, h2, h3, h4, h5⟩
  exact ⟨bb, oo, cap, h1, h2, h3, Nat.lt_of_lt_of_le h4 hb.size, fun j x hj => (hb.cell (p := ⟨bb, _, none⟩) h4).trans (h5 j x hj)⟩
theorem mem_step {s : Mc} {tabs : List (List Int)} {k d a b n sz : Int} : (doS tabs s k d a b n sz).mem.length = s.mem.length := by
  unfold doS
  repeat (first | refine iteP (fun x : Mc => x.mem.length = s.mem.length) (by simp) ?_)
  simp
theorem chain4 {w2 : World} {g : Nat} {T : TypeId} {x0 x1 x2 x3 : Value} (h : w2.heap[g]? = some (.cells #[x0, x1, x2, x3] T)) (y0 y1 y2 y3 : Value) :
    ((((w2.setCell ⟨g, 0, none⟩ y0).setCell ⟨g, 1, none⟩ y1).setCell ⟨g, 2, none⟩ y2).setCell ⟨g, 3, none⟩ y3).cell? ⟨g, 0, none⟩ = some y0 ∧ ((((w2.setCell ⟨g, 0, none⟩ y0).setCell ⟨g, 1, none⟩ y1).setCell ⟨g, 2, none⟩ y2).setCell ⟨g, 3, none⟩ y3).cell? ⟨g, 1, none⟩ = some y1 ∧
    ((((w2.setCell ⟨g, 0, none⟩ y0).setCell ⟨g, 1, none⟩ y1).setCell ⟨g, 2, none⟩ y2).setCell ⟨g, 3, none⟩ y3).cell? ⟨g, 2, none⟩ = some y2 ∧ ((((w2.setCell ⟨g, 0, none⟩ y0).setCell ⟨g, 1, none⟩ y1).setCell ⟨g, 2, none⟩ y2).setCell ⟨g, 3, none⟩ y3).cell? ⟨g, 3, none⟩ = some y3 := by
  have C := (((((Chg.refl h).set 0 y0).set 1 y1).set 2 y2).set 3 y3).new
  refine ⟨?_, ?_, ?_, ?_⟩
  all_goals (simp only [World.cell?, C]; rfl)
end Go.Proofs.YtechpdfcgimkkaaDoor
