/-
  package step: the machine in memory; its tests ahead of a step.
-/
import Derived.Test.YtechpdfcgimkkaaDoorWalkStC
import Derived.Test.YtechpdfcgimkkaaDoorMCC
import Derived.BigQuiet
import Derived.Deep.QuietTactic
import Derived.Test.YtechpdfcgimkkaaDoorMBC
import Derived.Deep.RegionWith
import Derived.Laws.Closers25b
namespace Go.Proofs.YtechpdfcgimkkaaDoor
open Go.RowKit Go.Joins Isa
/-- A value: a number, or an address of code. -/
structure Vl where
  n : Int
  c : Bool
def Vl.cells (v : Vl) : List Value := [.int .i64 v.n, .bool v.c]
theorem vlcell_len (v : Vl) : (Vl.cells v).length = 2 := rfl
/-- A machine's box. -/
structure MachAt (w : World) (gm : Nat) (rs : List Vl) (vM vT vI vO : Value) (pc : Int) : Prop where
  len : rs.length = 8
  box : w.heap[gm]? = some (.cells (flat Vl.cells rs ++ [vM, vT, vI, vO, .int .i64 pc]).toArray 105)
theorem MachAt.lt {w : World} {gm : Nat} {rs : List Vl} {vM vT vI vO : Value} {pc : Int} (h : MachAt w gm rs vM vT vI vO pc) : gm < w.heap.size := (Array.getElem?_eq_some_iff.1 h.box).1
theorem MachAt.up {w w' : World} {gm : Nat} {rs : List Vl} {vM vT vI vO : Value} {pc : Int} (h : MachAt w gm rs vM vT vI vO pc) (hb : Below w.heap.size w w') : MachAt w' gm rs vM vT vI vO pc := ⟨h.len, (hb.block gm h.lt).trans h.box⟩
theorem MachAt.reg {w : World} {gm : Nat} {rs : List Vl} {vM vT vI vO : Value} {pc : Int} (h : MachAt w gm rs vM vT vI vO pc) (i : Nat) (hi : i < 8) : ∃ v, rs[i]? = some v ∧ w.cell? ⟨gm, i * 2, none⟩ = some (.int .i64 v.n) ∧ w.cell? ⟨gm, i * 2 + 1, none⟩ = some (.bool v.c) ∧ w.frozen? ⟨gm, i * 2, none⟩ = false ∧ w.frozen? ⟨gm, i * 2 + 1, none⟩ = false := by
  have hl := h.len
  refine ⟨rs[i], List.getElem?_eq_getElem (by omega), ?_, ?_, by simp [World.frozen?, h.box], by simp [World.frozen?, h.box]⟩
  all_goals
    simp only [World.cell?, h.box]
    rw [List.getElem?_toArray, List.getElem?_append_left (by rw [flat_len vlcell_len, hl]; omega)]
  · rw [show i * 2 = i * 2 + 0 by omega, flat_at vlcell_len rs i rs[i] (List.getElem?_eq_getElem (by omega)) 0 (by decide)]; rfl
  · rw [flat_at vlcell_len rs i rs[i] (List.getElem?_eq_getElem (by omega)) 1 (by decide)]; rfl
theorem MachAt.rest {w : World} {gm : Nat} {rs : List Vl} {vM vT vI vO : Value} {pc : Int} (h : MachAt w gm rs vM vT vI vO pc) : w.cell? ⟨gm, 16, none⟩ = some vM ∧ w.cell? ⟨gm, 17, none⟩ = some vT ∧ w.cell? ⟨gm, 18, none⟩ = some vI ∧ w.cell? ⟨gm, 19, none⟩ = some vO ∧ w.cell? ⟨gm, 20, none⟩ = some (.int .i64 pc) ∧ ∀ o, w.frozen? ⟨gm, o, none⟩ = false := by
  have hl := h.len
  have hf := flat_len vlcell_len rs
  rw [hl] at hf
  refine ⟨?_, ?_, ?_, ?_, ?_, fun o => by simp [World.frozen?, h.box]⟩
  all_goals
    simp only [World.cell?, h.box]
    rw [List.getElem?_toArray, List.getElem?_append_right (by omega), hf]
    rfl
theorem below_drewN {B : Nat} {W w1 : World} (h : Below B W w1) (n : Nat) : Below B W (w1.drewN n) := ⟨h.os, h.tape, h.output, h.size, h.block⟩
/-- isGuarded: P3.4. -/
def guardB (rs : List Vl) (k a b : Int) : Bool := if k = 3 then !((rs.getD 7 ⟨0, false⟩).c) else (needA k && (rs.getD a.toNat ⟨0, false⟩).c) || (needB k && (rs.getD b.toNat ⟨0, false⟩).c)
set_option maxRecDepth 100000 in
set_option maxHeartbeats 2000000 in
theorem guarded_any (gm : Nat) (rs : List Vl) (vM vT vI vO : Value) (pc k d a b n : Int) (l : Bool) (w : World) (h : MachAt w gm rs vM vT vI vO pc) (a0 : 0 ≤ a) (a1 : a < 8) (b0 : 0 ≤ b) (b1 : b < 8) :
    Calls Tryd.prog 97 #[.pointer (some ⟨gm, 0, none⟩), .agg #[.int .i64 k, .int .i64 d, .int .i64 a, .int .i64 b, .int .i64 n, .bool l]] w fun e w' => e = .returned (.bool (guardB rs k a b)) ∧ Below w.heap.size w w' := by
  obtain ⟨A, rfl⟩ := Int.eq_ofNat_of_zero_le a0
  obtain ⟨B, rfl⟩ := Int.eq_ofNat_of_zero_le b0
  obtain ⟨va, ra, p1, p2, _, _⟩ := h.reg A (by omega)
  obtain ⟨vb, rb, q1, q2, _, _⟩ := h.reg B (by omega)
  obtain ⟨vl, rl, t1, t2, _, _⟩ := h.reg 7 (by omega)
  have hg := h.lt
  have ga : rs.getD ((A : Int)).toNat ⟨0, false⟩ = va := by rw [Int.toNat_natCast, List.getD_eq_getElem?_getD, ra]; rfl
  have gb : rs.getD ((B : Int)).toNat ⟨0, false⟩ = vb := by rw [Int.toNat_natCast, List.getD_eq_getElem?_getD, rb]; rfl
  have gl : rs.getD 7 ⟨0, false⟩ = vl := by rw [List.getD_eq_getElem?_getD, rl]; rfl
  have HG : Hid (guardB rs k A B = if k = 3 then !vl.c else (needA k && va.c) || (needB k && vb.c)) := by show _ = _; unfold guardB; rw [ga, gb, gl]
  clear ga gb gl ra rb rl h
  by_cases hk : k = 3
  · rw [if_pos hk] at HG
    have HG' : Hid (guardB rs 3 A B = !vl.c) := by show _ = _; rw [← hk]; exact HG.out
    subst hk
    go_enter Tryd.func97, Tryd.ntmps97
    go_wp2
    go_ret
    exact ⟨by rw [HG'.out]; rfl, by go_grown⟩
  · rw [if_neg hk] at HG
    have hk' : (k == 3) = false := by simp [hk]
    clear hk
    obtain ⟨na, hna⟩ : ∃ x, needA k = x := ⟨_, rfl⟩
    obtain ⟨nb, hnb⟩ : ∃ x, needB k = x := ⟨_, rfl⟩
    obtain ⟨an, ac⟩ := va
    obtain ⟨bn, bc⟩ := vb
    have NA : ∀ w, Calls Tryd.prog 122 #[.int .i64 k] w fun e w' => e = .returned (.bool na) ∧ w' = w := fun w => by rw [← hna]; exact needa_any k w
    have NB : ∀ w, Calls Tryd.prog 123 #[.int .i64 k] w fun e w' => e = .returned (.bool nb) ∧ w' = w := fun w => by rw [← hnb]; exact needb_any k w
    rw [hna, hnb] at HG
    have HNA : Hid _ := NA
    have HNB : Hid _ := NB
    clear hna hnb NA NB
    simp only at p1 p2 q1 q2
    cases na <;> cases ac <;> cases nb <;> cases bc
    all_goals
      go_enter Tryd.func97, Tryd.ntmps97
      go_wp2_with fail
      go_quiet (first | (go_at_call 122; exact Calls.quiet_of_same (HNA.out _)) | (go_at_call 123; exact Calls.quiet_of_same (HNB.out _)))
      go_wp2
      go_ret
      exact ⟨by rw [HG.out]; rfl, below_drewN ((Below.refl _ _).alloc (Nat.le_refl _) _) _⟩
end Go.Proofs.YtechpdfcgimkkaaDoor
/-
  package step: products, operations, the next input.
-/
namespace Go.Proofs.YtechpdfcgimkkaaDoor
open Go.RowKit Go.Joins Isa
theorem rem64_any (hi lo : Nat) (w : World) (h : hi ≤ 65536) (hl : lo < 18446744073709551616) :
    Calls Tryd.prog 131 #[.int .u64 hi, .int .u64 lo, .int .u64 2199023255553] w fun e w' => e = .returned (.int .u64 (((hi * 18446744073709551616 + lo) % 2199023255553 : Nat) : Int)) ∧ ∃ m, w' = w.drewN m := by
  obtain ⟨Z, hZ⟩ : ∃ Z : Nat, (hi * 18446744073709551616 + lo) % 2199023255553 = Z := ⟨_, rfl⟩
  have DV : Hid (∀ w, Calls Tryd.prog 136 #[.int .u64 hi, .int .u64 lo, .int .u64 2199023255553] w fun e w' => (∃ q : Int, e = .returned (.tuple #[.int .u64 q, .int .u64 (Z : Int)])) ∧ ∃ m, w' = w.drewN m) := by
    intro w
    rcases Nat.eq_zero_or_pos hi with h0 | h0
    · subst h0
      rw [Nat.zero_mul, Nat.zero_add] at hZ
      rw [← hZ]
      exact div64_low lo w hl
    · rw [← hZ]
      exact (div64_any hi lo w h0 h hl).mono fun e w' hh => ⟨hh.1, 0, by rw [hh.2]; rfl⟩
  rw [hZ]
  have r1 : (hi : Int) % 2199023255553 = (hi : Int) := by omega
  have r2 : IntKind.u64.wrap ((hi : Int).tmod 2199023255553) = (hi : Int) := by rw [Int.tmod_eq_emod_of_nonneg (by omega), r1]; exact wrapu hi (by omega)
  clear hZ
  go_enter Tryd.func131, Tryd.ntmps131
  go_wp2_with (first | (go_at_call 136; refine (DV.out _).mono ?_; rintro e w' ⟨⟨q, rfl⟩, m, rfl⟩))
  go_ret
  exact ⟨rfl, _, rfl⟩
theorem mag_any (n : Int) (w : World) (h1 : -1099511627776 ≤ n) (h2 : n ≤ 1099511627776) : Calls Tryd.prog 130 #[.int .i64 n] w fun e w' => e = .returned (.int .u64 (n.natAbs : Int)) ∧ w' = w := by
  have e1 : 0 ≤ n → IntKind.u64.wrap n = (n.natAbs : Int) := fun h => by rw [IntKind.wrap_u64]; omega
  have e2 : n < 0 → IntKind.u64.wrap (-n) = (n.natAbs : Int) := fun h => by rw [IntKind.wrap_u64]; omega
  by_cases h0 : n < 0
  · have e3 := e2 h0
    clear e1 e2
    go_enter Tryd.func130, Tryd.ntmps130
    go_wp2
    go_ret
    exact ⟨by first | rfl | (rw [← e3]; rfl) | (congr 2; omega), rfl⟩
  · have e3 := e1 (by omega)
    clear e1 e2
    go_enter Tryd.func130, Tryd.ntmps130
    go_wp2
    go_ret
    exact ⟨by first | rfl | (rw [← e3]; rfl) | (congr 2; omega), rfl⟩
theorem foldN_mod (x : Nat) : foldN ((x % 2199023255553 : Nat) : Int) = foldN (x : Int) := by
  unfold foldN
  have e : (((x % 2199023255553 : Nat) : Int)).tmod 2199023255553 = (x : Int).tmod 2199023255553 := by
    rw [Int.tmod_eq_emod_of_nonneg (by omega), Int.tmod_eq_emod_of_nonneg (by omega)]; omega
  rw [e]
theorem foldN_neg (x : Int) : foldN (-x) = - foldN x := by
  unfold foldN
  rw [Int.neg_tmod]
  have h1 : x.tmod 2199023255553 < 2199023255553 := Int.tmod_lt_of_pos _ (by decide)
  generalize x.tmod 2199023255553 = y at *
  split <;> split <;> (try split) <;> omega
theorem natAbs_mul_pos (a b : Int) (h : ¬ ((a < 0) ↔ ¬ (b < 0))) : ((a.natAbs * b.natAbs : Nat) : Int) = a * b := by
  rw [Int.natCast_mul]
  by_cases ha : a < 0
  · have hb : b < 0 := by omega
    rw [Int.ofNat_natAbs_of_nonpos (by omega), Int.ofNat_natAbs_of_nonpos (by omega), Int.neg_mul_neg]
  · rw [Int.natAbs_of_nonneg (by omega), Int.natAbs_of_nonneg (by omega)]
theorem natAbs_mul_neg (a b : Int) (h : (a < 0) ↔ ¬ (b < 0)) : ((a.natAbs * b.natAbs : Nat) : Int) = -(a * b) := by
  rw [Int.natCast_mul]
  by_cases ha : a < 0
  · rw [Int.ofNat_natAbs_of_nonpos (by omega), Int.natAbs_of_nonneg (by omega), Int.neg_mul]
  · rw [Int.natAbs_of_nonneg (by omega), Int.ofNat_natAbs_of_nonpos (by omega), Int.mul_neg]
set_option maxHeartbeats 1000000 in
theorem product_any (a b : Int) (w : World) (a1 : -1099511627776 ≤ a) (a2 : a ≤ 1099511627776) (b1 : -1099511627776 ≤ b) (b2 : b ≤ 1099511627776) : Calls Tryd.prog 125 #[.int .i64 a, .int .i64 b] w fun e w' => e = .returned (.int .i64 (foldN (a * b))) ∧ ∃ m, w' = w.drewN m := by
  obtain ⟨A, hA⟩ : ∃ A : Nat, a.natAbs = A := ⟨_, rfl⟩
  obtain ⟨B, hB⟩ : ∃ B : Nat, b.natAbs = B := ⟨_, rfl⟩
  have hA1 : A ≤ 1099511627776 := by omega
  have hB1 : B ≤ 1099511627776 := by omega
  have hx := Nat.mul_le_mul hA1 hB1
  obtain ⟨X, hX⟩ : ∃ X : Nat, A * B = X := ⟨_, rfl⟩
  obtain ⟨Z, hZ⟩ : ∃ Z : Nat, X % 2199023255553 = Z := ⟨_, rfl⟩
  obtain ⟨hi, hhi⟩ : ∃ hi : Nat, X / 18446744073709551616 = hi := ⟨_, rfl⟩
  obtain ⟨lo, hlo⟩ : ∃ lo : Nat, X % 18446744073709551616 = lo := ⟨_, rfl⟩
  have hh : hi ≤ 65536 := by rw [← hhi]; exact Nat.div_le_of_le_mul (by rw [← hX]; exact Nat.le_trans hx (by decide))
  have hl : lo < 18446744073709551616 := by rw [← hlo]; exact Nat.mod_lt _ (by decide)
  have hs : hi * 18446744073709551616 + lo = X := by rw [← hhi, ← hlo, Nat.mul_comm]; exact Nat.div_add_mod X 18446744073709551616
  have MA : Hid (∀ w, Calls Tryd.prog 130 #[.int .i64 a] w fun e w' => e = .returned (.int .u64 (A : Int)) ∧ w' = w) := fun w => by rw [← hA]; exact mag_any a w a1 a2
  have MB : Hid (∀ w, Calls Tryd.prog 130 #[.int .i64 b] w fun e w' => e = .returned (.int .u64 (B : Int)) ∧ w' = w) := fun w => by rw [← hB]; exact mag_any b w b1 b2
  have MU : Hid (∀ w, Calls Tryd.prog 129 #[.int .u64 A, .int .u64 B] w fun e w' => e = .returned (.tuple #[.int .u64 (hi : Int), .int .u64 (lo : Int)]) ∧ w' = w) := fun w => by
    have := sh_bits_Mul64 A B (by omega) (by omega) w
    rw [hX, hhi, hlo] at this
    exact this
  have RE : Hid (∀ w, Calls Tryd.prog 131 #[.int .u64 hi, .int .u64 lo, .int .u64 2199023255553] w fun e w' => e = .returned (.int .u64 (Z : Int)) ∧ ∃ m, w' = w.drewN m) := fun w => by
    have := rem64_any hi lo w hh hl
    rw [hs, hZ] at this
    exact this
  have hZ2 : Z < 2199023255553 := by rw [← hZ]; exact Nat.mod_lt _ (by decide)
  have FP : Hid (¬ ((a < 0) ↔ ¬ (b < 0)) → foldN (Z : Int) = foldN (a * b)) := fun h => by rw [← hZ, foldN_mod, ← hX, ← hA, ← hB, natAbs_mul_pos a b h]
  have FN : Hid (((a < 0) ↔ ¬ (b < 0)) → - foldN (Z : Int) = foldN (a * b)) := fun h => by rw [← hZ, foldN_mod, ← hX, ← hA, ← hB, natAbs_mul_neg a b h, foldN_neg, Int.neg_neg]
  have FF : Hid (∀ w, Calls Tryd.prog 99 #[.int .i64 (Z : Int)] w fun e w' => e = .returned (.int .i64 (foldN (Z : Int))) ∧ w' = w) := fun w => fold_any Z w (by omega) (by omega)
  have fb := foldN_bd (Z : Int)
  obtain ⟨fb1, fb2⟩ := fb
  generalize hab : foldN (a * b) = out at *
  generalize foldN (Z : Int) = f at *
  clear hx hX hZ hhi hlo hs hh hl hA hB hA1 hB1 hab
  have wz : IntKind.i64.wrap (Z : Int) = (Z : Int) := by rw [IntKind.wrap_i64]; omega
  have da : (a < 0 ∧ decide (a < 0) = true) ∨ (¬ a < 0 ∧ decide (a < 0) = false) := by by_cases h : a < 0 <;> simp [h]
  have db : (b < 0 ∧ decide (b < 0) = true) ∨ (¬ b < 0 ∧ decide (b < 0) = false) := by by_cases h : b < 0 <;> simp [h]
  rcases da with ⟨ha, da⟩ | ⟨ha, da⟩ <;> rcases db with ⟨hb, db⟩ | ⟨hb, db⟩
  all_goals
    go_enter Tryd.func125, Tryd.ntmps125
    go_wp2_with (first | (go_at_call_of 130 (Value.int IntKind.i64 a); refine (MA.out _).mono ?_; rintro e w' ⟨rfl, rfl⟩) | (go_at_call 130; refine (MB.out _).mono ?_; rintro e w' ⟨rfl, rfl⟩) | (go_at_call 129; refine (MU.out _).mono ?_; rintro e w' ⟨rfl, rfl⟩) | (go_at_call 131; refine (RE.out _).mono ?_; rintro e w1 ⟨rfl, m, rfl⟩) | (go_at_call 99; refine (FF.out _).mono ?_; rintro e w' ⟨rfl, rfl⟩))
    go_ret
    refine ⟨?_, _, rfl⟩
    first | (rw [← FP.out (by omega)]; rfl) | (rw [← FN.out (by omega)]; rfl)
def operN (k a b : Int) : Int := if k = 7 then foldN (a + b) else if k = 8 then foldN (a - b) else if k = 9 then foldN (a * b) else if k = 10 then foldN (bits .and .i64 a b) else if k = 11 then foldN (bits .or .i64 a b) else if k = 12 then foldN (bits .xor .i64 a b) else if a < b then 1 else 0
end Go.Proofs.YtechpdfcgimkkaaDoor
/-
  package step: is there the word, or the address, that an instruction asks for? How a run ends ahead of it.
-/
namespace Go.Proofs.YtechpdfcgimkkaaDoor
open Go.RowKit Go.Joins Isa
/-- isThere: P3.4. -/
def thereB (rs : List Vl) (mem : Int) (tabs : List (List Int)) (k a n : Int) : Bool :=
  if k = 14 ∨ k = 15 then placeB ((rs.getD a.toNat ⟨0, false⟩).n + n) mem else if k = 24 then placeB n tabs.length && placeB (rs.getD a.toNat ⟨0, false⟩).n (tabs.getD n.toNat []).length else true
set_option maxRecDepth 100000 in
set_option maxHeartbeats 2000000 in
theorem there_any (gm : Nat) (rs : List Vl) (aM : Option Addr) (lM cM : Nat) (vT vI vO : Value) (tabs : List (List Int)) (us : List Value) (pc k d a b n : Int) (l : Bool) (w : World) (h : MachAt w gm rs (.slice aM lM cM) vT vI vO pc) (a0 : 0 ≤ a) (a1 : a < 8)
    (hT : ListAt w vcell 1 vT us) (hU' : us.length = tabs.length) (hE : ∀ (j : Nat) (u : Value) (t : List Int), us[j]? = some u → tabs[j]? = some t → ListAt w icell 1 u t)
    (hr : ∀ v ∈ rs, -1099511627776 ≤ v.n ∧ v.n ≤ 1099511627776) (n0 : -32768 ≤ n) (n1 : n ≤ 32767) (_hlM : lM ≤ maxLen) :
    Calls Tryd.prog 98 #[.pointer (some ⟨gm, 0, none⟩), .agg #[.int .i64 k, .int .i64 d, .int .i64 a, .int .i64 b, .int .i64 n, .bool l]] w fun e w' => e = .returned (.bool (thereB rs lM tabs k a n)) ∧ Below w.heap.size w w' := by
  have hU : Hid (us.length = tabs.length) := hU'
  clear hU'
  obtain ⟨A, rfl⟩ := Int.eq_ofNat_of_zero_le a0
  obtain ⟨va, ra, p1, p2, _, _⟩ := h.reg A (by omega)
  obtain ⟨z0, z1, _, _, _, _⟩ := h.rest
  obtain ⟨r0, r1⟩ := hr va (List.mem_of_getElem? ra)
  have hg := h.lt
  have ga : rs.getD ((A : Int)).toNat ⟨0, false⟩ = va := by rw [Int.toNat_natCast, List.getD_eq_getElem?_getD, ra]; rfl
  obtain ⟨aT, cT, hvT, hTl⟩ := hT.form
  subst hvT
  unfold maxLen at _hlM hTl
  have HG : Hid (thereB rs lM tabs k A n = if k = 14 ∨ k = 15 then placeB (va.n + n) lM else if k = 24 then placeB n tabs.length && placeB va.n (tabs.getD n.toNat []).length else true) := by show _ = _; unfold thereB; rw [ga]
  obtain ⟨an, ac⟩ := va
  simp only at p1 p2 r0 r1 HG
  clear ga ra h hr
  have BX : Hid (∀ (wx : World) (m : Nat), (w.alloc (.cells #[.int .i64 k, .int .i64 d, .int .i64 (A : Int), .int .i64 b, .int .i64 n, .bool l] 61)).drewN m = wx → Below w.heap.size w wx) := fun wx m h => by rw [← h]; exact below_drewN ((Below.refl _ _).alloc (Nat.le_refl _) _) _
  have YY : Hid (∀ (wx : World) (m : Nat), (w.alloc (.cells #[.int .i64 k, .int .i64 d, .int .i64 (A : Int), .int .i64 b, .int .i64 n, .bool l] 61)).drewN m = wx → wx.cell? ⟨w.heap.size, 4, none⟩ = some (.int .i64 n)) := fun wx m h => by rw [← h]; exact World.cell?_alloc_new _ _ _ _
  by_cases k14 : k = 14 ∨ k = 15
  · rw [if_pos k14] at HG
    have hw : IntKind.i64.wrap (an + n) = an + n := by rw [IntKind.wrap_i64]; omega
    have PL : Hid (∀ w, Calls Tryd.prog 124 #[.int .i64 (an + n), .int .i64 (lM : Int)] w fun e w' => e = .returned (.bool (placeB (an + n) lM)) ∧ w' = w) := fun w => place_any _ _ w
    have hk : (k == 14) = true ∨ ((k == 14) = false ∧ (k == 15) = true) := by rcases k14 with rfl | rfl <;> simp
    clear k14
    rcases hk with hk | ⟨hk, hk2⟩
    all_goals
      go_enter Tryd.func98, Tryd.ntmps98
      go_wp2_with fail
      go_quiet (fail)
      go_wp2_with fail
      obtain ⟨wx, hwx⟩ : ∃ wx, (w.alloc (.cells #[.int .i64 k, .int .i64 d, .int .i64 (A : Int), .int .i64 b, .int .i64 n, .bool l] 61)).drewN nq = wx := ⟨_, rfl⟩
      have bx := BX.out _ nq hwx
      have y4 := YY.out _ nq hwx
      rw [hwx]
      clear hwx
      have z0' := (bx.cell (p := ⟨gm, 16, none⟩) hg).trans z0
      have z1' := (bx.cell (p := ⟨gm, 17, none⟩) hg).trans z1
      have zz := bx.size
      go_quiet ((go_at_call 124; exact Calls.quiet_of_same (PL.out _)))
      go_wp2
      go_ret
      exact ⟨by rw [HG.out]; rfl, below_drewN bx _⟩
  rw [if_neg k14] at HG
  have d14 : (k == 14) = false := by simp; omega
  have d15 : (k == 15) = false := by simp; omega
  by_cases k24 : k = 24
  · rw [if_pos k24] at HG
    have d24 : (k == 24) = true := by simp [k24]
    clear k14 k24
    by_cases hn : 0 ≤ n ∧ n < (us.length : Int)
    · obtain ⟨hn0, hn1⟩ := hn
      obtain ⟨N, rfl⟩ := Int.eq_ofNat_of_zero_le hn0
      obtain ⟨u, hu⟩ : ∃ u, us[N]? = some u := ⟨_, List.getElem?_eq_getElem (by omega)⟩
      have hU1 := hU.out
      obtain ⟨t, ht⟩ : ∃ t, tabs[N]? = some t := ⟨_, List.getElem?_eq_getElem (by omega)⟩
      clear hU1
      obtain ⟨bb, oo, cap, hv, c1, c2, c3, c4⟩ := hT.resolve_left (by rintro ⟨_, _, _, hh⟩; subst hh; simp at hn1; omega)
      cases hv
      have e0 : w.cell? ⟨bb, oo + N, none⟩ = some u := by have := c4 N u hu 0 u rfl; rwa [Nat.mul_one, Nat.add_zero] at this
      obtain ⟨at', ct, hvt, htl⟩ := (hE N u t hu ht).form
      subst hvt
      unfold maxLen at htl
      have hp1 : placeB (N : Int) us.length = true := by unfold placeB; simp; omega
      have HG' : Hid (thereB rs lM tabs k A N = placeB an t.length) := by
        show _ = _
        rw [HG.out, ← hU.out, hp1, Bool.true_and, Int.toNat_natCast, List.getD_eq_getElem?_getD, ht]; rfl
      have PL : Hid (∀ w, Calls Tryd.prog 124 #[.int .i64 (N : Int), .int .i64 (us.length : Int)] w fun e w' => e = .returned (.bool true) ∧ w' = w) := fun w => by rw [← hp1]; exact place_any _ _ w
      have PL2 : Hid (∀ w, Calls Tryd.prog 124 #[.int .i64 an, .int .i64 (t.length : Int)] w fun e w' => e = .returned (.bool (placeB an t.length)) ∧ w' = w) := fun w => place_any _ _ w
      clear c4 HG hu ht hE PL PL2 hT
      go_enter Tryd.func98, Tryd.ntmps98
      go_wp2_with fail
      go_quiet (fail)
      go_wp2_with fail
      obtain ⟨wx, hwx⟩ : ∃ wx, (w.alloc (.cells #[.int .i64 k, .int .i64 d, .int .i64 (A : Int), .int .i64 b, .int .i64 (N : Int), .bool l] 61)).drewN nq = wx := ⟨_, rfl⟩
      have bx := BX.out _ nq hwx
      have y4 := YY.out _ nq hwx
      rw [hwx]
      clear hwx
      have z0' := (bx.cell (p := ⟨gm, 16, none⟩) hg).trans z0
      have z1' := (bx.cell (p := ⟨gm, 17, none⟩) hg).trans z1
      have zz := bx.size
      have e0' := (bx.cell (p := ⟨bb, oo + N, none⟩) c3).trans e0
      go_quiet ((go_at_call 124; exact Calls.quiet_of_same (place_any _ _ _)))
      go_wp2
      go_ret
      exact ⟨by rw [HG'.out]; rfl, below_drewN bx _⟩
    · have hp1 : placeB n us.length = false := by unfold placeB; simp; omega
      have HG' : Hid (thereB rs lM tabs k A n = false) := by
        show _ = _
        rw [HG.out, ← hU.out, hp1]; rfl
      have PL : Hid (∀ w, Calls Tryd.prog 124 #[.int .i64 n, .int .i64 (us.length : Int)] w fun e w' => e = .returned (.bool false) ∧ w' = w) := fun w => by rw [← hp1]; exact place_any _ _ w
      clear hp1 HG hE
      go_enter Tryd.func98, Tryd.ntmps98
      go_wp2_with fail
      go_quiet (fail)
      go_wp2_with fail
      obtain ⟨wx, hwx⟩ : ∃ wx, (w.alloc (.cells #[.int .i64 k, .int .i64 d, .int .i64 (A : Int), .int .i64 b, .int .i64 n, .bool l] 61)).drewN nq = wx := ⟨_, rfl⟩
      have bx := BX.out _ nq hwx
      have y4 := YY.out _ nq hwx
      rw [hwx]
      clear hwx
      have z0' := (bx.cell (p := ⟨gm, 16, none⟩) hg).trans z0
      have z1' := (bx.cell (p := ⟨gm, 17, none⟩) hg).trans z1
      have zz := bx.size
      go_quiet ((go_at_call 124; exact Calls.quiet_of_same (PL.out _)))
      go_wp2
      go_ret
      exact ⟨by rw [HG'.out]; rfl, below_drewN bx _⟩
  · rw [if_neg k24] at HG
    have d24 : (k == 24) = false := by simp [k24]
    clear k14 k24
    go_enter Tryd.func98, Tryd.ntmps98
    go_wp2_with fail
    go_quiet (fail)
    go_wp2
    go_ret
    exact ⟨by rw [HG.out]; rfl, below_drewN ((Below.refl _ _).alloc (Nat.le_refl _) _) _⟩
end Go.Proofs.YtechpdfcgimkkaaDoor
/-
  package step: operations; how a run ends ahead of an instruction.
-/
namespace Go.Proofs.YtechpdfcgimkkaaDoor
open Go.RowKit Go.Joins Isa
set_option maxHeartbeats 1000000 in
theorem operate_any (k a b : Int) (w : World) (k1 : 7 ≤ k) (k2 : k ≤ 13) (a1 : -1099511627776 ≤ a) (a2 : a ≤ 1099511627776) (b1 : -1099511627776 ≤ b) (b2 : b ≤ 1099511627776) : Calls Tryd.prog 101 #[.int .i64 k, .int .i64 a, .int .i64 b] w fun e w' => e = .returned (.int .i64 (operN k a b)) ∧ ∃ m, w' = w.drewN m := by
  have hk : k = 7 ∨ k = 8 ∨ k = 9 ∨ k = 10 ∨ k = 11 ∨ k = 12 ∨ k = 13 := by omega
  have PR : Hid (∀ w, Calls Tryd.prog 125 #[.int .i64 a, .int .i64 b] w fun e w' => e = .returned (.int .i64 (foldN (a * b))) ∧ ∃ m, w' = w.drewN m) := fun w => product_any a b w a1 a2 b1 b2
  have FO : Hid (∀ n w, -9223372036854775808 ≤ n → n ≤ 9223372036854775807 → Calls Tryd.prog 99 #[.int .i64 n] w fun e w' => e = .returned (.int .i64 (foldN n)) ∧ w' = w) := fun n w h1 h2 => fold_any n w h1 h2
  have o1 := bits_lo_i64 .and a b
  have o2 := bits_hi_i64 .and a b
  have o3 := bits_lo_i64 .or a b
  have o4 := bits_hi_i64 .or a b
  have o5 := bits_lo_i64 .xor a b
  have o6 := bits_hi_i64 .xor a b
  clear k1 k2
  rcases hk with rfl | rfl | rfl | rfl | rfl | rfl | rfl
  · rw [show operN 7 a b = foldN (a + b) by simp [operN]]
    have u1 : -9223372036854775808 ≤ a + b := by omega
    have u2 : a + b ≤ 9223372036854775807 := by omega
    go_enter Tryd.func101, Tryd.ntmps101
    go_wp2_with (first | (go_at_call 99; refine (FO.out _ _ (by assumption) (by assumption)).mono ?_; rintro e w' ⟨rfl, rfl⟩))
    go_ret
    exact ⟨rfl, 0, rfl⟩
  · rw [show operN 8 a b = foldN (a - b) by simp [operN]]
    have u1 : -9223372036854775808 ≤ a - b := by omega
    have u2 : a - b ≤ 9223372036854775807 := by omega
    go_enter Tryd.func101, Tryd.ntmps101
    go_wp2_with (first | (go_at_call 99; refine (FO.out _ _ (by assumption) (by assumption)).mono ?_; rintro e w' ⟨rfl, rfl⟩))
    go_ret
    exact ⟨rfl, 0, rfl⟩
  · rw [show operN 9 a b = foldN (a * b) by simp [operN]]
    generalize foldN (a * b) = ab at *
    go_enter Tryd.func101, Tryd.ntmps101
    go_wp2_with (first | (go_at_call 125; refine (PR.out _).mono ?_; rintro e w1 ⟨rfl, m, rfl⟩))
    go_ret
    exact ⟨rfl, _, rfl⟩
  · rw [show operN 10 a b = foldN (bits .and .i64 a b) by simp [operN]]
    go_enter Tryd.func101, Tryd.ntmps101
    go_wp2_with (first | (go_at_call 99; refine (FO.out _ _ (by assumption) (by assumption)).mono ?_; rintro e w' ⟨rfl, rfl⟩))
    go_ret
    exact ⟨rfl, 0, rfl⟩
  · rw [show operN 11 a b = foldN (bits .or .i64 a b) by simp [operN]]
    go_enter Tryd.func101, Tryd.ntmps101
    go_wp2_with (first | (go_at_call 99; refine (FO.out _ _ (by assumption) (by assumption)).mono ?_; rintro e w' ⟨rfl, rfl⟩))
    go_ret
    exact ⟨rfl, 0, rfl⟩
  · rw [show operN 12 a b = foldN (bits .xor .i64 a b) by simp [operN]]
    go_enter Tryd.func101, Tryd.ntmps101
    go_wp2_with (first | (go_at_call 99; refine (FO.out _ _ (by assumption) (by assumption)).mono ?_; rintro e w' ⟨rfl, rfl⟩))
    go_ret
    exact ⟨rfl, 0, rfl⟩
  · by_cases hab : a < b
    · rw [show operN 13 a b = 1 by unfold operN; simp [hab]]
      go_enter Tryd.func101, Tryd.ntmps101
      go_wp2
      go_ret
      exact ⟨rfl, 0, rfl⟩
    · rw [show operN 13 a b = 0 by unfold operN; simp [hab]]
      go_enter Tryd.func101, Tryd.ntmps101
      go_wp2
      go_ret
      exact ⟨rfl, 0, rfl⟩
/-- How a run ends ahead of an instruction; 0: it goes on. -/
def endN (rs : List Vl) (mem : Int) (tabs : List (List Int)) (k a b n : Int) : Int :=
  if k = 2 then 2 else if k = 1 then 1 else if guardB rs k a b then 4 else if thereB rs mem tabs k a n then 0 else 2
set_option maxRecDepth 100000 in
set_option maxHeartbeats 2000000 in
theorem ahead_any (gm : Nat) (rs : List Vl) (aM : Option Addr) (lM cM : Nat) (vT vI vO : Value) (tabs : List (List Int)) (us : List Value) (pc k d a b n : Int) (l : Bool) (w : World) (h : MachAt w gm rs (.slice aM lM cM) vT vI vO pc) (a0 : 0 ≤ a) (a1 : a < 8) (b0 : 0 ≤ b) (b1 : b < 8)
    (hT : ListAt w vcell 1 vT us) (hU' : us.length = tabs.length) (hE : ∀ (j : Nat) (u : Value) (t : List Int), us[j]? = some u → tabs[j]? = some t → ListAt w icell 1 u t)
    (hr : ∀ v ∈ rs, -1099511627776 ≤ v.n ∧ v.n ≤ 1099511627776) (n0 : -32768 ≤ n) (n1 : n ≤ 32767) (hlM : lM ≤ maxLen) :
    Calls Tryd.prog 60 #[.pointer (some ⟨gm, 0, none⟩), .agg #[.int .i64 k, .int .i64 d, .int .i64 a, .int .i64 b, .int .i64 n, .bool l]] w fun e w' => e = .returned (.int .i64 (endN rs lM tabs k a b n)) ∧ Below w.heap.size w w' := by
  have GU : Hid (∀ w', Below w.heap.size w w' → Calls Tryd.prog 97 #[.pointer (some ⟨gm, 0, none⟩), .agg #[.int .i64 k, .int .i64 d, .int .i64 a, .int .i64 b, .int .i64 n, .bool l]] w' fun e w2 => e = .returned (.bool (guardB rs k a b)) ∧ Below w'.heap.size w' w2) := fun w' hb => guarded_any gm rs _ vT vI vO pc k d a b n l w' (h.up hb) a0 a1 b0 b1
  have TH : Hid (∀ w', Below w.heap.size w w' → Calls Tryd.prog 98 #[.pointer (some ⟨gm, 0, none⟩), .agg #[.int .i64 k, .int .i64 d, .int .i64 a, .int .i64 b, .int .i64 n, .bool l]] w' fun e w2 => e = .returned (.bool (thereB rs lM tabs k a n)) ∧ Below w'.heap.size w' w2) := fun w' hb => there_any gm rs aM lM cM vT vI vO tabs us pc k d a b n l w' (h.up hb) a0 a1 (hT.stays (Nat.le_refl _) hb) hU' (fun j u t h1 h2 => (hE j u t h1 h2).stays (Nat.le_refl _) hb) hr n0 n1 hlM
  have HN : Hid (endN rs lM tabs k a b n = if k = 2 then 2 else if k = 1 then 1 else if guardB rs k a b then 4 else if thereB rs lM tabs k a n then 0 else 2) := rfl
  have hg := h.lt
  generalize endN rs lM tabs k a b n = out at *
  generalize guardB rs k a b = g at *
  generalize thereB rs lM tabs k a n = t at *
  have BA : Hid (Below w.heap.size w (w.alloc (.cells #[.int .i64 k, .int .i64 d, .int .i64 a, .int .i64 b, .int .i64 n, .bool l] 61))) := (Below.refl _ _).alloc (Nat.le_refl _) _
  clear hT hU' hE hr h
  by_cases k2 : k = 2
  · rw [if_pos k2] at HN
    subst k2
    go_enter Tryd.func60, Tryd.ntmps60
    go_wp2
    go_ret
    exact ⟨by rw [HN.out]; rfl, by go_grown⟩
  by_cases k1 : k = 1
  · rw [if_neg k2, if_pos k1] at HN
    subst k1
    go_enter Tryd.func60, Tryd.ntmps60
    go_wp2
    go_ret
    exact ⟨by rw [HN.out]; rfl, by go_grown⟩
  rw [if_neg k2, if_neg k1] at HN
  have d2 : (k == 2) = false := by simp [k2]
  have d1 : (k == 1) = false := by simp [k1]
  clear k1 k2
  cases g
  · have TH' : Hid (∀ w', Below w.heap.size w w' → w.heap.size < w'.heap.size → Calls Tryd.prog 98 #[.pointer (some ⟨gm, 0, none⟩), .agg #[.int .i64 k, .int .i64 d, .int .i64 a, .int .i64 b, .int .i64 n, .bool l]] w' fun e w2 => e = .returned (.bool t) ∧ Below w.heap.size w w2) := fun w' hb _ => (TH.out w' hb).mono fun e w2 hh => ⟨hh.1, hb.trans (hh.2.mono hb.size)⟩
    have GU' : Hid (Calls Tryd.prog 97 #[.pointer (some ⟨gm, 0, none⟩), .agg #[.int .i64 k, .int .i64 d, .int .i64 a, .int .i64 b, .int .i64 n, .bool l]] (w.alloc (.cells #[.int .i64 k, .int .i64 d, .int .i64 a, .int .i64 b, .int .i64 n, .bool l] 61)) fun e w1 => e = .returned (.bool false) ∧ Below w.heap.size w w1 ∧ w.heap.size < w1.heap.size ∧ ∀ o, w1.cell? ⟨w.heap.size, o, none⟩ = (#[.int .i64 k, .int .i64 d, .int .i64 a, .int .i64 b, .int .i64 n, .bool l] : Array Value)[o]?) :=
      (GU.out _ BA.out).mono fun e w1 hh => ⟨hh.1, BA.out.trans (hh.2.mono (by simp)), by have := hh.2.size; simp at this; omega, fun o => by rw [hh.2.cell (p := ⟨w.heap.size, o, none⟩) (by simp)]; exact World.cell?_alloc_new _ _ _ _⟩
    cases t
    all_goals
      go_enter Tryd.func60, Tryd.ntmps60
      go_wp2_with (first | (go_at_call 97; refine GU'.out.mono ?_; rintro e w1 ⟨rfl, hb1, hz1, hc1⟩; have c0 := hc1 0; have c1 := hc1 1; have c2 := hc1 2; have c3 := hc1 3; have c4 := hc1 4; have c5 := hc1 5; simp at c0 c1 c2 c3 c4 c5; have HB1 : Hid (Below w.heap.size w w1) := hb1; clear hb1 hc1) | (go_at_call 98; refine (TH'.out _ HB1.out hz1).mono ?_; rintro e w2 ⟨rfl, hb2⟩))
      go_ret
      exact ⟨by rw [HN.out]; rfl, hb2⟩
  · go_enter Tryd.func60, Tryd.ntmps60
    go_wp2_with (first | (go_at_call 97; refine (GU.out _ BA.out).mono ?_; rintro e w1 ⟨rfl, hb1⟩))
    go_ret
    exact ⟨by rw [HN.out]; rfl, BA.out.trans (hb1.mono (by simp))⟩
end Go.Proofs.YtechpdfcgimkkaaDoor
