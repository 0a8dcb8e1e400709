/-
  package step: (*machine).do at any instruction that may be and that the run does not end ahead of.
-/
import Derived.Test.YtechpdfcgimkkaaDoorDoA
import Derived.Test.YtechpdfcgimkkaaDoorDoB
import Derived.Test.YtechpdfcgimkkaaDoorDoC
import Derived.Test.YtechpdfcgimkkaaDoorDoD
import Derived.Test.YtechpdfcgimkkaaDoorDoE
import Derived.Test.YtechpdfcgimkkaaDoorDoF
import Derived.Test.YtechpdfcgimkkaaDoorDoG
import Derived.Test.YtechpdfcgimkkaaDoorDoH
import Derived.Test.YtechpdfcgimkkaaDoorDoI
import Derived.Test.YtechpdfcgimkkaaDoorDoJ
import Derived.Test.YtechpdfcgimkkaaDoorPureAny
namespace Go.Proofs.YtechpdfcgimkkaaDoor
open Go.RowKit Go.Joins Isa
/-- What stays true of a machine. -/
structure McOk (s : Mc) : Prop where
  regs : RegsOk s.rs
  mem : RegsOk s.mem
  ins : ∀ x ∈ s.ins, (-1099511627776 : Int) ≤ x ∧ x ≤ 1099511627776
theorem iteP {α : Type} {c : Prop} [Decidable c] {x y : α} (P : α → Prop) (h1 : P x) (h2 : P y) : P (if c then x else y) := by split <;> assumption
theorem regs_set {rs : List Vl} (h : RegsOk rs) (D : Nat) (v : Vl) (h0 : -1099511627776 ≤ v.n) (h1 : v.n ≤ 1099511627776) : RegsOk (rs.set D v) := by
  intro x hx
  rcases List.mem_or_eq_of_mem_set hx with hx | rfl
  · exact h x hx
  · exact ⟨h0, h1⟩
theorem regs_get {rs : List Vl} (h : RegsOk rs) (D : Nat) : -1099511627776 ≤ (rs.getD D ⟨0, false⟩).n ∧ (rs.getD D ⟨0, false⟩).n ≤ 1099511627776 := by
  rw [List.getD_eq_getElem?_getD]
  cases hx : rs[D]? with
  | none => simp
  | some x => simpa using h x (List.mem_of_getElem? hx)
theorem oper_bd (k a b : Int) : -1099511627776 ≤ operN k a b ∧ operN k a b ≤ 1099511627776 := by
  unfold operN
  repeat' split
  all_goals first | exact foldN_bd _ | omega
theorem chk_bd {k d a b n : Int} {l : Bool} (h : chk k d a b n l = 0) : 1 ≤ k ∧ k ≤ 24 ∧ (0 ≤ d ∧ d < 8) ∧ (0 ≤ a ∧ a < 8) ∧ (0 ≤ b ∧ b < 8) ∧ -32768 ≤ n ∧ n ≤ 32767 := by
  unfold chk at h
  split at h
  · omega
  · split at h
    · omega
    · split at h
      · omega
      · split at h
        · omega
        · rename_i h1 h2 h3 h4
          simp [regB] at h3
          have b1 : -32768 ≤ lo k l := by unfold lo; repeat' split <;> omega
          have b2 : hi k l ≤ 32767 := by unfold hi; repeat' split <;> omega
          omega
theorem mcok_step {s : Mc} {tabs : List (List Int)} {k d a b n sz : Int} {l : Bool} (h : McOk s) (hc : chk k d a b n l = 0) (p0 : 0 ≤ s.pc) (p1 : s.pc ≤ 1073741824) (s0 : 0 ≤ sz) (s1 : sz ≤ 10) : McOk (doS tabs s k d a b n sz) := by
  obtain ⟨k1, k2, -, -, -, n0, n1⟩ := chk_bd hc
  obtain ⟨hr, hm, hi⟩ := h
  have f1 := fun D v h0 h1 => regs_set hr D v h0 h1
  have ht : ∀ x ∈ s.ins.tail, (-1099511627776 : Int) ≤ x ∧ x ≤ 1099511627776 := fun x hx => hi x (List.mem_of_mem_tail hx)
  have hh : (-1099511627776 : Int) ≤ s.ins.headD 0 ∧ s.ins.headD 0 ≤ 1099511627776 := by
    cases hs : s.ins with
    | nil => simp
    | cons x xs => exact hi x (by rw [hs]; exact List.mem_cons_self)
  unfold doS
  refine iteP McOk ⟨f1 _ _ (by show _ ≤ n; omega) (by show n ≤ _; omega), hm, hi⟩ ?_
  refine iteP McOk ⟨f1 _ _ (foldN_bd _).1 (foldN_bd _).2, hm, hi⟩ ?_
  refine iteP McOk ⟨f1 _ _ (oper_bd _ _ _).1 (oper_bd _ _ _).2, hm, hi⟩ ?_
  refine iteP McOk ⟨f1 _ _ (regs_get hm _).1 (regs_get hm _).2, hm, hi⟩ ?_
  refine iteP McOk ⟨hr, regs_set hm _ _ (regs_get hr _).1 (regs_get hr _).2, hi⟩ ?_
  refine iteP McOk ⟨f1 _ _ hh.1 hh.2, hm, ht⟩ ?_
  refine iteP McOk ⟨hr, hm, hi⟩ ?_
  refine iteP McOk ⟨hr, hm, hi⟩ ?_
  refine iteP McOk ⟨hr, hm, hi⟩ ?_
  refine iteP McOk ⟨f1 _ _ (by show _ ≤ s.pc + sz; omega) (by show s.pc + sz ≤ _; omega), hm, hi⟩ ?_
  refine iteP McOk ⟨hr, hm, hi⟩ ?_
  exact iteP McOk ⟨hr, hm, hi⟩ ⟨hr, hm, hi⟩
theorem told_step {s : Mc} {tabs : List (List Int)} {k d a b n sz : Int} : (doS tabs s k d a b n sz).told.length ≤ s.told.length + 1 := by
  unfold doS
  repeat (first | refine iteP (fun x : Mc => x.told.length ≤ s.told.length + 1) (by simp) ?_)
  simp
set_option maxHeartbeats 1000000 in
theorem do_any (w0 w : World) (B gm gd : Nat) (vT vI vO : Value) (s : Mc) (tabs : List (List Int)) (us : List Value) (k d a b n sz : Int) (l : Bool) (h : MSt w0 w B gm gd vT vI vO s) (ok : McOk s) (hc : chk k d a b n l = 0) (p0 : 0 ≤ s.pc) (p1 : s.pc ≤ 1073741824) (s0 : 0 ≤ sz) (s1 : sz ≤ 10)
    (he : endN s.rs s.mem.length tabs k a b n = 0) (ht : s.told.length ≤ 200000)
    (hT : ListAt w0 vcell 1 vT us) (hU : us.length = tabs.length) (hE : ∀ (j : Nat) (u : Value) (t : List Int), us[j]? = some u → tabs[j]? = some t → ListAt w0 icell 1 u t) :
    Calls Tryd.prog 61 #[.pointer (some ⟨gm, 0, none⟩), .agg #[.int .i64 k, .int .i64 d, .int .i64 a, .int .i64 b, .int .i64 n, .bool l], .int .i64 sz] w fun e w' => e = .returned (.tuple #[]) ∧ ∃ vI' vO', MSt w0 w' B gm gd vT vI' vO' (doS tabs s k d a b n sz) := by
  obtain ⟨k1, k2, ⟨d0, d1⟩, ⟨a0, a1⟩, ⟨b0, b1⟩, n0, n1⟩ := chk_bd hc
  have hbd : BdOk d a b n s.pc sz := ⟨d0, d1, a0, a1, b0, b1, n0, n1, p0, by omega, s0, s1⟩
  have hr := ok.regs
  have hne : k ≠ 2 ∧ k ≠ 1 ∧ thereB s.rs s.mem.length tabs k a n = true := by
    unfold endN at he
    split at he
    · omega
    · split at he
      · omega
      · split at he
        · omega
        · split at he
          · exact ⟨by assumption, by assumption, by assumption⟩
          · omega
  obtain ⟨ne2, ne1, hth⟩ := hne
  by_cases hop : 7 ≤ k ∧ k ≤ 13
  · exact do_op w0 w B gm gd vT vI vO s tabs k d a b n sz l h hr hbd hop.1 hop.2
  · by_cases hbr : 18 ≤ k ∧ k ≤ 21
    · cases hk : takenB k (s.rs.getD a.toNat ⟨0, false⟩).n (s.rs.getD b.toNat ⟨0, false⟩).n
      · exact do_brno w0 w B gm gd vT vI vO s tabs k d a b n sz l h hr hbd hbr.1 hbr.2 hk
      · exact do_bryes w0 w B gm gd vT vI vO s tabs k d a b n sz l h hr hbd hbr.1 hbr.2 hk
    · have hk : k = 3 ∨ k = 4 ∨ k = 5 ∨ k = 6 ∨ k = 14 ∨ k = 15 ∨ k = 16 ∨ k = 17 ∨ k = 22 ∨ k = 23 ∨ k = 24 := by omega
      rcases hk with rfl | rfl | rfl | rfl | rfl | rfl | rfl | rfl | rfl | rfl | rfl
      · exact do_ret w0 w B gm gd vT vI vO s tabs d a b n sz l h hr hbd
      · exact do_nop w0 w B gm gd vT vI vO s tabs d a b n sz l h hr hbd
      · exact do_li w0 w B gm gd vT vI vO s tabs d a b n sz l h hr hbd
      · exact do_addi w0 w B gm gd vT vI vO s tabs d a b n sz l h hr hbd
      · simp [thereB, placeB] at hth
        exact do_load w0 w B gm gd vT vI vO s tabs d a b n sz l h hr hbd hth.1 hth.2
      · simp [thereB, placeB] at hth
        exact do_store w0 w B gm gd vT vI vO s tabs d a b n sz l h hr hbd hth.1 hth.2
      · cases hi : s.ins with
        | nil => exact do_in0 w0 w B gm gd vT vI vO s tabs d a b n sz l h hr hbd hi
        | cons x xs => exact do_in1 w0 w B gm gd vT vI vO s tabs d a b n sz l h hr hbd x xs hi
      · exact do_out w0 w B gm gd vT vI vO s tabs d a b n sz l h hr hbd ht
      · exact do_jump w0 w B gm gd vT vI vO s tabs d a b n sz l h hr hbd
      · exact do_call w0 w B gm gd vT vI vO s tabs d a b n sz l h hr hbd
      · simp [thereB, placeB] at hth
        exact do_table w0 w B gm gd vT vI vO s tabs d a b n sz l h hr hbd us hT hU hE hth.1.1 hth.1.2 hth.2.1 hth.2.2
end Go.Proofs.YtechpdfcgimkkaaDoor
