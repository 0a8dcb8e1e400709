/-
  boltholekeep.told: what a program of instructions tells.
-/
import Derived.Test.YtechpdfcgimkkaaDoorWalkAlone
import Derived.Test.YtechpdfcgimkkaaDoorWalkRun
import Derived.BigQuiet
import Derived.Deep.QuietTactic
namespace Go.Proofs.YtechpdfcgimkkaaDoor
open Go.RowKit Go.Joins Isa
theorem alone_ok (l : List Ins) (hok : ∀ i ∈ l, i.chk = 0) (hl : l.length ≤ 1000) : (aloneI l).ok := by
  have hj : ∀ i ∈ l ++ [haltI], i.chk = 0 := by
    intro i hi
    rcases List.mem_append.1 hi with q | q
    · exact hok i q
    · have : i = haltI := by simpa using q
      subst this; decide
  have hle := encAll_len _ hj
  rw [List.length_append, List.length_singleton] at hle
  refine ⟨encAll_bytes _ hj, ?_, (by intro t ht; cases ht), ?_, (by intro t ht; cases ht), ⟨(by decide : (-9223372036854775808 : Int) ≤ 0), (by decide : (0 : Int) ≤ 9223372036854775807)⟩⟩
  · intro f hf
    have : f = fFn (encAll (l ++ [haltI])).length := by simpa [aloneI] using hf
    subst this
    refine ⟨by show (1 : Nat) ≤ maxLen; unfold maxLen; omega, ⟨(by decide : (-9223372036854775808 : Int) ≤ 0), (by decide : (0 : Int) ≤ 9223372036854775807)⟩, ?_⟩
    constructor
    · show (-9223372036854775808 : Int) ≤ ((encAll (l ++ [haltI])).length : Int); omega
    · show ((encAll (l ++ [haltI])).length : Int) ≤ 9223372036854775807; omega
  · intro x hx
    have hx' : x ∈ ([5, -3, 0, 7, 1, 2] : List Int) := hx
    simp at hx'
    rcases hx' with rfl | rfl | rfl | rfl | rfl | rfl <;> exact ⟨by decide, by decide⟩
set_option maxRecDepth 100000 in
set_option maxHeartbeats 2000000 in
theorem told_any (l : List Ins) (ins : List Int) (v : Value) (aI : Option Addr) (cI : Nat) (w : World) (ht : Tabs w) (h : InsAt w v l) (hin : ListAt w icell 1 (.slice aI ins.length cI) ins) (hl : l.length ≤ 1000) (hok : ∀ i ∈ l, i.chk = 0) (hc : runChk (aloneI l) ins 100 = 0) :
    Calls Tryd.prog 31 #[.slice aI ins.length cI, v] w fun e w' => ∃ a n c, e = .returned (.tuple #[.slice a n c, .int .i64 (runOut (aloneI l) ins 100).en, .bool true]) ∧ ListAt w' icell 1 (.slice a n c) (runOut (aloneI l) ins 100).told ∧ Below w.heap.size w w' := by
  have AL : Hid _ := alone_any l v w ht h hl hok
  have HOK : Hid _ := alone_ok l hok hl
  have HIN : Hid (ListAt w icell 1 (.slice aI ins.length cI) ins) := hin
  have HC : Hid _ := hc
  have HT : Hid _ := ht
  clear h hok hin hc ht
  go_enter Tryd.func31, Tryd.ntmps31
  go_wp2_with fail
  refine Calls.mono AL.out ?_
  rintro e w1 ⟨vT, vF, vD, rfl, hI, hb1⟩
  have B1 : Hid _ := hb1
  have HI : Hid _ := hI
  obtain ⟨aT, cT, rfl, _⟩ := hI.text.form
  obtain ⟨aF, cF, rfl, _⟩ := hI.funcs.form
  obtain ⟨aD, cD, rfl, _⟩ := hI.data.form
  clear hb1 hI AL
  go_wp2_with fail
  have RU := fun W (hb : Below w1.heap.size w1 W) => run_any _ _ _ _ _ _ (aloneI l) ins 100 W (HI.out.stays (Nat.le_refl _) hb) HOK.out (HT.out.below HT.out.sz (B1.out.trans (hb.mono B1.out.size))) (HIN.out.stays (Nat.le_refl _) (B1.out.trans (hb.mono B1.out.size)))
  refine Calls.mono (RU _ ((Below.refl _ _).alloc (Nat.le_refl _) _)) ?_
  rintro e w2 ⟨vO, rfl, hO, hb2⟩
  obtain ⟨aO, cO, rfl, _⟩ := hO.form
  have B2 : Hid (Below w.heap.size w w2) := B1.out.trans (((Below.refl _ _).alloc (Nat.le_refl _) _).trans (hb2.mono (by simp)) |>.mono B1.out.size)
  have HO : Hid (ListAt w2 icell 1 (.slice aO (runOut (aloneI l) ins 100).told.length cO) (runOut (aloneI l) ins 100).told) := hO
  rw [HC.out]
  have z2 : w.heap.size ≤ w2.heap.size := B2.out.size
  clear RU hO hb2
  go_wp2_with fail
  go_quiet (fail)
  go_wp2_with fail
  go_ret3
  refine ⟨_, _, _, rfl, ListAt.stays HO.out (Nat.le_refl _) ?_, B2.out.trans (Below.mono ?_ z2)⟩
  all_goals exact below_drewN ((Below.refl _ _).alloc (Nat.le_refl _) _) _
end Go.Proofs.YtechpdfcgimkkaaDoor
