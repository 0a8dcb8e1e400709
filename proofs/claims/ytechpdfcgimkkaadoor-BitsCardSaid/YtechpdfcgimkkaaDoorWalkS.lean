/-
  Sizes: isa.sizeOf, isa.Size, boltholeref.sizeOf, boltholeref.SizeOf answer 'siz'.
-/
import Derived.Test.YtechpdfcgimkkaaDoorWalkA2
namespace Go.Proofs.YtechpdfcgimkkaaDoor
open Go.RowKit Isa
theorem wid_bd (k : Int) (l : Bool) (h1 : 1 ≤ k) (h2 : k ≤ 24) : 0 ≤ wid k l ∧ wid k l ≤ 2 := by
  unfold wid; have := kW_02 h1 h2; cases l <;> simp <;> omega
set_option maxHeartbeats 1000000 in
theorem size_any (k d a b n : Int) (l : Bool) (w : World) (h1 : 1 ≤ k) (h2 : k ≤ 24) (ht : Tabs w) :
    Calls Tryd.prog 94 #[.agg #[.int .i64 k, .int .i64 d, .int .i64 a, .int .i64 b, .int .i64 n, .bool l]] w fun e w' => e = .returned (.int .i64 (siz k l)) ∧ Below w.heap.size w w' := by
  obtain ⟨c1, c2, c3⟩ := ht.op k (by omega) h2
  obtain ⟨c4, c5, c6, c7⟩ := ht.sh k (by omega) h2
  have z1 := ht.sz
  have z0 : 0 < w.heap.size := by omega
  have s1 := opS_lo h1 h2
  have s2 := opS_hi h1 h2
  obtain ⟨b1, b2⟩ := wid_bd k l h1 h2
  have ht2 : ∀ o o', Tabs ((w.alloc o).alloc o') := fun o o' => ht.below ht.sz (((Below.refl _ _).alloc (Nat.le_refl _) o).alloc (by simp) o')
  have H1 : Hid (∀ o o', Tabs ((w.alloc o).alloc o')) := ht2
  clear ht2
  have hl : kL k = 0 ∧ (kL k == 0) = true ∨ ¬ kL k = 0 ∧ (kL k == 0) = false := by by_cases h : kL k = 0 <;> simp [h]
  have hT : kT k = 0 ∧ (kT k == 0) = true ∨ ¬ kT k = 0 ∧ (kT k == 0) = false := by by_cases h : kT k = 0 <;> simp [h]
  rcases hl with ⟨l1, l2⟩ | ⟨l1, l2⟩
  all_goals rcases hT with ⟨t1, t2⟩ | ⟨t1, t2⟩
  all_goals
    have hs : Hid (siz k l = 1 + wid k l + (if kL k = 0 then 0 else 1) + (if kT k = 0 then 0 else 1)) := rfl
    simp only [l1, t1, if_true, if_false] at hs
    clear l1 t1
    go_enter Tryd.func94, Tryd.ntmps94
    go_wp2_with (go_at_call 113; refine (width_any k d a b n l _ h1 h2 (H1.out _ _)).mono ?_; rintro e w' ⟨rfl, rfl⟩)
    go_ret
    refine ⟨congrArg (fun x => Ending.returned (Value.int .i64 x)) ?_, by go_grown⟩
    go_light
    have := hs.out
    try simp at this
    try simp
    omega
end Go.Proofs.YtechpdfcgimkkaaDoor
