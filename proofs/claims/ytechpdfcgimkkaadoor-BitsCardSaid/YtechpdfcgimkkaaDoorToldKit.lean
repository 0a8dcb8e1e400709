/-
  What boltholekeep's laws on single programs call: out, li, told at a list that is laid where it is called.
-/
import Derived.Test.YtechpdfcgimkkaaDoorPureTold
import Derived.Test.YtechpdfcgimkkaaDoorWalkPk
namespace Go.Proofs.YtechpdfcgimkkaaDoor
open Go.RowKit Go.Joins Isa
theorem out_any (a : Int) (w : World) : Calls Tryd.prog 32 #[.int .i64 a] w fun e w' => e = .returned (.agg #[.int .i64 17, .int .i64 0, .int .i64 a, .int .i64 0, .int .i64 0, .bool false]) ∧ w' = w.alloc (.cells #[.int .i64 17, .int .i64 0, .int .i64 a, .int .i64 0, .int .i64 0, .bool false] 61) := by
  go_enter Tryd.func32, Tryd.ntmps32
  go_wp2
  go_returns
  exact ⟨rfl, rfl⟩
theorem li_any (d n : Int) (w : World) : Calls Tryd.prog 33 #[.int .i64 d, .int .i64 n] w fun e w' => e = .returned (.agg #[.int .i64 5, .int .i64 d, .int .i64 0, .int .i64 0, .int .i64 n, .bool false]) ∧ w' = w.alloc (.cells #[.int .i64 5, .int .i64 d, .int .i64 0, .int .i64 0, .int .i64 n, .bool false] 61) := by
  go_enter Tryd.func33, Tryd.ntmps33
  go_wp2
  go_returns
  exact ⟨rfl, rfl⟩
theorem ins_new (w : World) (l : List Ins) (cs : Array Value) (T : TypeId) (h : cs = (flat iCells l).toArray) (n m cap : Nat) (hn : n = w.heap.size) (hm : m = l.length) : InsAt (w.alloc (.cells cs T)) (.slice (some ⟨n, 0, none⟩) m cap) l := by
  subst h hn hm
  refine Or.inr ⟨w.heap.size, 0, cap, rfl, by simp, fun j u hj => ?_⟩
  rw [World.cell?_alloc_new]
  simpa using hj
theorem ints_new (w : World) (xs : List Int) (cs : Array Value) (T : TypeId) (h : cs = (flat icell xs).toArray) (n m cap : Nat) (hn : n = w.heap.size) (hm : m = xs.length) (hc : m ≤ cap) (hc2 : cap ≤ maxLen) : ListAt (w.alloc (.cells cs T)) icell 1 (.slice (some ⟨n, 0, none⟩) m cap) xs := by
  subst h hn hm
  refine Or.inr ⟨w.heap.size, 0, cap, rfl, hc, hc2, by simp, fun j x hj o u hu => ?_⟩
  have ho : o = 0 := by
    rcases o with _ | o
    · rfl
    · simp [icell] at hu
  subst ho
  rw [World.cell?_alloc_new, List.getElem?_toArray, Nat.zero_add, flat_at (sz := 1) (fun _ => rfl) xs j x hj 0 (by decide)]
  exact hu
theorem oper7 (a b : Int) : operN 7 a b = foldN (a + b) := by unfold operN; rw [if_pos rfl]
theorem oper8 (a b : Int) : operN 8 a b = foldN (a - b) := by unfold operN; rw [if_neg (by decide), if_pos rfl]
theorem oper9 (a b : Int) : operN 9 a b = foldN (a * b) := by unfold operN; rw [if_neg (by decide), if_neg (by decide), if_pos rfl]
theorem oper10 (a b : Int) : operN 10 a b = foldN (bits .and .i64 a b) := by unfold operN; rw [if_neg (by decide), if_neg (by decide), if_neg (by decide), if_pos rfl]
theorem oper11 (a b : Int) : operN 11 a b = foldN (bits .or .i64 a b) := by unfold operN; rw [if_neg (by decide), if_neg (by decide), if_neg (by decide), if_neg (by decide), if_pos rfl]
theorem oper12 (a b : Int) : operN 12 a b = foldN (bits .xor .i64 a b) := by unfold operN; rw [if_neg (by decide), if_neg (by decide), if_neg (by decide), if_neg (by decide), if_neg (by decide), if_pos rfl]
theorem oper13 (a b : Int) : operN 13 a b = if a < b then 1 else 0 := by unfold operN; rw [if_neg (by decide), if_neg (by decide), if_neg (by decide), if_neg (by decide), if_neg (by decide), if_neg (by decide)]
theorem bits_nums (x y : Int) (x0 : 0 ≤ x) (x1 : x < 1073741824) (y0 : 0 ≤ y) (y1 : y < 1073741824) : operN 10 x y + operN 11 x y = x + y ∧ operN 11 x y - operN 10 x y = operN 12 x y ∧ 0 ≤ operN 10 x y ∧ operN 10 x y ≤ 4294967296 ∧ 0 ≤ operN 11 x y ∧ operN 11 x y ≤ 4294967296 := by
  obtain ⟨X, rfl⟩ := Int.eq_ofNat_of_zero_le x0
  obtain ⟨Y, rfl⟩ := Int.eq_ofNat_of_zero_le y0
  obtain ⟨h1, h2⟩ := and_add_or 30 X Y (by omega) (by omega)
  have b1 : X &&& Y < 2 ^ 30 := Nat.and_lt_two_pow _ (by omega)
  have b2 : X ||| Y < 2 ^ 30 := Nat.or_lt_two_pow (by omega) (by omega)
  have b3 : X ^^^ Y < 2 ^ 30 := Nat.xor_lt_two_pow (by omega) (by omega)
  have e1 : operN 10 (X : Int) (Y : Int) = ((X &&& Y : Nat) : Int) := by
    rw [oper10, bits_and_i64_nat X Y (by omega) (by omega)]
    exact foldN_one ⟨0, by omega⟩ (by omega) (by omega)
  have e2 : operN 11 (X : Int) (Y : Int) = ((X ||| Y : Nat) : Int) := by
    rw [oper11, bits_or_i64_nat X Y (by omega) (by omega)]
    exact foldN_one ⟨0, by omega⟩ (by omega) (by omega)
  have e3 : operN 12 (X : Int) (Y : Int) = ((X ^^^ Y : Nat) : Int) := by
    rw [oper12, bits_xor_i64_nat X Y (by omega) (by omega)]
    exact foldN_one ⟨0, by omega⟩ (by omega) (by omega)
  rw [e1, e2, e3]
  generalize X &&& Y = a at *
  generalize X ||| Y = o at *
  generalize X ^^^ Y = e at *
  omega
/-- told at a list that the statement itself lays. -/
theorem told_call (l : List Ins) (ins told : List Int) (en st pc : Int) (cs : Array Value) (aI : Option Addr) (k cI n m cap : Nat) (w W : World) (hr : runOut (aloneI l) ins 100 = ⟨told, en, st, pc⟩) (hc : runChk (aloneI l) ins 100 = 0) (hok : ∀ i ∈ l, i.chk = 0) (hl : l.length ≤ 1000) (hcs : cs = (flat iCells l).toArray) (hk : k = ins.length) (hn : n = W.heap.size) (hm : m = l.length)
    (ht : Tabs w) (hb : Below w.heap.size w W) (hin : ListAt W icell 1 (.slice aI k cI) ins) :
    Calls Tryd.prog 31 #[.slice aI k cI, .slice (some ⟨n, 0, none⟩) m cap] (W.alloc (.cells cs 61)) fun e w' => ∃ a N c, e = .returned (.tuple #[.slice a N c, .int .i64 en, .bool true]) ∧ ListAt w' icell 1 (.slice a N c) told ∧ Below w.heap.size w w' := by
  subst hk
  have hb2 : Below w.heap.size w (W.alloc (.cells cs 61)) := hb.alloc hb.size _
  have := told_any l ins (.slice (some ⟨n, 0, none⟩) m cap) aI cI (W.alloc (.cells cs 61)) (ht.below ht.sz hb2) (ins_new W l cs _ hcs n m cap hn hm) (hin.stays (Nat.le_refl _) ((Below.refl _ _).alloc (Nat.le_refl _) _)) hl hok hc
  rw [hr] at this
  refine this.mono ?_
  rintro e w' ⟨a, N, c, rfl, h1, h2⟩
  exact ⟨a, N, c, rfl, h1, hb2.trans (h2.mono hb2.size)⟩
theorem list_cells {w : World} {a : Option Addr} {n c : Nat} {xs : List Int} (h : ListAt w icell 1 (.slice a n c) xs) (hx : xs ≠ []) : ∃ bb oo, a = some ⟨bb, oo, none⟩ ∧ n = xs.length ∧ n ≤ c ∧ bb < w.heap.size ∧ ∀ j x, xs[j]? = some x → w.cell? ⟨bb, oo + j, none⟩ = some (.int .i64 x) := by
  rcases h with ⟨_, _, _, h⟩ | ⟨bb, oo, cap, hv, h1, h2, h3, h4⟩
  · exact absurd h hx
  · cases hv
    refine ⟨bb, oo, rfl, rfl, h1, h3, fun j x hj => ?_⟩
    have := h4 j x hj 0 _ rfl
    rwa [Nat.mul_one, Nat.add_zero] at this
end Go.Proofs.YtechpdfcgimkkaaDoor
