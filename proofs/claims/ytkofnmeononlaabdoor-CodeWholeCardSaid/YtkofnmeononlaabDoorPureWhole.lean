/-
  Instructions in a row: their bytes, their cells; a slice of Raws.
-/
import Derived.Test.YtkofnmeononlaabDoorTextMore
import Derived.Test.YtkofnmeononlaabDoorWalkAny2
import Derived.Deep.AppendLies
namespace Go.Proofs.YtkofnmeononlaabDoor
open Go.RowKit Go.Joins Isa
structure Rw where
  K : Int
  A : Int
  B : Int
  C : Int
def Rw.ok (r : Rw) : Prop := -9223372036854775808 ≤ r.K ∧ r.K ≤ 9223372036854775807 ∧ -9223372036854775808 ≤ r.A ∧ r.A ≤ 9223372036854775807 ∧ -9223372036854775808 ≤ r.B ∧ r.B ≤ 9223372036854775807 ∧ -9223372036854775808 ≤ r.C ∧ r.C ≤ 9223372036854775807
def RawsAt (w : World) (v : Value) (rs : List Rw) : Prop :=
  (∀ r ∈ rs, r.ok) ∧ ((∃ a cap, v = .slice a 0 cap ∧ rs = []) ∨ ∃ bb oo cap, v = .slice (some ⟨bb, oo, none⟩) rs.length cap ∧ rs.length ≤ cap ∧ cap ≤ maxLen ∧ bb < w.heap.size ∧
    ∀ j r, rs[j]? = some r → w.cell? ⟨bb, oo + j * 4, none⟩ = some (.int .i64 r.K) ∧ w.cell? ⟨bb, oo + j * 4 + 1, none⟩ = some (.int .i64 r.A) ∧ w.cell? ⟨bb, oo + j * 4 + 2, none⟩ = some (.int .i64 r.B) ∧ w.cell? ⟨bb, oo + j * 4 + 3, none⟩ = some (.int .i64 r.C))
def encI (i : Ins) : List Int := encL i.k i.d i.a i.b i.n i.l
def valI (i : Ins) : List Value := [.int .i64 i.k, .int .i64 i.d, .int .i64 i.a, .int .i64 i.b, .int .i64 i.n, .bool i.l]
def encAll (is : List Ins) : List Int := is.flatMap encI
def valAll (is : List Ins) : List Value := is.flatMap valI
theorem encAll_append (x y : List Ins) : encAll (x ++ y) = encAll x ++ encAll y := List.flatMap_append
theorem valAll_append (x y : List Ins) : valAll (x ++ y) = valAll x ++ valAll y := List.flatMap_append
theorem valAll_len (is : List Ins) : (valAll is).length = is.length * 6 := by
  induction is with
  | nil => rfl
  | cons i is ih => rw [show valAll (i :: is) = (valI i) ++ valAll is from rfl, List.length_append, ih]; simp [valI]; omega
theorem valAll_at (is : List Ins) (j : Nat) (i : Ins) (h : is[j]? = some i) (o : Nat) (ho : o < 6) : (valAll is)[j * 6 + o]? = (valI i)[o]? := by
  induction is generalizing j with
  | nil => simp at h
  | cons i0 is ih =>
    rw [show valAll (i0 :: is) = (valI i0) ++ valAll is from rfl]
    cases j with
    | zero => simp at h; subst h; rw [List.getElem?_append_left (by simp [valI]; omega), Nat.zero_mul, Nat.zero_add]
    | succ j =>
      rw [List.getElem?_append_right (by simp [valI]; omega), show (j + 1) * 6 + o - (valI i0).length = j * 6 + o by simp [valI]; omega]
      exact ih j (by simpa using h)
theorem encAll_len (is : List Ins) (h : ∀ i ∈ is, i.chk = 0) : (encAll is).length ≤ is.length * 5 := by
  induction is with
  | nil => simp [encAll]
  | cons i is ih =>
    rw [show encAll (i :: is) = (encI i) ++ encAll is from rfl, List.length_append]
    have := ih fun j hj => h j (List.mem_cons_of_mem _ hj)
    obtain ⟨h1, h2, _⟩ := chk_zero (h i (List.mem_cons_self ..))
    have hl := encL_len (d := i.d) (a := i.a) (b := i.b) (n := i.n) (l := i.l) h1 h2
    have hs : siz i.k i.l ≤ 5 := by have := wid_bd i.k i.l h1 h2; unfold siz; split <;> split <;> omega
    have : (encI i).length ≤ 5 := by unfold encI; omega
    simp only [List.length_cons]
    omega
theorem encAll_bytes (is : List Ins) (h : ∀ i ∈ is, i.chk = 0) : ∀ x ∈ encAll is, 0 ≤ x ∧ x ≤ 255 := by
  intro x hx
  obtain ⟨i, hi, hx⟩ := List.mem_flatMap.1 hx
  exact enc_bytes (h i hi) x hx
theorem dec_at (is : List Ins) (h : ∀ i ∈ is, i.chk = 0) (j : Nat) (i : Ins) (hi : is[j]? = some i) : decOut (encAll is) ((encAll (is.take j)).length : Nat) = (i, siz i.k i.l, 0) ∧ (encAll (is.take (j + 1))).length = (encAll (is.take j)).length + (siz i.k i.l).toNat ∧ 1 ≤ siz i.k i.l ∧ siz i.k i.l ≤ 5 := by
  have hc : i.chk = 0 := h i (List.mem_of_getElem? hi)
  obtain ⟨h1, h2, _⟩ := chk_zero hc
  have hl := encL_len (d := i.d) (a := i.a) (b := i.b) (n := i.n) (l := i.l) h1 h2
  have hs : 1 ≤ siz i.k i.l ∧ siz i.k i.l ≤ 5 := by have := wid_bd i.k i.l h1 h2; unfold siz; constructor <;> split <;> split <;> omega
  have e : is = is.take j ++ i :: is.drop (j + 1) := by
    obtain ⟨hj, rfl⟩ := List.getElem?_eq_some_iff.1 hi
    rw [← List.drop_eq_getElem_cons hj, List.take_append_drop]
  have e2 : is.take (j + 1) = is.take j ++ [i] := by rw [List.take_add_one, hi]; rfl
  refine ⟨?_, ?_, hs⟩
  · have := dec_back (k := i.k) (d := i.d) (a := i.a) (b := i.b) (n := i.n) (l := i.l) hc (encAll (is.take j)) (encAll (is.drop (j + 1)))
    rw [show encAll (is.take j) ++ (encL i.k i.d i.a i.b i.n i.l ++ encAll (is.drop (j + 1))) = encAll is by
      conv => rhs; rw [e]
      rw [encAll_append]; rfl] at this
    exact this
  · rw [e2, encAll_append, List.length_append]
    have : (encAll [i]).length = (siz i.k i.l).toNat := by simp [encAll, encI]; omega
    omega
theorem dec_end (ns : List Int) : decOut ns (ns.length : Nat) = (zeroI, 0, 2) := by unfold decOut; rw [if_pos (by omega)]
theorem row_below {w w' : World} {base : Nat} {e : TypeId} {size : Nat} {v : Value} {n : Nat} {xs : List Value} (h : w.ownsRow base e size v n xs) (hb : Below w.heap.size w w') : w'.ownsRow base e size v n xs :=
  h.kept (row := none) ⟨hb.os, hb.tape, hb.output, hb.size, fun k hk _ => hb.block k hk⟩ (by cases v.ownBlock <;> simp)
theorem infoI : (Tryd.prog.info? 29).map (fun i => (i.zero, i.size, i.bytes)) = some (some (.agg #[.int .i64 0, .int .i64 0, .int .i64 0, .int .i64 0, .int .i64 0, .bool false]), 6, 48) := by kernel_rfl
theorem one_vals (i : Ins) : ∀ u ∈ valI i, u.oneCell' = true := by
  intro u hu
  simp [valI] at hu
  rcases hu with rfl | rfl | rfl | rfl | rfl | rfl <;> rfl
theorem one_bytes (ns : List Int) : ∀ u ∈ ns.map (Value.int .u8), u.oneCell' = true := ints_oneCell .u8 ns
/-- Where the first loop stands after m rounds. -/
def St1 (w : World) (is : List Ins) (vT vW : Value) (wr : World) (m : Nat) : Prop :=
  wr.ownsRow w.heap.size 5 1 vT (encAll (is.take m)).length ((encAll (is.take m)).map (Value.int .u8)) ∧ wr.ownsRow w.heap.size 29 6 vW m (valAll (is.take m)) ∧
  (vT.ownBlock = none ∨ vT.ownBlock ≠ vW.ownBlock) ∧ (vW.ownBlock = none ∨ vW.ownBlock ≠ vT.ownBlock) ∧ Below w.heap.size w wr
theorem St1.start (w : World) (is : List Ins) : St1 w is (.slice none 0 0) (.slice none 0 0) w 0 :=
  ⟨World.ownsRow_nil w _ _ _, World.ownsRow_nil w _ _ _, Or.inl rfl, Or.inl rfl, Below.refl _ _⟩
theorem St1.next {w w4 : World} {is : List Ins} {m : Nat} {i : Ins} {vT' vW' : Value} {n : Nat} (hi : is[m]? = some i) (hn : n = (encAll (is.take m)).length + (encI i).length)
    (o1 : w4.ownsRow w.heap.size 5 1 vT' n (((encAll (is.take m)).map (Value.int .u8)) ++ (encI i).map (Value.int .u8))) (o2 : w4.ownsRow w.heap.size 29 6 vW' (m + 1) (valAll (is.take m) ++ valI i))
    (a1 : vT'.ownBlock ≠ vW'.ownBlock) (b : Below w.heap.size w w4) : St1 w is vT' vW' w4 (m + 1) := by
  subst hn
  have e2 : is.take (m + 1) = is.take m ++ [i] := by rw [List.take_add_one, hi]; rfl
  have e3 : encAll (is.take (m + 1)) = encAll (is.take m) ++ encI i := by rw [e2, encAll_append]; simp [encAll]
  have e4 : valAll (is.take (m + 1)) = valAll (is.take m) ++ valI i := by rw [e2, valAll_append]; simp [valAll]
  unfold St1
  rw [e3, e4, List.length_append, List.map_append]
  exact ⟨o1, o2, Or.inr a1, Or.inr fun h => a1 h.symm, b⟩
end Go.Proofs.YtkofnmeononlaabDoor
