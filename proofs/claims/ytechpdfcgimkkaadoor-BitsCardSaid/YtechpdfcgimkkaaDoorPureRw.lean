/-
  Raws; instructions in a row: their bytes, their cells.
-/
import Derived.Test.YtechpdfcgimkkaaDoorWalkE5
import Derived.Test.YtechpdfcgimkkaaDoorPureAny
import Derived.Deep.AppendLies
namespace Go.Proofs.YtechpdfcgimkkaaDoor
open Go.RowKit Go.Joins Isa
theorem encL_len {k d a b n : Int} {l : Bool} (h1 : 1 ≤ k) (h2 : k ≤ 24) : ((encL k d a b n l).length : Int) = siz k l := by
  have hw := wid_bd k l h1 h2
  unfold encL
  rw [List.length_append]
  have := L3_len k d a b l
  have e : (nb n (wid k l).toNat).length = (wid k l).toNat := by
    rcases (show (wid k l).toNat = 0 ∨ (wid k l).toNat = 1 ∨ (wid k l).toNat = 2 by omega) with q | q | q <;> rw [q] <;> rfl
  omega
theorem fir_byte {k : Int} {l : Bool} (h1 : 1 ≤ k) (h2 : k ≤ 24) : 0 ≤ firB k l ∧ firB k l ≤ 255 := by
  cases l <;> rcases kinds h1 h2 with rfl | rfl | rfl | rfl | rfl | rfl | rfl | rfl | rfl | rfl | rfl | rfl | rfl | rfl | rfl | rfl | rfl | rfl | rfl | rfl | rfl | rfl | rfl | rfl <;> decide
theorem enc_bytes {k d a b n : Int} {l : Bool} (h : Isa.chk k d a b n l = 0) : ∀ x ∈ encL k d a b n l, 0 ≤ x ∧ x ≤ 255 := by
  obtain ⟨h1, h2, _, hd, ha, hb, _⟩ := chk_zero h
  obtain ⟨r1, r2⟩ := regOf_bd (u := kU k) hd ha hb
  obtain ⟨r3, r4⟩ := regOf_bd (u := kL k) hd ha hb
  obtain ⟨r5, r6⟩ := regOf_bd (u := kT k) hd ha hb
  have hw := wid_bd k l h1 h2
  intro x hx
  unfold encL L3 L2 L1 at hx
  rw [List.mem_append, List.mem_append, List.mem_append] at hx
  rcases hx with ((hx | hx) | hx) | hx
  · simp at hx; subst hx; exact fir_byte h1 h2
  · split at hx
    · simp at hx
    · simp at hx; subst hx; omega
  · split at hx
    · simp at hx
    · simp at hx; subst hx; omega
  · rcases (show (wid k l).toNat = 0 ∨ (wid k l).toNat = 1 ∨ (wid k l).toNat = 2 by omega) with q | q | q
    · rw [q] at hx; simp [nb] at hx
    · rw [q] at hx; simp [nb] at hx; subst hx; omega
    · rw [q] at hx; simp [nb] at hx; rcases hx with rfl | rfl <;> omega
structure Rw where
  K : Int
  A : Int
  B : Int
  C : Int
def Rw.ok (r : Rw) : Prop := -9223372036854775808 ≤ r.K ∧ r.K ≤ 9223372036854775807 ∧ -9223372036854775808 ≤ r.A ∧ r.A ≤ 9223372036854775807 ∧ -9223372036854775808 ≤ r.B ∧ r.B ≤ 9223372036854775807 ∧ -9223372036854775808 ≤ r.C ∧ r.C ≤ 9223372036854775807
def RawsAt (w : World) (v : Value) (rs : List Rw) : Prop :=
  (∀ r ∈ rs, r.ok) ∧ ((∃ a cap, v = .slice a 0 cap ∧ rs = []) ∨ ∃ bb oo cap, v = .slice (some ⟨bb, oo, none⟩) rs.length cap ∧ rs.length ≤ cap ∧ cap ≤ maxLen ∧ bb < w.heap.size ∧
    ∀ j r, rs[j]? = some r → w.cell? ⟨bb, oo + j * 4, none⟩ = some (.int .i64 r.K) ∧ w.cell? ⟨bb, oo + j * 4 + 1, none⟩ = some (.int .i64 r.A) ∧ w.cell? ⟨bb, oo + j * 4 + 2, none⟩ = some (.int .i64 r.B) ∧ w.cell? ⟨bb, oo + j * 4 + 3, none⟩ = some (.int .i64 r.C))
def encI (i : Ins) : List Int := encL i.k i.d i.a i.b i.n i.l
def valI (i : Ins) : List Value := [.int .i64 i.k, .int .i64 i.d, .int .i64 i.a, .int .i64 i.b, .int .i64 i.n, .bool i.l]
def encAll (is : List Ins) : List Int := is.flatMap encI
def valAll (is : List Ins) : List Value := is.flatMap valI
theorem encAll_append (x y : List Ins) : encAll (x ++ y) = encAll x ++ encAll y := List.flatMap_append
theorem valAll_append (x y : List Ins) : valAll (x ++ y) = valAll x ++ valAll y := List.flatMap_append
theorem valAll_len (is : List Ins) : (valAll is).length = is.length * 6 := by
  induction is with
  | nil => rfl
  | cons i is ih => rw [show valAll (i :: is) = (valI i) ++ valAll is from rfl, List.length_append, ih]; simp [valI]; omega
theorem valAll_at (is : List Ins) (j : Nat) (i : Ins) (h : is[j]? = some i) (o : Nat) (ho : o < 6) : (valAll is)[j * 6 + o]? = (valI i)[o]? := by
  induction is generalizing j with
  | nil => simp at h
  | cons i0 is ih =>
    rw [show valAll (i0 :: is) = (valI i0) ++ valAll is from rfl]
    cases j with
    | zero => simp at h; subst h; rw [List.getElem?_append_left (by simp [valI]; omega), Nat.zero_mul, Nat.zero_add]
    | succ j =>
      rw [List.getElem?_append_right (by simp [valI]; omega), show (j + 1) * 6 + o - (valI i0).length = j * 6 + o by simp [valI]; omega]
      exact ih j (by simpa using h)
theorem encAll_len (is : List Ins) (h : ∀ i ∈ is, i.chk = 0) : (encAll is).length ≤ is.length * 5 := by
  induction is with
  | nil => simp [encAll]
  | cons i is ih =>
    rw [show encAll (i :: is) = (encI i) ++ encAll is from rfl, List.length_append]
    have := ih fun j hj => h j (List.mem_cons_of_mem _ hj)
    obtain ⟨h1, h2, _⟩ := chk_zero (h i (List.mem_cons_self ..))
    have hl := encL_len (d := i.d) (a := i.a) (b := i.b) (n := i.n) (l := i.l) h1 h2
    have hs : siz i.k i.l ≤ 5 := by have := wid_bd i.k i.l h1 h2; unfold siz; split <;> split <;> omega
    have : (encI i).length ≤ 5 := by unfold encI; omega
    simp only [List.length_cons]
    omega
theorem encAll_bytes (is : List Ins) (h : ∀ i ∈ is, i.chk = 0) : ∀ x ∈ encAll is, 0 ≤ x ∧ x ≤ 255 := by
  intro x hx
  obtain ⟨i, hi, hx⟩ := List.mem_flatMap.1 hx
  exact enc_bytes (h i hi) x hx
theorem row_below {w w' : World} {base : Nat} {e : TypeId} {size : Nat} {v : Value} {n : Nat} {xs : List Value} (h : w.ownsRow base e size v n xs) (hb : Below w.heap.size w w') : w'.ownsRow base e size v n xs :=
  h.kept (row := none) ⟨hb.os, hb.tape, hb.output, hb.size, fun k hk _ => hb.block k hk⟩ (by cases v.ownBlock <;> simp)
theorem infoI : (Tryd.prog.info? 61).map (fun i => (i.zero, i.size, i.bytes)) = some (some (.agg #[.int .i64 0, .int .i64 0, .int .i64 0, .int .i64 0, .int .i64 0, .bool false]), 6, 48) := by kernel_rfl
theorem one_vals (i : Ins) : ∀ u ∈ valI i, u.oneCell' = true := by
  intro u hu
  simp [valI] at hu
  rcases hu with rfl | rfl | rfl | rfl | rfl | rfl <;> rfl
theorem one_bytes (ns : List Int) : ∀ u ∈ ns.map (Value.int .u8), u.oneCell' = true := ints_oneCell .u8 ns
end Go.Proofs.YtechpdfcgimkkaaDoor
