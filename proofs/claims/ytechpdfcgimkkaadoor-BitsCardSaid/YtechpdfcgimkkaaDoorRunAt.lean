/-
  A run over instructions that stand one behind the other, an instruction at a time.
-/
import Derived.Test.YtechpdfcgimkkaaDoorRunKit
import Derived.Test.YtechpdfcgimkkaaDoorPureDecAt
namespace Go.Proofs.YtechpdfcgimkkaaDoor
open Go.RowKit Go.Joins Isa
/-- Where the j'th instruction stands. -/
def offI (is : List Ins) (j : Nat) : Int := ((is.take j).map fun i => siz i.k i.l).sum
theorem encAll_siz (is : List Ins) (h : ∀ i ∈ is, i.chk = 0) : ((encAll is).length : Int) = (is.map fun i => siz i.k i.l).sum := by
  induction is with
  | nil => rfl
  | cons i is ih =>
    have e : encAll (i :: is) = encI i ++ encAll is := rfl
    obtain ⟨h1, h2, _⟩ := chk_zero (h i (List.mem_cons_self ..))
    have hl := encL_len (d := i.d) (a := i.a) (b := i.b) (n := i.n) (l := i.l) h1 h2
    have := ih fun j hj => h j (List.mem_cons_of_mem _ hj)
    rw [e, List.length_append, List.map_cons, List.sum_cons, ← this]
    unfold encI
    omega
theorem run_at {is : List Ins} (h : ∀ i ∈ is, i.chk = 0) {j : Nat} {i : Ins} (hi : is[j]? = some i) {tabs : List (List Int)} {n : Nat} {st : Int} {s : Mc} (hp : s.pc = offI is j) :
    runN (encAll is) tabs (n + 1) st s = if endN s.rs s.mem.length tabs i.k i.a i.b i.n ≠ 0 then (s, endN s.rs s.mem.length tabs i.k i.a i.b i.n, st) else runN (encAll is) tabs n (st + 1) (doS tabs s i.k i.d i.a i.b i.n (siz i.k i.l)) := by
  obtain ⟨h1, _, _, _⟩ := dec_at is h j i hi
  have hq : s.pc = ((encAll (is.take j)).length : Nat) := by
    rw [hp]; exact (encAll_siz _ fun i hi => h i (List.mem_of_mem_take hi)).symm
  rw [runN, hq, h1]
  simp
theorem run_step {is : List Ins} (h : ∀ i ∈ is, i.chk = 0) {j : Nat} {i : Ins} (hi : is[j]? = some i) {tabs : List (List Int)} {n : Nat} {st : Int} {s s' : Mc} {r : Mc × Int × Int} (hp : s.pc = offI is j) (he : endN s.rs s.mem.length tabs i.k i.a i.b i.n = 0)
    (hd : doS tabs s i.k i.d i.a i.b i.n (siz i.k i.l) = s') (hr : runN (encAll is) tabs n (st + 1) s' = r) : runN (encAll is) tabs (n + 1) st s = r := by
  rw [run_at h hi hp, if_neg (by rw [he]; simp), hd, hr]
theorem run_stop {is : List Ins} (h : ∀ i ∈ is, i.chk = 0) {j : Nat} {i : Ins} (hi : is[j]? = some i) {tabs : List (List Int)} {n : Nat} {st e : Int} {s : Mc} (hp : s.pc = offI is j) (he : endN s.rs s.mem.length tabs i.k i.a i.b i.n = e) (hne : e ≠ 0) :
    runN (encAll is) tabs (n + 1) st s = (s, e, st) := by
  rw [run_at h hi hp, he, if_pos hne]
def haltI : Ins := ⟨1, 0, 0, 0, 0, false⟩
def fFn (n : Nat) : Fn := ⟨⟨#[102]⟩, 0, n⟩
/-- boltholekeep's alone. -/
def aloneI (l : List Ins) : Img := ⟨encAll (l ++ [haltI]), [fFn (encAll (l ++ [haltI])).length], [], [5, -3, 0, 7, 1, 2], [], 0⟩
end Go.Proofs.YtechpdfcgimkkaaDoor
