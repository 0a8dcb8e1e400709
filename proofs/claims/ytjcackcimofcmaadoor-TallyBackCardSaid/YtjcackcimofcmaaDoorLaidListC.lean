/-
  Lists that came in, opened: what every kind of element needs.
-/
import Derived.Test.YtjcackcimofcmaaDoorRows
import Derived.Test.YtjcackcimofcmaaDoorMCC
import Derived.ProofKit
import Derived.OpenShut
import Derived.ShutString
import Derived.ChangeOld
import Derived.SizedLaws
namespace Go.Proofs.YtjcackcimofcmaaDoor
open Go.ChangeShapes Go.WideShapes Go.ChangeAt Go.WideMaps Go.WideElems Go.RowKit Go.Joins Go.Deep
theorem jOwn : ownKnob Tryd.prog.godebug = none := by kernel_rfl
theorem jLaid : laidOutB Tryd.prog = true := by kernel_rfl
theorem jInt : Tryd.prog.cellsOf 3 = 1 := by kernel_rfl
theorem wInt : Program.bytesOf Tryd.prog 3 = 8 := by kernel_rfl
theorem wf64 {x : Int} (h : (Lit.int .i64 x).wf = true) : i64 x := by
  simp [Lit.wf, IntKind.min, IntKind.max, IntKind.signed, IntKind.bits] at h
  unfold i64
  omega
theorem wf8 {x : Int} (h : (Lit.int .u8 x).wf = true) : 0 ≤ x ∧ x ≤ 255 := by
  simp [Lit.wf, IntKind.min, IntKind.max, IntKind.signed, IntKind.bits] at h
  omega
section
variable {H : Type} {enc : TypeId × Value → H} {w : World} {base : Nat} {spare : Nat → Bool} {held : Bool}
theorem open_list {α : Type} (cells : α → List Value) (ok : α → Prop) {S T : TypeId} {sz fuel : Nat} {v : Value} {x : DataW H × List MemPlace} (hU : Tryd.prog.underlying S = some (.slice T)) (hC : Tryd.prog.cellsOf T = sz) (hp : 0 < sz) (hlc : ∀ a, (cells a).length = sz)
    (each : ∀ n cs x, cs.length = sz → DataW.trod enc Tryd.prog w base spare held n T cs = some x → ∃ a, ok a ∧ cells a = cs)
    (h : DataW.trod enc Tryd.prog w base spare held fuel S [v] = some x) : ∃ xs : List α, (∀ x ∈ xs, ok x) ∧ ListAt w cells sz v xs := by
  rcases DataW.trod_slice hU h with ⟨hcs, _⟩ | ⟨y, len, cap, elems, rest, n, _, hcs, _, hb, hl, hm, hlen, hel, _, _⟩
  · obtain rfl := List.head_eq_of_cons_eq hcs
    exact ⟨[], fun _ h => (by cases h), Or.inl ⟨_, _, rfl, rfl⟩⟩
  · obtain rfl := List.head_eq_of_cons_eq hcs
    rw [hC] at hel
    have each' : ∀ i, i < len → ∃ a, ok a ∧ ∀ o u, (cells a)[o]? = some u → w.cell? ((y.add (i * sz)).add o) = some u := by
      intro i hi
      have he := hel i hi
      rw [List.getElem?_eq_getElem (by omega), Option.bind_eq_some_iff] at he
      obtain ⟨cs, hcs, ht⟩ := he
      obtain ⟨_, hl4, hc⟩ := World.cells?_some hcs
      obtain ⟨a, ha, rfl⟩ := each n cs _ hl4 ht
      refine ⟨a, ha, fun o u hu => ?_⟩
      have ho : o < sz := by
        rcases Nat.lt_or_ge o sz with q | q
        · exact q
        · rw [List.getElem?_eq_none (by omega)] at hu; cases hu
      rw [hc o ho, hu]
    obtain ⟨f, hf'⟩ : ∃ f : Fin len → α, ∀ i, ok (f i) ∧ ∀ o u, (cells (f i))[o]? = some u → w.cell? ((y.add (i.1 * sz)).add o) = some u :=
      ⟨fun i => Classical.choose (each' i.1 i.2), fun i => Classical.choose_spec (each' i.1 i.2)⟩
    refine ⟨List.ofFn f, fun r hr => ?_, ?_⟩
    · obtain ⟨i, rfl⟩ := (List.mem_ofFn ..).1 hr
      exact (hf' i).1
    by_cases h0 : len = 0
    · subst h0; exact Or.inl ⟨_, _, rfl, by simp⟩
    obtain ⟨b, off, spot⟩ := y
    have hfirst : ∃ u, (cells (f ⟨0, by omega⟩))[0]? = some u := ⟨_, List.getElem?_eq_getElem (by rw [hlc]; exact hp)⟩
    obtain ⟨u0, hu0⟩ := hfirst
    have hc := (hf' ⟨0, by omega⟩).2 0 u0 hu0
    have hspot : spot = none := by simpa [Addr.add] using World.cell?_spot hc
    subst hspot
    refine Or.inr ⟨b, off, cap, by rw [List.length_ofFn], by rw [List.length_ofFn]; omega, hm, ?_, fun j r hj o u hu => ?_⟩
    · rcases Nat.lt_or_ge b w.heap.size with q | q
      · exact q
      · rw [Addr.add_lit, Addr.add_lit] at hc
        simp [World.cell?, Array.getElem?_eq_none q] at hc
    · have hj' : j < len := by
        rcases Nat.lt_or_ge j len with q | q
        · exact q
        · rw [List.getElem?_eq_none (by rw [List.length_ofFn]; omega)] at hj; cases hj
      rw [List.getElem?_ofFn, dif_pos hj'] at hj
      obtain rfl := Option.some.inj hj
      have q := (hf' ⟨j, hj'⟩).2 o u hu
      rwa [Addr.add_lit, Addr.add_lit] at q
theorem jone_of {cs : List Value} (h : cs.length = 1) : ∃ c, cs = [c] := by
  match cs, h with
  | [c], _ => exact ⟨c, rfl⟩
theorem slice_fits {S T : TypeId} {fuel len cap R : Nat} {a : Option Addr} {x : DataW H × List MemPlace} (hU : Tryd.prog.underlying S = some (.slice T)) (h : DataW.trod enc Tryd.prog w base spare held fuel S [.slice a len cap] = some x)
    (hw : ∀ n ∈ x.1.weights Tryd.prog S, n ≤ R) : len * Tryd.prog.bytesOf T ≤ R := by
  rcases DataW.trod_slice hU h with ⟨hcs, _⟩ | ⟨y, l, c, elems, rest, n, _, hcs, rfl, hb, hl, hm, hlen, hel, _, _⟩
  · cases hcs; simp
  · cases hcs
    have := hw ((elems.length + rest.length) * Tryd.prog.bytesOf T) (by simp [DataW.weights, hU])
    exact Nat.le_trans (Nat.mul_le_mul_right _ (by omega)) this
theorem weightsAll_mem {e : TypeId} : ∀ {ds : List (DataW H)} {j : Nat} {d : DataW H}, ds[j]? = some d → ∀ n ∈ d.weights Tryd.prog e, n ∈ DataW.weightsAll Tryd.prog e ds
  | d0 :: ds, 0, d, hd, n, hn => by
    simp only [List.getElem?_cons_zero, Option.some.injEq] at hd
    subst hd
    simp only [DataW.weightsAll, List.mem_append]
    exact Or.inl hn
  | d0 :: ds, j + 1, d, hd, n, hn => by
    simp only [List.getElem?_cons_succ] at hd
    simp only [DataW.weightsAll, List.mem_append]
    exact Or.inr (weightsAll_mem hd n hn)
  | [], _, _, hd, _, _ => by simp at hd
end
end Go.Proofs.YtjcackcimofcmaaDoor
