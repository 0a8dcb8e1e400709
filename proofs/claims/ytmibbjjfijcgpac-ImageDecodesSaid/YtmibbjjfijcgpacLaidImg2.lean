/-
  What the form's bound on data says of an image that came in, and of bytes.
-/
import Derived.Test.YtmibbjjfijcgpacLaidImg
import Derived.Test.YtmibbjjfijcgpacSmall
namespace Go.Proofs.Ytmibbjjfijcgpac
open Go.ChangeShapes Go.WideShapes Go.ChangeAt Go.WideMaps Go.WideElems Go.RowKit Go.Joins Go.Deep
theorem wByte : Program.bytesOf Try.prog 5 = 1 := by kernel_rfl
theorem wInt : Program.bytesOf Try.prog 3 = 8 := by kernel_rfl
theorem wFn : Program.bytesOf Try.prog 46 = 32 := by kernel_rfl
theorem wLn : Program.bytesOf Try.prog 42 = 16 := by kernel_rfl
theorem wInts : Program.bytesOf Try.prog 25 = 24 := by kernel_rfl
section
variable {H : Type} {enc : TypeId × Value → H} {w : World} {base : Nat} {spare : Nat → Bool} {held : Bool}
theorem slice_fits {S T : TypeId} {fuel len cap R : Nat} {a : Option Addr} {x : DataW H × List MemPlace} (hU : Try.prog.underlying S = some (.slice T)) (h : DataW.trod enc Try.prog w base spare held fuel S [.slice a len cap] = some x)
    (hw : ∀ n ∈ x.1.weights Try.prog S, n ≤ R) : len * Try.prog.bytesOf T ≤ R := by
  rcases DataW.trod_slice hU h with ⟨hcs, _⟩ | ⟨y, l, c, elems, rest, n, _, hcs, rfl, hb, hl, hm, hlen, hel, _, _⟩
  · cases hcs; simp
  · cases hcs
    have := hw ((elems.length + rest.length) * Try.prog.bytesOf T) (by simp [DataW.weights, hU])
    exact Nat.le_trans (Nat.mul_le_mul_right _ (by omega)) this
theorem weightsAll_mem {e : TypeId} : ∀ {ds : List (DataW H)} {j : Nat} {d : DataW H}, ds[j]? = some d → ∀ n ∈ d.weights Try.prog e, n ∈ DataW.weightsAll Try.prog e ds
  | d0 :: ds, 0, d, hd, n, hn => by
    simp only [List.getElem?_cons_zero, Option.some.injEq] at hd
    subst hd
    simp only [DataW.weightsAll, List.mem_append]
    exact Or.inl hn
  | d0 :: ds, j + 1, d, hd, n, hn => by
    simp only [List.getElem?_cons_succ] at hd
    simp only [DataW.weightsAll, List.mem_append]
    exact Or.inr (weightsAll_mem hd n hn)
  | [], _, _, hd, _, _ => by simp at hd
theorem img_small {v : Value} {x : DataW H} {p : List MemPlace} {ts : List TypeId} {ds : List (DataW H)} {j : Nat} {vT vF vB vD vL : Value} {m : Img} (hsz : (DataW.weightsEach Try.prog ts ds).all (· ≤ reachBytes) = true) (ht : ts[j]? = some 28) (hd : ds[j]? = some x)
    (h : DataW.Trod enc Try.prog w base spare held 28 v x p) (hv : v = .agg #[vT, vF, vB, vD, vL, .int .i64 m.entry]) (hI : ImgAt w vT vF vB vD vL m) : m.small := by
  subst hv
  have hall : ∀ n ∈ x.weights Try.prog 28, n ≤ 140737488351232 := fun n hn => by
    have := List.all_eq_true.1 hsz n (DataW.weights_mem_each ht hd n hn)
    exact Nat.le_trans (of_decide_eq_true this) (by decide)
  obtain ⟨fuel, hf⟩ := h
  obtain ⟨y0, y1, y2, y3, y4, y5, k, hx, f0, f1, f2, f3, f4, f5⟩ := six_img hf
  simp only [Value.cells, List.drop, List.take] at f0 f1 f2 f3 f4 f5
  obtain ⟨rfl, _⟩ := Prod.mk.inj hx
  have hw : DataW.weights Try.prog 28 (.agg [y0.1, y1.1, y2.1, y3.1, y4.1, y5.1] : DataW H) = DataW.weightsEach Try.prog [22, 23, 24, 25, 26, 3] [y0.1, y1.1, y2.1, y3.1, y4.1, y5.1] := by
    simp only [DataW.weights, Try.underlying28]; rfl
  rw [hw] at hall
  have q : ∀ (i : Nat) (t : TypeId) (d : DataW H), [22, 23, 24, 25, 26, 3][i]? = some t → [y0.1, y1.1, y2.1, y3.1, y4.1, y5.1][i]? = some d → ∀ n ∈ d.weights Try.prog t, n ≤ 140737488351232 :=
    fun i t d h1 h2 n hn => hall n (DataW.weights_mem_each h1 h2 n hn)
  obtain ⟨aT, cT, rfl, _⟩ := hI.text.form
  obtain ⟨aF, cF, rfl, _⟩ := hI.funcs.form
  obtain ⟨aD, cD, rfl, _⟩ := hI.data.form
  obtain ⟨aL, cL, rfl, _⟩ := hI.lines.form
  obtain ⟨vs, hB, hBl, hBe⟩ := hI.tables
  obtain ⟨aB, cB, rfl, _⟩ := hB.form
  have p0 := slice_fits Try.underlying22 f0 (q 0 _ _ rfl rfl)
  have p1 := slice_fits Try.underlying23 f1 (q 1 _ _ rfl rfl)
  have p2 := slice_fits Try.underlying24 f2 (q 2 _ _ rfl rfl)
  have p3 := slice_fits Try.underlying25 f3 (q 3 _ _ rfl rfl)
  have p4 := slice_fits Try.underlying26 f4 (q 4 _ _ rfl rfl)
  rw [wByte] at p0
  rw [wFn] at p1
  rw [wInts] at p2
  rw [wInt] at p3
  rw [wLn] at p4
  refine ⟨by omega, by omega, by omega, fun t ht => ?_, by omega, by omega⟩
  obtain ⟨i, hi, rfl⟩ := List.mem_iff_getElem.1 ht
  have hit : m.tables[i]? = some m.tables[i] := List.getElem?_eq_getElem hi
  obtain ⟨u, hu⟩ : ∃ u, vs[i]? = some u := ⟨_, List.getElem?_eq_getElem (by omega)⟩
  have hl := hBe i u _ hu hit
  rcases DataW.trod_slice Try.underlying24 f2 with ⟨hcs, _⟩ | ⟨y, l, c, elems, rest, n, _, hcs, hy2, hb, hl', hm, hlen, hel, _, _⟩
  · simp at hcs
    rw [hcs.2.1] at hu
    simp at hu
  · cases hcs
    have he := hel i (by omega)
    rw [jInts, Nat.mul_one, List.getElem?_eq_getElem (by omega), Option.bind_eq_some_iff] at he
    obtain ⟨cs, hcs, ht2⟩ := he
    obtain ⟨_, hl4, hc⟩ := World.cells?_some hcs
    obtain ⟨c0, rfl⟩ := one_of hl4
    have hcell := hc 0 (by decide)
    rcases hB with ⟨_, _, hv0, rfl⟩ | ⟨bb, oo, cap, hv0, _, _, _, h4⟩
    · simp at hu
    · cases hv0
      have h5 := h4 i u hu 0 u rfl
      rw [Addr.add_lit, Addr.add_lit] at hcell
      rw [Nat.mul_one, Nat.add_zero] at h5
      rw [Nat.add_zero, h5] at hcell
      simp at hcell
      subst hcell
      obtain ⟨au, cu, rfl, _⟩ := hl.form
      have := slice_fits Try.underlying25 ht2 (R := 140737488351232) (fun n' hn' => by
        refine q 2 _ _ rfl rfl n' ?_
        have hm2 : n' ∈ DataW.weightsAll Try.prog 25 (elems.map (·.1)) := weightsAll_mem (j := i) (d := elems[i].1) (by rw [List.getElem?_map, List.getElem?_eq_getElem (by omega)]; rfl) n' hn'
        rw [hy2]
        simp only [DataW.weights, Try.underlying24, List.mem_cons, List.mem_append]
        exact Or.inr (Or.inl hm2))
      rw [wInt] at this
      omega
theorem open_bytes {r : Reach} {b0 : Nat} {v : Value} {x : DataW H} {p : List MemPlace} {ts : List TypeId} {ds : List (DataW H)} {j : Nat} (hsz : (DataW.weightsEach Try.prog ts ds).all (· ≤ reachBytes) = true) (ht : ts[j]? = some 22) (hd : ds[j]? = some x)
    (hv : Value.okWide Try.prog w r b0 22 v) (h : DataW.Trod enc Try.prog w base spare held 22 v x p) : ∃ ns : List Int, ListAt w ucell 1 v ns ∧ (∀ x ∈ ns, 0 ≤ x ∧ x ≤ 255) ∧ ns.length ≤ 140737488351232 := by
  obtain ⟨a, len, cap, rfl⟩ := okWide_slice Try.underlying22 hv
  obtain ⟨fuel, hf⟩ := h
  simp only [Value.cells] at hf
  obtain ⟨ns, h1, h2⟩ := open_ulist hf
  refine ⟨ns, h2, h1, ?_⟩
  obtain ⟨a', cap', hv', _⟩ := h2.form
  cases hv'
  have := slice_fits Try.underlying22 hf (R := 140737488351232) (fun n hn => by
    have := List.all_eq_true.1 hsz n (DataW.weights_mem_each ht hd n hn)
    exact Nat.le_trans (of_decide_eq_true this) (by decide))
  rw [wByte] at this
  omega
end
end Go.Proofs.Ytmibbjjfijcgpac
