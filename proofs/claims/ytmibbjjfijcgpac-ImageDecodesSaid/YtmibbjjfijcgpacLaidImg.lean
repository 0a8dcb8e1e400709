/-
  An image that came in, opened.
-/
import Derived.Test.YtmibbjjfijcgpacRows
import Derived.Test.YtmibbjjfijcgpacPureImg
import Derived.ProofKit
import Derived.OpenShut
import Derived.ShutString
import Derived.ChangeOld
import Derived.SizedLaws
namespace Go.Proofs.Ytmibbjjfijcgpac
open Go.ChangeShapes Go.WideShapes Go.ChangeAt Go.WideMaps Go.WideElems Go.RowKit Go.Joins Go.Deep
theorem jOwn : ownKnob Try.prog.godebug = none := by kernel_rfl
theorem jLaid : laidOutB Try.prog = true := by kernel_rfl
theorem jInt : Try.prog.cellsOf 3 = 1 := by kernel_rfl
theorem jByte : Try.prog.cellsOf 5 = 1 := by kernel_rfl
theorem jStr : Try.prog.cellsOf 9 = 1 := by kernel_rfl
theorem jInts : Try.prog.cellsOf 25 = 1 := by kernel_rfl
theorem jFn : Try.prog.cellsOf 46 = 3 := by kernel_rfl
theorem jLn : Try.prog.cellsOf 42 = 2 := by kernel_rfl
theorem jImg : Try.prog.cellsOf 28 = 6 := by kernel_rfl
theorem wf64 {x : Int} (h : (Lit.int .i64 x).wf = true) : i64 x := by
  simp [Lit.wf, IntKind.min, IntKind.max, IntKind.signed, IntKind.bits] at h
  unfold i64
  omega
theorem wf8 {x : Int} (h : (Lit.int .u8 x).wf = true) : 0 ≤ x ∧ x ≤ 255 := by
  simp [Lit.wf, IntKind.min, IntKind.max, IntKind.signed, IntKind.bits] at h
  omega
theorem arr6 {α : Type} {cs : Array α} (h : cs.size = 6) : ∃ c0 c1 c2 c3 c4 c5, cs = #[c0, c1, c2, c3, c4, c5] := by
  obtain ⟨l⟩ := cs
  match l, h with
  | [c0, c1, c2, c3, c4, c5], _ => exact ⟨c0, c1, c2, c3, c4, c5, rfl⟩
section
variable {H : Type} {enc : TypeId × Value → H} {w : World} {base : Nat} {spare : Nat → Bool} {held : Bool}
theorem open_list {α : Type} (cells : α → List Value) (ok : α → Prop) {S T : TypeId} {sz fuel : Nat} {v : Value} {x : DataW H × List MemPlace} (hU : Try.prog.underlying S = some (.slice T)) (hC : Try.prog.cellsOf T = sz) (hp : 0 < sz) (hlc : ∀ a, (cells a).length = sz)
    (each : ∀ n cs x, cs.length = sz → DataW.trod enc Try.prog w base spare held n T cs = some x → ∃ a, ok a ∧ cells a = cs)
    (h : DataW.trod enc Try.prog w base spare held fuel S [v] = some x) : ∃ xs : List α, (∀ x ∈ xs, ok x) ∧ ListAt w cells sz v xs := by
  rcases DataW.trod_slice hU h with ⟨hcs, _⟩ | ⟨y, len, cap, elems, rest, n, _, hcs, _, hb, hl, hm, hlen, hel, _, _⟩
  · obtain rfl := List.head_eq_of_cons_eq hcs
    exact ⟨[], fun _ h => (by cases h), Or.inl ⟨_, _, rfl, rfl⟩⟩
  · obtain rfl := List.head_eq_of_cons_eq hcs
    rw [hC] at hel
    have each' : ∀ i, i < len → ∃ a, ok a ∧ ∀ o u, (cells a)[o]? = some u → w.cell? ((y.add (i * sz)).add o) = some u := by
      intro i hi
      have he := hel i hi
      rw [List.getElem?_eq_getElem (by omega), Option.bind_eq_some_iff] at he
      obtain ⟨cs, hcs, ht⟩ := he
      obtain ⟨_, hl4, hc⟩ := World.cells?_some hcs
      obtain ⟨a, ha, rfl⟩ := each n cs _ hl4 ht
      refine ⟨a, ha, fun o u hu => ?_⟩
      have ho : o < sz := by
        rcases Nat.lt_or_ge o sz with q | q
        · exact q
        · rw [List.getElem?_eq_none (by omega)] at hu; cases hu
      rw [hc o ho, hu]
    obtain ⟨f, hf'⟩ : ∃ f : Fin len → α, ∀ i, ok (f i) ∧ ∀ o u, (cells (f i))[o]? = some u → w.cell? ((y.add (i.1 * sz)).add o) = some u :=
      ⟨fun i => Classical.choose (each' i.1 i.2), fun i => Classical.choose_spec (each' i.1 i.2)⟩
    refine ⟨List.ofFn f, fun r hr => ?_, ?_⟩
    · obtain ⟨i, rfl⟩ := (List.mem_ofFn ..).1 hr
      exact (hf' i).1
    by_cases h0 : len = 0
    · subst h0; exact Or.inl ⟨_, _, rfl, by simp⟩
    obtain ⟨b, off, spot⟩ := y
    have hfirst : ∃ u, (cells (f ⟨0, by omega⟩))[0]? = some u := ⟨_, List.getElem?_eq_getElem (by rw [hlc]; exact hp)⟩
    obtain ⟨u0, hu0⟩ := hfirst
    have hc := (hf' ⟨0, by omega⟩).2 0 u0 hu0
    have hspot : spot = none := by simpa [Addr.add] using World.cell?_spot hc
    subst hspot
    refine Or.inr ⟨b, off, cap, by rw [List.length_ofFn], by rw [List.length_ofFn]; omega, hm, ?_, fun j r hj o u hu => ?_⟩
    · rcases Nat.lt_or_ge b w.heap.size with q | q
      · exact q
      · rw [Addr.add_lit, Addr.add_lit] at hc
        simp [World.cell?, Array.getElem?_eq_none q] at hc
    · have hj' : j < len := by
        rcases Nat.lt_or_ge j len with q | q
        · exact q
        · rw [List.getElem?_eq_none (by rw [List.length_ofFn]; omega)] at hj; cases hj
      rw [List.getElem?_ofFn, dif_pos hj'] at hj
      obtain rfl := Option.some.inj hj
      have q := (hf' ⟨j, hj'⟩).2 o u hu
      rwa [Addr.add_lit, Addr.add_lit] at q
theorem one_of {cs : List Value} (h : cs.length = 1) : ∃ c, cs = [c] := by
  match cs, h with
  | [c], _ => exact ⟨c, rfl⟩
theorem open_ilist {fuel : Nat} {v : Value} {x : DataW H × List MemPlace} (h : DataW.trod enc Try.prog w base spare held fuel 25 [v] = some x) : ∃ xs : List Int, (∀ x ∈ xs, i64 x) ∧ ListAt w icell 1 v xs :=
  open_list icell i64 Try.underlying25 jInt (by decide) (fun _ => rfl) (fun n cs x hl ht => by
    obtain ⟨c, rfl⟩ := one_of hl
    obtain ⟨k, e, _, hw⟩ := DataW.trod_int Try.underlying3 ht
    exact ⟨k, wf64 hw, e.symm⟩) h
theorem open_ulist {fuel : Nat} {v : Value} {x : DataW H × List MemPlace} (h : DataW.trod enc Try.prog w base spare held fuel 22 [v] = some x) : ∃ xs : List Int, (∀ x ∈ xs, 0 ≤ x ∧ x ≤ 255) ∧ ListAt w ucell 1 v xs :=
  open_list ucell (fun x => 0 ≤ x ∧ x ≤ 255) Try.underlying22 jByte (by decide) (fun _ => rfl) (fun n cs x hl ht => by
    obtain ⟨c, rfl⟩ := one_of hl
    obtain ⟨k, e, _, hw⟩ := DataW.trod_int Try.underlying5 ht
    exact ⟨k, wf8 hw, e.symm⟩) h
theorem open_flist {fuel : Nat} {v : Value} {x : DataW H × List MemPlace} (h : DataW.trod enc Try.prog w base spare held fuel 23 [v] = some x) : ∃ xs : List Fn, (∀ x ∈ xs, x.ok) ∧ ListAt w Fn.cells 3 v xs :=
  open_list Fn.cells Fn.ok Try.underlying23 jFn (by decide) (fun _ => rfl) (fun n cs x hl ht => by
    obtain ⟨y0, y1, y2, n', _, _, t0, t1, t2⟩ := trod_struct3 Try.underlying46 ht
    match cs, hl with
    | [c0, c1, c2], _ =>
      simp only [jInt, jStr] at t0 t1 t2
      obtain ⟨s, e0, _, w0⟩ := DataW.trod_string Try.underlying9 t0
      obtain ⟨a, e1, _, w1⟩ := DataW.trod_int Try.underlying3 t1
      obtain ⟨b, e2, _, w2⟩ := DataW.trod_int Try.underlying3 t2
      simp at e0 e1 e2
      subst e0 e1 e2
      exact ⟨⟨s, a, b⟩, ⟨w0, wf64 w1, wf64 w2⟩, rfl⟩) h
theorem open_llist {fuel : Nat} {v : Value} {x : DataW H × List MemPlace} (h : DataW.trod enc Try.prog w base spare held fuel 26 [v] = some x) : ∃ xs : List Ln, (∀ x ∈ xs, x.ok) ∧ ListAt w Ln.cells 2 v xs :=
  open_list Ln.cells Ln.ok Try.underlying26 jLn (by decide) (fun _ => rfl) (fun n cs x hl ht => by
    obtain ⟨y0, y1, n', _, _, t0, t1⟩ := trod_struct2 Try.underlying42 ht
    match cs, hl with
    | [c0, c1], _ =>
      simp only [jInt] at t0 t1
      obtain ⟨a, e1, _, w1⟩ := DataW.trod_int Try.underlying3 t0
      obtain ⟨b, e2, _, w2⟩ := DataW.trod_int Try.underlying3 t1
      simp at e1 e2
      subst e1 e2
      exact ⟨⟨a, b⟩, ⟨wf64 w1, wf64 w2⟩, rfl⟩) h
theorem open_tlist {fuel : Nat} {v : Value} {x : DataW H × List MemPlace} (h : DataW.trod enc Try.prog w base spare held fuel 24 [v] = some x) :
    ∃ xs : List Value, (∀ u ∈ xs, ∃ t : List Int, (∀ x ∈ t, i64 x) ∧ ListAt w icell 1 u t) ∧ ListAt w vcell 1 v xs :=
  open_list vcell (fun u => ∃ t : List Int, (∀ x ∈ t, i64 x) ∧ ListAt w icell 1 u t) Try.underlying24 jInts (by decide) (fun _ => rfl) (fun n cs x hl ht => by
    obtain ⟨c, rfl⟩ := one_of hl
    exact ⟨c, open_ilist ht, rfl⟩) h
theorem six_img {cs : List Value} {x : DataW H × List MemPlace} {fuel : Nat} (h : DataW.trod enc Try.prog w base spare held fuel 28 cs = some x) :
    ∃ y0 y1 y2 y3 y4 y5 n, x = (.agg [y0.1, y1.1, y2.1, y3.1, y4.1, y5.1], y0.2 ++ (y1.2 ++ (y2.2 ++ (y3.2 ++ (y4.2 ++ y5.2))))) ∧
      DataW.trod enc Try.prog w base spare held n 22 ((cs.drop 0).take 1) = some y0 ∧ DataW.trod enc Try.prog w base spare held n 23 ((cs.drop 1).take 1) = some y1 ∧
      DataW.trod enc Try.prog w base spare held n 24 ((cs.drop 2).take 1) = some y2 ∧ DataW.trod enc Try.prog w base spare held n 25 ((cs.drop 3).take 1) = some y3 ∧
      DataW.trod enc Try.prog w base spare held n 26 ((cs.drop 4).take 1) = some y4 ∧ DataW.trod enc Try.prog w base spare held n 3 ((cs.drop 5).take 1) = some y5 := by
  obtain ⟨xs, n, _, rfl, hl, hlen, hf⟩ := DataW.trod_struct Try.underlying28 h
  match xs, hlen with
  | [y0, y1, y2, y3, y4, y5], _ => exact ⟨y0, y1, y2, y3, y4, y5, n, by simp, hf 0 _ rfl, hf 1 _ rfl, hf 2 _ rfl, hf 3 _ rfl, hf 4 _ rfl, hf 5 _ rfl⟩
/-- An image that came in, opened. -/
theorem open_image {r : Reach} {b0 : Nat} {v : Value} {x : DataW H} {p : List MemPlace} (hv : Value.okWide Try.prog w r b0 28 v) (h : DataW.Trod enc Try.prog w base spare held 28 v x p) :
    ∃ (vT vF vB vD vL : Value) (m : Img), v = .agg #[vT, vF, vB, vD, vL, .int .i64 m.entry] ∧ ImgAt w vT vF vB vD vL m ∧ m.ok := by
  obtain ⟨cs, rfl, hsz⟩ := okWide_struct Try.underlying28 hv
  obtain ⟨vT, vF, vB, vD, vL, vE, rfl⟩ := arr6 (hsz.trans jImg)
  obtain ⟨fuel, hf⟩ := h
  obtain ⟨y0, y1, y2, y3, y4, y5, m, hx, f0, f1, f2, f3, f4, f5⟩ := six_img hf
  simp only [Value.cells, List.drop, List.take] at f0 f1 f2 f3 f4 f5
  obtain ⟨e, e5, _, w5⟩ := DataW.trod_int Try.underlying3 f5
  simp at e5
  subst e5
  obtain ⟨tx, o0, a0⟩ := open_ulist f0
  obtain ⟨fs, o1, a1⟩ := open_flist f1
  obtain ⟨vs, o2, a2⟩ := open_tlist f2
  obtain ⟨da, o3, a3⟩ := open_ilist f3
  obtain ⟨ls, o4, a4⟩ := open_llist f4
  obtain ⟨ts, t1, t2, t3⟩ : ∃ ts : List (List Int), vs.length = ts.length ∧ (∀ t ∈ ts, ∀ x ∈ t, i64 x) ∧ ∀ (j : Nat) (u : Value) (t : List Int), vs[j]? = some u → ts[j]? = some t → ListAt w icell 1 u t := by
    clear a2 f2
    induction vs with
    | nil => exact ⟨[], rfl, fun _ h => (by cases h), fun j u t h => by simp at h⟩
    | cons u vs ih =>
      obtain ⟨ts, q1, q2, q3⟩ := ih fun u hu => o2 u (List.mem_cons_of_mem _ hu)
      obtain ⟨t, r1, r2⟩ := o2 u (List.mem_cons_self ..)
      refine ⟨t :: ts, by simp [q1], ?_, ?_⟩
      · intro t' ht'
        rcases List.mem_cons.1 ht' with rfl | h
        · exact r1
        · exact q2 t' h
      · intro j u' t' hu ht
        cases j with
        | zero => simp at hu ht; subst hu ht; exact r2
        | succ j => exact q3 j u' t' (by simpa using hu) (by simpa using ht)
  exact ⟨vT, vF, vB, vD, vL, ⟨tx, fs, ts, da, ls, e⟩, rfl, ⟨a0, a1, ⟨vs, a2, t1, t3⟩, a3, a4⟩, ⟨o0, o1, t2, o3, o4, wf64 w5⟩⟩
end
end Go.Proofs.Ytmibbjjfijcgpac
