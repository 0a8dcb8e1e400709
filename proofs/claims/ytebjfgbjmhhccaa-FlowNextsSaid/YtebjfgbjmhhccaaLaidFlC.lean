/-
  A flow that came in, opened.
-/
import Derived.Test.YtebjfgbjmhhccaaLaidListC
import Derived.Test.YtebjfgbjmhhccaaPureFlC
namespace Go.Proofs.Ytebjfgbjmhhccaa
open Go.ChangeShapes Go.WideShapes Go.ChangeAt Go.WideMaps Go.WideElems Go.RowKit Go.Joins Go.Deep
theorem kInts : Try.prog.cellsOf 24 = 1 := by kernel_rfl
theorem kBool : Try.prog.cellsOf 4 = 1 := by kernel_rfl
theorem kIns : Try.prog.cellsOf 44 = 6 := by kernel_rfl
theorem kInss : Try.prog.cellsOf 42 = 1 := by kernel_rfl
theorem kBk : Try.prog.cellsOf 46 = 14 := by kernel_rfl
theorem kFl : Try.prog.cellsOf 26 = 3 := by kernel_rfl
theorem wInts : Program.bytesOf Try.prog 3 = 8 := by kernel_rfl
section
variable {H : Type} {enc : TypeId × Value → H} {w : World} {base : Nat} {spare : Nat → Bool} {held : Bool}
theorem fopen_ints {fuel : Nat} {v : Value} {x : DataW H × List MemPlace} (h : DataW.trod enc Try.prog w base spare held fuel 24 [v] = some x) : ∃ xs : List Int, (∀ x ∈ xs, i64 x) ∧ ListAt w icell 1 v xs :=
  open_list icell i64 Try.underlying24 jInt (by decide) (fun _ => rfl) (fun n cs x hl ht => by
    obtain ⟨c, rfl⟩ := jone_of hl
    obtain ⟨k, e, _, hw⟩ := DataW.trod_int Try.underlying3 ht
    exact ⟨k, wf64 hw, e.symm⟩) h
set_option maxRecDepth 100000 in
theorem six_ins {cs : List Value} {x : DataW H × List MemPlace} {fuel : Nat} (h : DataW.trod enc Try.prog w base spare held fuel 44 cs = some x) :
    ∃ y0 y1 y2 y3 y4 y5 n, DataW.trod enc Try.prog w base spare held n 3 ((cs.drop 0).take 1) = some y0 ∧ DataW.trod enc Try.prog w base spare held n 3 ((cs.drop 1).take 1) = some y1 ∧ DataW.trod enc Try.prog w base spare held n 3 ((cs.drop 2).take 1) = some y2 ∧ DataW.trod enc Try.prog w base spare held n 3 ((cs.drop 3).take 1) = some y3 ∧ DataW.trod enc Try.prog w base spare held n 3 ((cs.drop 4).take 1) = some y4 ∧ DataW.trod enc Try.prog w base spare held n 4 ((cs.drop 5).take 1) = some y5 := by
  obtain ⟨xs, n, _, rfl, hl, hlen, hf⟩ := DataW.trod_struct Try.underlying44 h
  match xs, hlen with
  | [y0, y1, y2, y3, y4, y5], _ => exact ⟨y0, y1, y2, y3, y4, y5, n, hf 0 _ rfl, hf 1 _ rfl, hf 2 _ rfl, hf 3 _ rfl, hf 4 _ rfl, hf 5 _ rfl⟩
set_option maxRecDepth 100000 in
theorem nine_bk {cs : List Value} {x : DataW H × List MemPlace} {fuel : Nat} (h : DataW.trod enc Try.prog w base spare held fuel 46 cs = some x) :
    ∃ y0 y1 y2 y3 y4 y5 y6 y7 y8 n, DataW.trod enc Try.prog w base spare held n 3 ((cs.drop 0).take 1) = some y0 ∧ DataW.trod enc Try.prog w base spare held n 3 ((cs.drop 1).take 1) = some y1 ∧ DataW.trod enc Try.prog w base spare held n 42 ((cs.drop 2).take 1) = some y2 ∧ DataW.trod enc Try.prog w base spare held n 24 ((cs.drop 3).take 1) = some y3 ∧ DataW.trod enc Try.prog w base spare held n 44 ((cs.drop 4).take 6) = some y4 ∧ DataW.trod enc Try.prog w base spare held n 3 ((cs.drop 10).take 1) = some y5 ∧ DataW.trod enc Try.prog w base spare held n 3 ((cs.drop 11).take 1) = some y6 ∧ DataW.trod enc Try.prog w base spare held n 3 ((cs.drop 12).take 1) = some y7 ∧ DataW.trod enc Try.prog w base spare held n 24 ((cs.drop 13).take 1) = some y8 := by
  obtain ⟨xs, n, _, rfl, hl, hlen, hf⟩ := DataW.trod_struct Try.underlying46 h
  match xs, hlen with
  | [y0, y1, y2, y3, y4, y5, y6, y7, y8], _ => exact ⟨y0, y1, y2, y3, y4, y5, y6, y7, y8, n, hf 0 _ rfl, hf 1 _ rfl, hf 2 _ rfl, hf 3 _ rfl, hf 4 _ rfl, hf 5 _ rfl, hf 6 _ rfl, hf 7 _ rfl, hf 8 _ rfl⟩
/-- An instruction's six cells. -/
theorem fopen_ins {n : Nat} {cs : List Value} {x : DataW H × List MemPlace} (hl : cs.length = 6) (ht : DataW.trod enc Try.prog w base spare held n 44 cs = some x) : ∃ i : FIns, FIns.cells i = cs := by
  obtain ⟨y0, y1, y2, y3, y4, y5, m, t0, t1, t2, t3, t4, t5⟩ := six_ins ht
  match cs, hl with
  | [c0, c1, c2, c3, c4, c5], _ =>
    simp only [List.drop, List.take] at t0 t1 t2 t3 t4 t5
    obtain ⟨a0, e0, _, _⟩ := DataW.trod_int Try.underlying3 t0
    obtain ⟨a1, e1, _, _⟩ := DataW.trod_int Try.underlying3 t1
    obtain ⟨a2, e2, _, _⟩ := DataW.trod_int Try.underlying3 t2
    obtain ⟨a3, e3, _, _⟩ := DataW.trod_int Try.underlying3 t3
    obtain ⟨a4, e4, _, _⟩ := DataW.trod_int Try.underlying3 t4
    obtain ⟨a5, e5, _⟩ := DataW.trod_bool Try.underlying4 t5
    simp at e0 e1 e2 e3 e4 e5
    subst e0 e1 e2 e3 e4 e5
    exact ⟨⟨a0, a1, a2, a3, a4, a5⟩, rfl⟩
theorem fopen_inss {fuel : Nat} {v : Value} {x : DataW H × List MemPlace} (h : DataW.trod enc Try.prog w base spare held fuel 42 [v] = some x) : ∃ xs : List FIns, ListAt w FIns.cells 6 v xs := by
  obtain ⟨xs, _, h2⟩ := open_list FIns.cells (fun _ => True) Try.underlying42 kIns (by decide) (fun _ => rfl) (fun n cs x hl ht => by
    obtain ⟨i, hi⟩ := fopen_ins hl ht
    exact ⟨i, trivial, hi⟩) h
  exact ⟨xs, h2⟩
/-- A block's cells. -/
theorem fopen_bk {n : Nat} {cs : List Value} {x : DataW H × List MemPlace} (hl : cs.length = 14) (ht : DataW.trod enc Try.prog w base spare held n 46 cs = some x) : ∃ u : BkV, (∃ b : Bk, BkAt w u b) ∧ BkV.cells u = cs := by
  obtain ⟨y0, y1, y2, y3, y4, y5, y6, y7, y8, m, t0, t1, t2, t3, t4, t5, t6, t7, t8⟩ := nine_bk ht
  match cs, hl with
  | [c0, c1, c2, c3, c4, c5, c6, c7, c8, c9, c10, c11, c12, c13], _ =>
    simp only [List.drop, List.take] at t0 t1 t2 t3 t4 t5 t6 t7 t8
    obtain ⟨a0, e0, _, _⟩ := DataW.trod_int Try.underlying3 t0
    obtain ⟨a1, e1, _, _⟩ := DataW.trod_int Try.underlying3 t1
    obtain ⟨a5, e5, _, _⟩ := DataW.trod_int Try.underlying3 t5
    obtain ⟨a6, e6, _, _⟩ := DataW.trod_int Try.underlying3 t6
    obtain ⟨a7, e7, _, _⟩ := DataW.trod_int Try.underlying3 t7
    obtain ⟨cl, hc⟩ := fopen_inss t2
    obtain ⟨al, _, ha⟩ := fopen_ints t3
    obtain ⟨ll, _, hll⟩ := fopen_ints t8
    obtain ⟨li, hli⟩ := fopen_ins rfl t4
    obtain ⟨l0, l1, l2, l3, l4, l5⟩ := li
    simp [FIns.cells] at hli
    obtain ⟨rfl, rfl, rfl, rfl, rfl, rfl⟩ := hli
    simp at e0 e1 e5 e6 e7
    subst e0 e1 e5 e6 e7
    exact ⟨⟨a0, a1, c2, c3, ⟨l0, l1, l2, l3, l4, l5⟩, a5, a6, a7, c13⟩, ⟨⟨a0, a1, cl, al, ⟨l0, l1, l2, l3, l4, l5⟩, a5, a6, a7, ll⟩, rfl, rfl, rfl, rfl, rfl, rfl, hc, ha, hll⟩, rfl⟩
theorem pick_list {α β : Type} (R : α → β → Prop) : ∀ (us : List α), (∀ u ∈ us, ∃ b, R u b) → ∃ bs : List β, us.length = bs.length ∧ ∀ (j : Nat) (u : α) (b : β), us[j]? = some u → bs[j]? = some b → R u b
  | [], _ => ⟨[], rfl, fun j u b h => by simp at h⟩
  | u :: us, h => by
    obtain ⟨bs, q1, q2⟩ := pick_list R us fun u hu => h u (List.mem_cons_of_mem _ hu)
    obtain ⟨b, hb⟩ := h u (List.mem_cons_self ..)
    refine ⟨b :: bs, by simp [q1], fun j u' b' hu hbb => ?_⟩
    cases j with
    | zero => simp at hu hbb; subst hu hbb; exact hb
    | succ j => exact q2 j u' b' (by simpa using hu) (by simpa using hbb)
theorem fopen_blocks {fuel : Nat} {v : Value} {x : DataW H × List MemPlace} (h : DataW.trod enc Try.prog w base spare held fuel 22 [v] = some x) :
    ∃ (us : List BkV) (bs : List Bk), ListAt w BkV.cells 14 v us ∧ us.length = bs.length ∧ ∀ (j : Nat) (u : BkV) (b : Bk), us[j]? = some u → bs[j]? = some b → BkAt w u b := by
  obtain ⟨us, h1, h2⟩ := open_list BkV.cells (fun u => ∃ b : Bk, BkAt w u b) Try.underlying22 kBk (by decide) (fun _ => rfl) (fun n cs x hl ht => fopen_bk hl ht) h
  obtain ⟨bs, h3, h4⟩ := pick_list (BkAt w) us h1
  exact ⟨us, bs, h2, h3, h4⟩
theorem fopen_tables {fuel : Nat} {v : Value} {x : DataW H × List MemPlace} {R : Nat} (h : DataW.trod enc Try.prog w base spare held fuel 23 [v] = some x) (hw : ∀ n ∈ x.1.weights Try.prog 23, n ≤ R) :
    ∃ ts : List (List Int), ListsAt w v ts ∧ ∀ t ∈ ts, t.length * 8 ≤ R := by
  obtain ⟨vs, o2, hB⟩ := open_list vcell (fun u => ∃ t : List Int, ListAt w icell 1 u t) Try.underlying23 kInts (by decide) (fun _ => rfl) (fun n cs x hl ht => by
    obtain ⟨c, rfl⟩ := jone_of hl
    obtain ⟨t, _, ht⟩ := fopen_ints ht
    exact ⟨c, ⟨t, ht⟩, rfl⟩) h
  obtain ⟨ts, h3, h4'⟩ := pick_list (fun u t => ListAt w icell 1 u t) vs o2
  refine ⟨ts, ⟨vs, hB, h3, h4'⟩, fun t ht => ?_⟩
  obtain ⟨i, hi, rfl⟩ := List.mem_iff_getElem.1 ht
  have hit : ts[i]? = some ts[i] := List.getElem?_eq_getElem hi
  obtain ⟨u, hu⟩ : ∃ u, vs[i]? = some u := ⟨_, List.getElem?_eq_getElem (by omega)⟩
  have hl := h4' i u _ hu hit
  obtain ⟨aB, cB, rfl, _⟩ := hB.form
  rcases DataW.trod_slice Try.underlying23 h with ⟨hcs, _⟩ | ⟨y, l, c, elems, rest, n, _, hcs, hy2, hb, hl', hm, hlen, hel, _, _⟩
  · simp at hcs
    rw [hcs.2.1] at hu
    simp at hu
  · cases hcs
    have he := hel i (by omega)
    rw [kInts, Nat.mul_one, List.getElem?_eq_getElem (by omega), Option.bind_eq_some_iff] at he
    obtain ⟨cs, hcs, ht2⟩ := he
    obtain ⟨_, hl4, hc⟩ := World.cells?_some hcs
    obtain ⟨c0, rfl⟩ := jone_of hl4
    have hcell := hc 0 (by decide)
    rcases hB with ⟨_, _, hv0, rfl⟩ | ⟨bb, oo, cap, hv0, _, _, _, h4⟩
    · simp at hu
    · cases hv0
      have h5 := h4 i u hu 0 u rfl
      rw [Addr.add_lit, Addr.add_lit] at hcell
      rw [Nat.mul_one, Nat.add_zero] at h5
      rw [Nat.add_zero, h5] at hcell
      simp at hcell
      subst hcell
      obtain ⟨au, cu, rfl, _⟩ := hl.form
      have := slice_fits Try.underlying24 ht2 (R := R) (fun n' hn' => by
        refine hw n' ?_
        have hm2 : n' ∈ DataW.weightsAll Try.prog 24 (elems.map (·.1)) := weightsAll_mem (j := i) (d := elems[i].1) (by rw [List.getElem?_map, List.getElem?_eq_getElem (by omega)]; rfl) n' hn'
        rw [hy2]
        simp only [DataW.weights, Try.underlying23, List.mem_cons, List.mem_append]
        exact Or.inr (Or.inl hm2))
      rwa [wInts] at this
set_option maxRecDepth 100000 in
theorem three_fl {cs : List Value} {x : DataW H × List MemPlace} {fuel : Nat} (h : DataW.trod enc Try.prog w base spare held fuel 26 cs = some x) :
    ∃ y0 y1 y2 n, x = (.agg [y0.1, y1.1, y2.1], y0.2 ++ (y1.2 ++ y2.2)) ∧ DataW.trod enc Try.prog w base spare held n 22 ((cs.drop 0).take 1) = some y0 ∧ DataW.trod enc Try.prog w base spare held n 23 ((cs.drop 1).take 1) = some y1 ∧ DataW.trod enc Try.prog w base spare held n 24 ((cs.drop 2).take 1) = some y2 := by
  obtain ⟨xs, n, _, rfl, hl, hlen, hf⟩ := DataW.trod_struct Try.underlying26 h
  match xs, hlen with
  | [y0, y1, y2], _ => exact ⟨y0, y1, y2, n, by simp, hf 0 _ rfl, hf 1 _ rfl, hf 2 _ rfl⟩
theorem arr3 {α : Type} {cs : Array α} (h : cs.size = 3) : ∃ c0 c1 c2, cs = #[c0, c1, c2] := by
  obtain ⟨l⟩ := cs
  match l, h with
  | [c0, c1, c2], _ => exact ⟨c0, c1, c2, rfl⟩
set_option maxRecDepth 100000 in
/-- A flow that came in, opened. -/
theorem open_flow {r : Reach} {b0 : Nat} {v : Value} {x : DataW H} {p : List MemPlace} {ts : List TypeId} {ds : List (DataW H)} {j : Nat} (hsz : (DataW.weightsEach Try.prog ts ds).all (· ≤ reachBytes) = true) (ht : ts[j]? = some 26) (hd : ds[j]? = some x)
    (hv : Value.okWide Try.prog w r b0 26 v) (h : DataW.Trod enc Try.prog w base spare held 26 v x p) :
    ∃ (vB vT vF : Value) (f : Fl), v = .agg #[vB, vT, vF] ∧ FlAt w vB vT vF f ∧ f.small := by
  obtain ⟨cs, rfl, hsz2⟩ := okWide_struct Try.underlying26 hv
  obtain ⟨vB, vT, vF, rfl⟩ := arr3 (hsz2.trans kFl)
  have hall : ∀ n ∈ x.weights Try.prog 26, n ≤ 140737488351232 := fun n hn => by
    have := List.all_eq_true.1 hsz n (DataW.weights_mem_each ht hd n hn)
    exact Nat.le_trans (of_decide_eq_true this) (by decide)
  obtain ⟨fuel, hf⟩ := h
  obtain ⟨y0, y1, y2, m, hx, f0, f1, f2⟩ := three_fl hf
  simp only [Value.cells, List.drop, List.take] at f0 f1 f2
  obtain ⟨rfl, _⟩ := Prod.mk.inj hx
  have hw : DataW.weights Try.prog 26 (.agg [y0.1, y1.1, y2.1] : DataW H) = DataW.weightsEach Try.prog [22, 23, 24] [y0.1, y1.1, y2.1] := by
    simp only [DataW.weights, Try.underlying26]; rfl
  rw [hw] at hall
  obtain ⟨us, bs, h1, h2, h3⟩ := fopen_blocks f0
  obtain ⟨ts, t1, t2⟩ := fopen_tables f1 (R := 140737488351232) (fun n hn => hall n (DataW.weights_mem_each (ts := [22, 23, 24]) (ds := [y0.1, y1.1, y2.1]) (j := 1) rfl rfl n hn))
  obtain ⟨fs, _, g1⟩ := fopen_ints f2
  exact ⟨vB, vT, vF, ⟨bs, ts, fs⟩, rfl, ⟨⟨us, h1, h2, h3⟩, t1, g1⟩, t2⟩
end
end Go.Proofs.Ytebjfgbjmhhccaa
