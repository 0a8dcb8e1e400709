/-
  P2.3: the bytes of an image; what an image that may be is bounded by.
-/
import Derived.Test.YtechpdfcgimkkaaDoorEncKit
namespace Go.Proofs.YtechpdfcgimkkaaDoor
open Go.RowKit Go.Joins
def nameB (s : ByteArray) : List Int := s.data.toList.map fun b => (b.toNat : Int)
theorem nameB_len (s : ByteArray) : (nameB s).length = s.size := by simp [nameB]
def encF (f : Fn) : List Int := be 1 f.name.size ++ nameB f.name ++ be 2 f.size
def encT (t : List Int) : List Int := be 1 t.length ++ t.flatMap (be 2)
def encLn (l : Ln) : List Int := be 2 l.a ++ be 2 l.n
def magic : List Int := [98, 104, 49, 10]
/-- P2.3. -/
def encImg (m : Img) : List Int :=
  ((((((((((magic ++ be 2 m.text.length) ++ m.text) ++ be 1 m.funcs.length) ++ m.funcs.flatMap encF) ++ be 1 m.entry) ++ be 1 m.tables.length) ++ m.tables.flatMap encT) ++ be 1 m.data.length) ++ m.data.flatMap (be 8)) ++ be 2 m.lines.length) ++ m.lines.flatMap encLn
theorem flatMap_le {α : Type} (f : α → List Int) (c : Nat) (xs : List α) (h : ∀ x ∈ xs, (f x).length ≤ c) : (xs.flatMap f).length ≤ xs.length * c := by
  induction xs with
  | nil => simp
  | cons x xs ih =>
    have h1 := h x (List.mem_cons_self ..)
    have h2 := ih fun y hy => h y (List.mem_cons_of_mem _ hy)
    rw [List.flatMap_cons, List.length_append, List.length_cons, Nat.succ_mul]
    omega
theorem flat_take {α : Type} (f : α → List Int) {xs : List α} {j : Nat} {y : α} (h : xs[j]? = some y) : (xs.take (j + 1)).flatMap f = (xs.take j).flatMap f ++ f y := by
  rw [List.take_add_one, h, List.flatMap_append]; simp
theorem fchk_zero (size : Int) (fs : List Fn) : ∀ (pre : List Fn) (e : Int), fchk size pre fs e = 0 → ∀ f ∈ fs, nameMay f.name = true ∧ 1 ≤ f.size := by
  induction fs with
  | nil => intro _ _ _ f hf; cases hf
  | cons f fs ih =>
    intro pre e h g hg
    rw [fchk] at h
    by_cases c1 : nameMay f.name = false
    · rw [if_pos c1] at h; cases h
    rw [if_neg c1] at h
    by_cases c2 : ∃ g ∈ pre, g.name = f.name
    · rw [if_pos c2] at h; cases h
    rw [if_neg c2] at h
    by_cases c3 : f.start ≠ e ∨ f.size < 1 ∨ size - e < f.size
    · rw [if_pos c3] at h; cases h
    rw [if_neg c3] at h
    rcases List.mem_cons.1 hg with rfl | hg
    · exact ⟨by simpa using c1, by omega⟩
    · exact ih _ _ h g hg
theorem tchk_zero (size : Int) (ts : List (List Int)) (h : tchk size ts = 0) : ∀ t ∈ ts, t.length ≤ 20 ∧ ∀ x ∈ t, 0 ≤ x ∧ x < size := by
  induction ts with
  | nil => intro t ht; cases ht
  | cons t ts ih =>
    rw [tchk] at h
    by_cases c1 : 20 < t.length
    · rw [if_pos c1] at h; cases h
    rw [if_neg c1] at h
    by_cases c2 : ∃ x ∈ t, x < 0 ∨ size ≤ x
    · rw [if_pos c2] at h; cases h
    rw [if_neg c2] at h
    intro u hu
    rcases List.mem_cons.1 hu with rfl | hu
    · refine ⟨by omega, fun x hx => ?_⟩
      rcases Classical.em (x < 0 ∨ size ≤ x) with q | q
      · exact absurd ⟨x, hx, q⟩ c2
      · omega
    · exact ih h u hu
structure May (m : Img) : Prop where
  text : m.text.length ≤ 8000
  nf : m.funcs.length ≤ 40
  funcs : ∀ f ∈ m.funcs, f.name.size ≤ 16 ∧ 1 ≤ f.name.size
  nt : m.tables.length ≤ 20
  tables : ∀ t ∈ m.tables, t.length ≤ 20 ∧ ∀ x ∈ t, 0 ≤ x ∧ x < m.text.length
  nd : m.data.length ≤ 64
  data : ∀ x ∈ m.data, -1099511627776 ≤ x ∧ x ≤ 1099511627776
  nl : m.lines.length ≤ 4000
  entry : 0 ≤ m.entry ∧ m.entry < m.funcs.length
theorem may_of (m : Img) (h : imgChk m = 0) : May m ∧ fchk m.text.length [] m.funcs 0 = 0 ∧ lchk m.text.length m.lines (-1) = 0 := by
  unfold imgChk at h
  by_cases c1 : 8000 < m.text.length ∨ 40 < m.funcs.length
  · rw [if_pos c1] at h; cases h
  rw [if_neg c1] at h
  by_cases c2 : fchk m.text.length [] m.funcs 0 ≠ 0
  · rw [if_pos c2] at h; exact absurd h c2
  rw [if_neg c2] at h
  by_cases c3 : m.entry < 0 ∨ m.funcs.length ≤ m.entry
  · rw [if_pos c3] at h; cases h
  rw [if_neg c3] at h
  by_cases c4 : 20 < m.tables.length ∨ 64 < m.data.length
  · rw [if_pos c4] at h; cases h
  rw [if_neg c4] at h
  by_cases c5 : tchk m.text.length m.tables ≠ 0
  · rw [if_pos c5] at h; exact absurd h c5
  rw [if_neg c5] at h
  by_cases c6 : ∃ x ∈ m.data, x < -1099511627776 ∨ 1099511627776 < x
  · rw [if_pos c6] at h; cases h
  rw [if_neg c6] at h
  by_cases c7 : 4000 < m.lines.length
  · rw [if_pos c7] at h; cases h
  rw [if_neg c7] at h
  have hf := fchk_zero m.text.length m.funcs [] 0 (by omega)
  refine ⟨⟨by omega, by omega, fun f hf2 => ?_, by omega, tchk_zero _ _ (by omega), by omega, fun x hx => ?_, by omega, by omega⟩, by omega, h⟩
  · have := (hf f hf2).1
    simp [nameMay] at this
    omega
  · rcases Classical.em (x < -1099511627776 ∨ 1099511627776 < x) with q | q
    · exact absurd ⟨x, hx, q⟩ c6
    · omega
theorem encF_len (f : Fn) : (encF f).length = f.name.size + 3 := by simp [encF, be_len, nameB_len]; omega
theorem encT_len (t : List Int) : (encT t).length = 1 + t.length * 2 := by
  have : (t.flatMap (be 2)).length = t.length * 2 := by
    induction t with
    | nil => rfl
    | cons x t ih => rw [List.flatMap_cons, List.length_append, ih, be_len, List.length_cons]; omega
  simp [encT, be_len, this]
theorem encLn_len (l : Ln) : (encLn l).length = 4 := by simp [encLn, be_len]
theorem sums (m : Img) (h : May m) : (∀ j, ((m.funcs.take j).flatMap encF).length ≤ 760) ∧ (∀ j, ((m.tables.take j).flatMap encT).length ≤ 820) ∧ (∀ j, ((m.data.take j).flatMap (be 8)).length ≤ 512) ∧ (∀ j, ((m.lines.take j).flatMap encLn).length ≤ 16000) := by
  refine ⟨fun j => ?_, fun j => ?_, fun j => ?_, fun j => ?_⟩
  · have := flatMap_le encF 19 (m.funcs.take j) fun f hf => by rw [encF_len]; have := (h.funcs f (List.mem_of_mem_take hf)).1; omega
    have h2 := h.nf
    rw [List.length_take] at this
    omega
  · have := flatMap_le encT 41 (m.tables.take j) fun t ht => by rw [encT_len]; have := (h.tables t (List.mem_of_mem_take ht)).1; omega
    have h2 := h.nt
    rw [List.length_take] at this
    omega
  · have := flatMap_le (be 8) 8 (m.data.take j) fun t ht => by rw [be_len]; exact Nat.le_refl _
    have h2 := h.nd
    rw [List.length_take] at this
    omega
  · have := flatMap_le encLn 4 (m.lines.take j) fun t ht => by rw [encLn_len]; exact Nat.le_refl _
    have h2 := h.nl
    rw [List.length_take] at this
    omega
section
variable {w : World} {B gb : Nat} {v : Value} {ns : List Int}
theorem wpList_append_two {P : Program} (w : World) {ops : Array Oper} {rest : List Oper} {o : Oper} {a : Act} {Q : Exit → Act → World → Prop} (hgd : o.guard = none) (s x : Operand) (t tn : TypeId)
    (ho : o.op = .call { callee := .builtin .append, args := #[s, x], argTypes := #[t, tn] }) (vs vx : Value) (hs : a.eval s = vs) (hx : a.eval x = vx)
    {v' : Value} {W : World} (hr : (Builtin.append_ #[t, tn] o.type #[vs, vx]).run P w = .ok v' W) (h : wpList P ops Q rest (a.put o.dst v') W) : wpList P ops Q (o :: rest) a w := by
  refine wpList_plain hgd fun K hK => ?_
  unfold Oper.wp
  simp [execOp, ho, resolve, invoke, builtin, hs, hx, hr, Result.andThen]
  exact hK _ _ h
/-- append(b, l...), b in the variable gb. -/
theorem buf_app (h : Buf w B gb v ns) (x : Value) (ms : List Int) (hx : ListAt w ucell 1 x ms) (hn : ns.length + ms.length ≤ 1000000) (ty : TypeId) :
    ∃ v' W, (Builtin.append_ #[23, 23] ty #[v, x]).run Tryd.prog w = .ok v' W ∧ W.heap[gb]? = some (.cells #[v] 23) ∧ (∃ a l c, v' = .slice a l c) ∧ Buf (W.setCell ⟨gb, 0, none⟩ v') B gb v' (ns ++ ms) ∧ Keep B gb w (W.setCell ⟨gb, 0, none⟩ v') := by
  obtain ⟨v', W, hr, ho, gr⟩ := own_app h.own (by have := h.ge; have := h.lt; omega) x ms hx hn ty
  obtain ⟨r0, r1, r2⟩ := h.grow gr v' (ns ++ ms) ho
  exact ⟨v', W, hr, r0, ho.any, r1, r2⟩
/-- append to a slice of the call's own, of a string. -/
theorem own_str (h : Own w B v ns) (hB : B ≤ w.heap.size) (s : ByteArray) (hn : ns.length + s.size ≤ 1000000) (h0 : 0 < s.size) (ty : TypeId) :
    ∃ v' W, (Builtin.append_ #[23, 9] ty #[v, .string s]).run Tryd.prog w = .ok v' W ∧ Own W B v' (ns ++ nameB s) ∧ w.grownBy W v.ownBlock := by
  obtain ⟨i, hi, hz0, hz1, hz2⟩ := info_of inByte
  have hsc : (nameB s).map (Value.int .u8) = Lib.strCells s := by simp [nameB, Lib.strCells]
  rcases h with ho | ⟨g, rfl, hBg, fr, hg⟩
  · obtain ⟨v', W, hr, ho, gr, _⟩ := Lib.run_append_own_string (P := Tryd.prog) w B 23 9 ty 5 i Tryd.underlying23 Tryd.underlying9 hi hz0 hz1 hz2 v ns.length _ ho s (by unfold maxLen; omega) (by omega) hB
    exact ⟨v', W, hr, Or.inl (by rw [List.length_append, List.map_append, nameB_len, hsc]; exact ho), gr⟩
  · have hold : ∀ j u, (ns.map (Value.int .u8))[j]? = some u → w.drew.cell? ((⟨g, 0, none⟩ : Addr).add j) = some u := fun j u hj => by
      rw [Addr.add_lit, Nat.zero_add]
      show w.cell? _ = _
      simp only [World.cell?, hg, List.getElem?_toArray]
      rw [hj]; rfl
    have hgt : ns.length < ns.length + s.size := by omega
    have hfit : Builtin.nextslicecap (ns.length + s.size) ns.length * i.bytes ≤ 281474976710656 := growslice_fits hgt (by rw [hz2]; omega)
    have hsrc := Src.ofString (P := Tryd.prog) w Tryd.underlying9 s
    have hbc : byteCells s = (nameB s).map (Value.int .u8) := by simp [byteCells, nameB]
    rw [← hz1, hbc] at hsrc
    have hf := run_firstCells_some (P := Tryd.prog) w.drew i.size ns.length ⟨g, 0, none⟩ ns.length ns.length (ns.map (Value.int .u8)) (by simp [hz1]) hold
    refine ⟨_, _, run_append_grow_src w 23 9 ty 5 i (.int .u8 0) Tryd.underlying23 hi hz0 _ ns.length ns.length (ns.map (Value.int .u8)) hf (.string s) s.size _ hsrc hgt (by omega) hfit, Or.inl ⟨by simp, Or.inr ⟨w.heap.size, _, _, by rw [List.length_append, nameB_len], hB, by show (w.heap.push _)[w.heap.size]? = _; simp; rfl, ?_, grownCap_le_maxLen _ _ _ _ (by unfold maxLen; omega), ?_, ?_⟩⟩, ?_⟩
    · rw [List.length_append, nameB_len]; exact grownCap_ge w _ _ _
    · have := grownCap_ge w (ns.length + s.size) ns.length 5
      simp [Builtin.zeroCells, nameB_len, show (Value.int .u8 0).cells.size = 1 from rfl]; omega
    · rw [List.length_append, Nat.mul_one]
      simp [List.take_append]
      exact List.take_of_length_le (by simp)
    · exact ⟨rfl, rfl, rfl, by simp, fun k hk _ => by show (w.heap.push _)[k]? = _; rw [Array.getElem?_push_lt hk, ← Array.getElem?_eq_getElem hk]⟩
/-- append(b, s...), s a string. -/
theorem buf_str (h : Buf w B gb v ns) (s : ByteArray) (hn : ns.length + s.size ≤ 1000000) (h0 : 0 < s.size) (ty : TypeId) :
    ∃ v' W, (Builtin.append_ #[23, 9] ty #[v, .string s]).run Tryd.prog w = .ok v' W ∧ W.heap[gb]? = some (.cells #[v] 23) ∧ (∃ a l c, v' = .slice a l c) ∧ Buf (W.setCell ⟨gb, 0, none⟩ v') B gb v' (ns ++ nameB s) ∧ Keep B gb w (W.setCell ⟨gb, 0, none⟩ v') := by
  obtain ⟨v', W, hr, ho, gr⟩ := own_str h.own (by have := h.ge; have := h.lt; omega) s hn h0 ty
  obtain ⟨r0, r1, r2⟩ := h.grow gr v' (ns ++ nameB s) ho
  exact ⟨v', W, hr, r0, ho.any, r1, r2⟩
end
end Go.Proofs.YtechpdfcgimkkaaDoor
