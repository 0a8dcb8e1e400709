/-
  Bytes that are put together: numbers in so many bytes; a slice of the call's own in a variable that a closure has.
-/
import Derived.Test.YtechpdfcgimkkaaDoorCopyKit
import Derived.Deep.AppendLies
import Derived.Deep.RegionLaw
import Derived.Deep.Upon
import Derived.Deep.AppendSrc
import Derived.Lib.AppendStr
import Derived.Lib.SlBytesConst
namespace Go.Proofs.YtechpdfcgimkkaaDoor
open Go.RowKit Go.Joins
/-- A number in so many bytes, the highest one first. -/
def be : Nat → Int → List Int
  | 0, _ => []
  | k + 1, n => n / 2 ^ (8 * k) % 256 :: be k n
theorem be_len (k : Nat) (n : Int) : (be k n).length = k := by
  induction k with
  | zero => rfl
  | succ k ih => simp [be, ih]
theorem be_bd (k : Nat) (n : Int) : ∀ x ∈ be k n, 0 ≤ x ∧ x ≤ 255 := by
  induction k with
  | zero => intro x h; cases h
  | succ k ih =>
    intro x h
    simp only [be, List.mem_cons] at h
    rcases h with rfl | h
    · omega
    · exact ih x h
theorem be_take (k : Nat) (n : Int) (p : Nat) (h : p < k) : (be k n).take (k - p) = (be k n).take (k - (p + 1)) ++ [n / 2 ^ (8 * p) % 256] := by
  induction k with
  | zero => omega
  | succ k ih =>
    rcases Nat.lt_or_ge p k with q | q
    · rw [show k + 1 - p = (k - p) + 1 by omega, show k + 1 - (p + 1) = (k - (p + 1)) + 1 by omega]
      simp only [be, List.take_succ_cons, List.cons_append]
      rw [ih q]
    · obtain rfl : p = k := by omega
      rw [show p + 1 - p = 1 by omega, Nat.sub_self]
      simp [be]
/-- What a step keeps that grows the row in the variable gb. -/
structure Keep (B gb : Nat) (w w' : World) : Prop where
  bel : Below B w w'
  oth : ∀ (k : Nat) (cs : Array Value) (T : TypeId) (fr : Nat × Nat), w.heap[k]? = some (.cells cs T fr) → T ≠ 5 → k ≠ gb → w'.heap[k]? = some (.cells cs T fr)
theorem Keep.refl (B gb : Nat) (w : World) : Keep B gb w w := ⟨Below.refl _ _, fun _ _ _ _ h _ _ => h⟩
theorem Keep.trans {B gb : Nat} {w w1 w2 : World} (h1 : Keep B gb w w1) (h2 : Keep B gb w1 w2) : Keep B gb w w2 :=
  ⟨h1.bel.trans h2.bel, fun k cs T fr h hT hk => h2.oth k cs T fr (h1.oth k cs T fr h hT hk) hT hk⟩
theorem Keep.alloc {B gb : Nat} {w w1 : World} (h : Keep B gb w w1) (hB : B ≤ w1.heap.size) (o : Obj) : Keep B gb w (w1.alloc o) :=
  ⟨h.bel.alloc hB o, fun k cs T fr hk hT hg => by
    have := h.oth k cs T fr hk hT hg
    have hlt := (Array.getElem?_eq_some_iff.1 this).1
    show (w1.heap.push _)[k]? = _
    rw [Array.getElem?_push_lt hlt, ← Array.getElem?_eq_getElem hlt]; exact this⟩
theorem Keep.drew {B gb : Nat} {w w1 : World} (h : Keep B gb w w1) : Keep B gb w w1.drew := ⟨h.bel.drew, h.oth⟩
theorem Keep.drewN {B gb : Nat} {w w1 : World} (h : Keep B gb w w1) (n : Nat) : Keep B gb w (w1.drewN n) := ⟨⟨h.bel.os, h.bel.tape, h.bel.output, h.bel.size, h.bel.block⟩, h.oth⟩
/-- A slice of bytes of the call's own: one that may grow, or a full one. -/
def Own (w : World) (B : Nat) (v : Value) (ns : List Int) : Prop :=
  w.ownsRow B 5 1 v ns.length (ns.map (Value.int .u8)) ∨ ∃ g, v = .slice (some ⟨g, 0, none⟩) ns.length ns.length ∧ B ≤ g ∧ ∃ fr, w.heap[g]? = some (.cells (ns.map (Value.int .u8)).toArray 5 fr)
theorem Own.block {w : World} {B : Nat} {v : Value} {ns : List Int} (h : Own w B v ns) {k : Nat} (hk : v.ownBlock = some k) : B ≤ k ∧ ∃ cur fr, w.heap[k]? = some (.cells cur 5 fr) := by
  rcases h with h | ⟨g, rfl, hB, fr, hg⟩
  · rcases h.2 with ⟨rfl, _⟩ | ⟨g, cap, cur, rfl, hB, hg, _⟩
    · cases hk
    · have : g = k := by simpa [Value.ownBlock] using hk
      subst this
      exact ⟨hB, _, _, hg⟩
  · have : g = k := by simpa [Value.ownBlock] using hk
    subst this
    exact ⟨hB, _, _, hg⟩
theorem Own.form {w : World} {B : Nat} {v : Value} {ns : List Int} (h : Own w B v ns) : ∃ a c, v = .slice a ns.length c := by
  rcases h with h | ⟨g, rfl, _⟩
  · rcases h.2 with ⟨rfl, h0⟩ | ⟨_, _, _, rfl, _⟩
    · exact ⟨_, _, by rw [h0]⟩
    · exact ⟨_, _, rfl⟩
  · exact ⟨_, _, rfl⟩
theorem Own.any {w : World} {B : Nat} {v : Value} {ns : List Int} (h : Own w B v ns) : ∃ a l c, v = .slice a l c := by
  obtain ⟨a, c, e⟩ := h.form
  exact ⟨a, _, c, e⟩
theorem Own.one {w : World} {B : Nat} {v : Value} {ns : List Int} (h : Own w B v ns) : v.oneCell' = true := by
  rcases h with h | ⟨g, rfl, _⟩
  · rcases h.2 with ⟨rfl, _⟩ | ⟨_, _, _, rfl, _⟩ <;> rfl
  · rfl
theorem Own.same {w w' : World} {B : Nat} {v : Value} {ns : List Int} (h : Own w B v ns) (hk : ∀ k, v.ownBlock = some k → w'.heap[k]? = w.heap[k]?) : Own w' B v ns := by
  rcases h with h | ⟨g, rfl, hB, fr, hg⟩
  · refine Or.inl ⟨h.1, ?_⟩
    rcases h.2 with q | ⟨g, cap, cur, rfl, q1, q2, q3⟩
    · exact Or.inl q
    · exact Or.inr ⟨g, cap, cur, rfl, q1, (hk g rfl).trans q2, q3⟩
  · exact Or.inr ⟨g, rfl, hB, fr, (hk g rfl).trans hg⟩
theorem Own.ne {w : World} {B : Nat} {v : Value} {ns : List Int} (h : Own w B v ns) {k : Nat} {cs : Array Value} {T : TypeId} {fr : Nat × Nat} (hk : w.heap[k]? = some (.cells cs T fr)) (hT : T ≠ 5) : some k ≠ v.ownBlock := by
  intro he
  obtain ⟨_, cur, fr', hg⟩ := h.block he.symm
  rw [hk] at hg
  simp at hg
  exact hT hg.2.1
/-- What lies in it. -/
theorem Own.list {w : World} {B : Nat} {v : Value} {ns : List Int} (h : Own w B v ns) (hm : ns.length ≤ maxLen) : ListAt w ucell 1 v ns := by
  have go : ∀ g cap, v = .slice (some ⟨g, 0, none⟩) ns.length cap → ns.length ≤ cap → cap ≤ maxLen → g < w.heap.size → (∀ (j : Nat) (u : Value), (ns.map (Value.int .u8))[j]? = some u → w.cell? ⟨g, j, none⟩ = some u) → ListAt w ucell 1 v ns := fun g cap hv h1 h2 h3 h4 => by
    refine Or.inr ⟨g, 0, cap, hv, h1, h2, h3, fun j x hx o u hu => ?_⟩
    have ho : o = 0 := by
      rcases Nat.lt_or_ge o 1 with q | q
      · omega
      · rw [List.getElem?_eq_none (by rw [ucell_len]; exact q)] at hu; cases hu
    subst ho
    rw [Nat.mul_one, Nat.add_zero, Nat.zero_add]
    simp [ucell] at hu
    subst hu
    exact h4 j _ (by rw [List.getElem?_map, hx]; rfl)
  rcases h with h | ⟨g, hv, _, fr, hg⟩
  · rcases h.2 with ⟨rfl, h0⟩ | ⟨g, cap, cur, hv, q1, q2, q3, q4, q5, q6⟩
    · exact Or.inl ⟨_, _, rfl, List.length_eq_zero_iff.1 h0⟩
    · refine go g cap hv q3 q4 (Array.getElem?_eq_some_iff.1 q2).1 fun j u hu => ?_
      have := h.cells (g := g) (by rw [hv]; rfl) j u hu
      rwa [Addr.add_lit, Nat.zero_add] at this
  · refine go g _ hv (Nat.le_refl _) hm (Array.getElem?_eq_some_iff.1 hg).1 fun j u hu => ?_
    simp only [World.cell?, hg, List.getElem?_toArray]
    rw [hu]; rfl
/-- append to such a slice. -/
theorem own_app {w : World} {B : Nat} {v : Value} {ns : List Int} (h : Own w B v ns) (hB : B ≤ w.heap.size) (x : Value) (ms : List Int) (hx : ListAt w ucell 1 x ms) (hn : ns.length + ms.length ≤ 1000000) (ty : TypeId) :
    ∃ v' W, (Builtin.append_ #[23, 23] ty #[v, x]).run Tryd.prog w = .ok v' W ∧ Own W B v' (ns ++ ms) ∧ w.grownBy W v.ownBlock := by
  obtain ⟨i, hi, hz0, hz1, hz2⟩ := info_of inByte
  have nope : ms = [] → (Src Tryd.prog i.size 23 x 0 [] w) → ∃ v' W, (Builtin.append_ #[23, 23] ty #[v, x]).run Tryd.prog w = .ok v' W ∧ Own W B v' (ns ++ ms) ∧ w.grownBy W v.ownBlock := fun he hs => by
    subst he
    have gr : w.grownBy w v.ownBlock := ⟨rfl, rfl, rfl, Nat.le_refl _, fun _ _ _ => rfl⟩
    have form : ∃ a n c, v = .slice a n c ∧ n ≤ c := by
      rcases h with h | ⟨g, rfl, _⟩
      · rcases h.2 with ⟨rfl, _⟩ | ⟨g, cap, cur, rfl, _, _, q, _⟩
        · exact ⟨_, _, _, rfl, Nat.le_refl _⟩
        · exact ⟨_, _, _, rfl, q⟩
      · exact ⟨_, _, _, rfl, Nat.le_refl _⟩
    obtain ⟨a, n, c, rfl, hnc⟩ := form
    exact ⟨_, _, run_append_nothing w 23 23 ty 5 i Tryd.underlying23 hi a n c hnc x hs, by rw [List.append_nil]; exact h, gr⟩
  rcases hx with ⟨a, cap, rfl, rfl⟩ | ⟨bb, oo, cap, rfl, q1, q2, q3, q4⟩
  · refine nope rfl ?_
    cases a with
    | none => exact Src.ofNil w Tryd.underlying23 cap
    | some a => exact Src.ofSlice w Tryd.underlying23 a 0 cap [] (by simp) (fun j u h => by simp at h) (fun _ h => by cases h)
  have hnews : ∀ j u, (ms.map (Value.int .u8))[j]? = some u → w.cell? ((⟨bb, oo, none⟩ : Addr).add j) = some u := fun j u hj => by
    rw [List.getElem?_map, Option.map_eq_some_iff] at hj
    obtain ⟨y, hy, rfl⟩ := hj
    rw [Addr.add_lit]
    have := q4 j y hy 0 _ rfl
    rwa [Nat.mul_one, Nat.add_zero] at this
  rcases h with h | ⟨g, rfl, hBg, fr, hg⟩
  · obtain ⟨v', W, hr, ho, gr, _, _⟩ := run_append_own_at (P := Tryd.prog) w B 23 ty 5 i (.int .u8 0) 1 1 Tryd.underlying23 hi hz0 hz1 hz2 rfl (by decide) v ns.length _ h ⟨bb, oo, none⟩ ms.length cap (ms.map (Value.int .u8)) (by simp) hnews
      (by intro u hu; obtain ⟨_, _, rfl⟩ := List.mem_map.1 hu; rfl) (by unfold maxLen; omega) (by omega) hB
    exact ⟨v', W, hr, Or.inl (by rw [List.length_append, List.map_append]; exact ho), gr⟩
  · rcases Nat.eq_zero_or_pos ms.length with h0 | h0
    · obtain rfl : ms = [] := List.length_eq_zero_iff.1 h0
      exact nope rfl (Src.ofSlice w Tryd.underlying23 ⟨bb, oo, none⟩ 0 cap [] (by simp) (fun j u h => by simp at h) (fun _ h => by cases h))
    · have hold : ∀ j u, (ns.map (Value.int .u8))[j]? = some u → w.cell? ((⟨g, 0, none⟩ : Addr).add j) = some u := fun j u hj => by
        rw [Addr.add_lit, Nat.zero_add]
        simp only [World.cell?, hg, List.getElem?_toArray]
        rw [hj]; rfl
      have hgt : ns.length < ns.length + ms.length := by omega
      have hfit : Builtin.nextslicecap (ns.length + ms.length) ns.length * i.bytes ≤ 281474976710656 := growslice_fits hgt (by rw [hz2]; omega)
      refine ⟨_, _, run_append_grow (P := Tryd.prog) w 23 ty 5 i (.int .u8 0) Tryd.underlying23 hi hz0 ⟨g, 0, none⟩ ns.length ns.length (ns.map (Value.int .u8)) (by simp [hz1]) hold ⟨bb, oo, none⟩ ms.length cap (ms.map (Value.int .u8)) (by simp [hz1]) hnews hgt (by omega) hfit, Or.inl ⟨by simp, Or.inr ⟨w.heap.size, _, _, by rw [List.length_append], hB, by show (w.heap.push _)[w.heap.size]? = _; simp; rfl, ?_, grownCap_le_maxLen _ _ _ _ (by unfold maxLen; omega), ?_, ?_⟩⟩, ?_⟩
      · rw [List.length_append]; exact grownCap_ge w _ _ _
      · have := grownCap_ge w (ns.length + ms.length) ns.length 5
        simp [Builtin.zeroCells, show (Value.int .u8 0).cells.size = 1 from rfl]; omega
      · rw [List.length_append, Nat.mul_one]
        simp [List.take_append]
        exact List.take_of_length_le (by simp)
      · exact ⟨rfl, rfl, rfl, by simp, fun k hk _ => by show (w.heap.push _)[k]? = _; rw [Array.getElem?_push_lt hk, ← Array.getElem?_eq_getElem hk]⟩
/-- The bytes so far: in the variable gb lies a slice of the call's own. -/
structure Buf (w : World) (B gb : Nat) (v : Value) (ns : List Int) : Prop where
  box : w.heap[gb]? = some (.cells #[v] 23)
  own : Own w B v ns
  ge : B ≤ gb
theorem Buf.lt {w : World} {B gb : Nat} {v : Value} {ns : List Int} (h : Buf w B gb v ns) : gb < w.heap.size := (Array.getElem?_eq_some_iff.1 h.box).1
theorem Buf.cell {w : World} {B gb : Nat} {v : Value} {ns : List Int} (h : Buf w B gb v ns) : w.cell? ⟨gb, 0, none⟩ = some v := by simp [World.cell?, h.box]
theorem Buf.frozen {w : World} {B gb : Nat} {v : Value} {ns : List Int} (h : Buf w B gb v ns) : w.frozen? ⟨gb, 0, none⟩ = false := by simp [World.frozen?, h.box]
theorem Buf.grow {w w' : World} {B gb : Nat} {v : Value} {ns : List Int} (h : Buf w B gb v ns) (gr : w.grownBy w' v.ownBlock) (v' : Value) (ns' : List Int) (own' : Own w' B v' ns') :
    w'.heap[gb]? = some (.cells #[v] 23) ∧ Buf (w'.setCell ⟨gb, 0, none⟩ v') B gb v' ns' ∧ Keep B gb w (w'.setCell ⟨gb, 0, none⟩ v') := by
  have hne : some gb ≠ v.ownBlock := h.own.ne h.box (by decide)
  have hbox : w'.heap[gb]? = some (.cells #[v] 23) := (gr.block gb h.lt hne).trans h.box
  have hne' : some gb ≠ v'.ownBlock := own'.ne hbox (by decide)
  have hset := setCell_eq_setRow w' gb 0 #[v] 23 (0, 0) v' hbox
  have hbel : Below B w w' := ⟨gr.os, gr.tape, gr.output, gr.size, fun k hk => by
    have hlt : k < w.heap.size := by have := h.ge; have := h.lt; omega
    refine gr.block k hlt ?_
    intro he
    have := (h.own.block he.symm).1
    omega⟩
  refine ⟨hbox, ⟨?_, ?_, h.ge⟩, ?_, ?_⟩
  · rw [hset]; exact setRow_heap w' gb #[v] _ 23 (0, 0) hbox
  · exact own'.same fun k hk => heap_setCell_other _ _ _ _ (by rintro rfl; exact hne' hk.symm)
  · exact hbel.setCell (p := ⟨gb, 0, none⟩) h.ge v'
  · intro k cs T fr hk hT hkg
    rw [heap_setCell_other _ _ _ _ (by simpa using hkg)]
    exact (gr.block k (Array.getElem?_eq_some_iff.1 hk).1 (h.own.ne hk hT)).trans hk
theorem Buf.kept {w w' : World} {B gb : Nat} {v : Value} {ns : List Int} (h : Buf w B gb v ns) (hb : Below w.heap.size w w') : Buf w' B gb v ns :=
  ⟨(hb.block gb h.lt).trans h.box, h.own.same fun k hk => hb.block k (by obtain ⟨_, _, _, hg⟩ := h.own.block hk; exact (Array.getElem?_eq_some_iff.1 hg).1), h.ge⟩
theorem step_append_two {P : Program} {ops : Array Oper} {o : Oper} {a : Act} {w : World} {K : Act → World → Prop} {Q : Exit → Act → World → Prop} {E : Prop} (hgd : o.guard = none) (s x : Operand) (t tn : TypeId)
    (ho : o.op = .call { callee := .builtin .append, args := #[s, x], argTypes := #[t, tn] }) (vs vx : Value) (hs : a.eval s = vs) (hx : a.eval x = vx)
    {v' : Value} {W : World} (hr : (Builtin.append_ #[t, tn] o.type #[vs, vx]).run P w = .ok v' W) (h : K (a.put o.dst v') W) : if Region.wanted o (yielded ops a.tmps) = true then Oper.wp P o a w K Q else E := by
  have hw : Region.wanted o (yielded ops a.tmps) = true := by simp [Region.wanted, hgd]
  rw [if_pos hw]
  unfold Oper.wp
  simp [execOp, ho, resolve, invoke, builtin, hs, hx, hr, Result.andThen]
  exact h
/-- append(b, x): one byte, in a row that the statement makes. -/
theorem buf_one {w : World} {B gb : Nat} {v : Value} {ns : List Int} (h : Buf w B gb v ns) (x : Int) (hn : ns.length ≤ 100010) (ty : TypeId) :
    ∃ v' W, (Builtin.append_ #[23, 23] ty #[v, .slice (some ⟨w.heap.size, 0, none⟩) 1 1]).run Tryd.prog (w.alloc (.cells #[.int .u8 x] 5)).drew = .ok v' W ∧ W.heap[gb]? = some (.cells #[v] 23) ∧ (∃ a l c, v' = .slice a l c) ∧ Buf (W.setCell ⟨gb, 0, none⟩ v') B gb v' (ns ++ [x]) ∧ Keep B gb w (W.setCell ⟨gb, 0, none⟩ v') := by
  have hb := h.kept (((Below.refl w.heap.size w).alloc (Nat.le_refl _) (.cells #[.int .u8 x] 5)).drew)
  have hB : B ≤ w.heap.size := by have := h.ge; have := h.lt; omega
  have hl : ListAt (w.alloc (.cells #[.int .u8 x] 5)).drew ucell 1 (.slice (some ⟨w.heap.size, 0, none⟩) 1 1) [x] := list_made w ucell 1 [x] 5 ucell_len [] 1 (Nat.le_refl _) (by unfold maxLen; omega)
  obtain ⟨v', W, hr, ho, gr⟩ := own_app hb.own (by show B ≤ (w.heap.push _).size; simp; omega) _ [x] hl (by simp; omega) ty
  obtain ⟨r0, r1, r2⟩ := hb.grow gr v' (ns ++ [x]) ho
  exact ⟨v', W, hr, r0, ho.any, r1, (((Keep.refl B gb w).alloc hB _).drew).trans r2⟩
end Go.Proofs.YtechpdfcgimkkaaDoor
