/-
  What boltholekeep's 'assembled' keeps in memory, round by round.
-/
import Derived.Test.YtechpdfcgimkkaaDoorMWC
import Derived.Test.YtechpdfcgimkkaaDoorMXC
import Derived.Test.YtechpdfcgimkkaaDoorMKC
import Derived.Lib.AppendZerosOnto
import Derived.Test.YtechpdfcgimkkaaDoorShItoaC
namespace Go.Proofs.YtechpdfcgimkkaaDoor
open Go.RowKit Go.Joins Isa
theorem szB_bd (b : List Sp) : 0 ≤ szB b ∧ szB b ≤ 5 * b.length := by
  induction b with
  | nil => simp [szB]
  | cons x r ih =>
    have h := sizeNum_bd x.i.k x.i.d x.i.a x.i.b x.i.n x.i.l
    have e : szB (x :: r) = sizeNum x.i.k x.i.d x.i.a x.i.b x.i.n x.i.l + szB r := by simp [szB, szS]
    rw [e, List.length_cons]
    omega
theorem szAll_bd (bs : List (List Sp)) (h : ∀ b ∈ bs, b.length ≤ 1000) : 0 ≤ szAll bs ∧ szAll bs ≤ 5000 * bs.length := by
  induction bs with
  | nil => simp [szAll]
  | cons b r ih =>
    have h1 := ih fun x hx => h x (List.mem_cons_of_mem _ hx)
    have h2 := szB_bd b
    have h3 := h b (List.mem_cons_self ..)
    have e : szAll (b :: r) = szB b + szAll r := by simp [szAll]
    rw [e, List.length_cons]
    omega
theorem least (P : Nat → Prop) (h : ∃ n, P n) : ∃ n, P n ∧ ∀ m, P m → n ≤ m := by
  obtain ⟨n, hn⟩ := h
  induction n using Nat.strongRecOn with
  | _ n ih =>
    by_cases q : ∃ m, m < n ∧ P m
    · obtain ⟨m, h1, h2⟩ := q
      exact ih m h1 h2
    · exact ⟨n, hn, fun m hm => Nat.le_of_not_lt fun hlt => q ⟨m, hlt, hm⟩⟩
theorem push3 (w : World) (a b c : Obj) : (((w.alloc a).alloc b).alloc c).heap[w.heap.size]? = some a ∧ (((w.alloc a).alloc b).alloc c).heap[w.heap.size + 1]? = some b ∧ (((w.alloc a).alloc b).alloc c).heap[w.heap.size + 2]? = some c := by
  refine ⟨?_, ?_, ?_⟩
  · show (((w.heap.push a).push b).push c)[w.heap.size]? = _
    rw [Array.getElem?_push, if_neg (by simp only [Array.size_push]; omega), Array.getElem?_push, if_neg (by simp only [Array.size_push]; omega), Array.getElem?_push, if_pos rfl]
  · show (((w.heap.push a).push b).push c)[w.heap.size + 1]? = _
    rw [Array.getElem?_push, if_neg (by simp only [Array.size_push]; omega), Array.getElem?_push, if_pos (by simp only [Array.size_push])]
  · show (((w.heap.push a).push b).push c)[w.heap.size + 2]? = _
    rw [Array.getElem?_push, if_pos (by simp only [Array.size_push])]
theorem below3 (w : World) (B : Nat) (h : B ≤ w.heap.size) (a b c : Obj) : Below B w (((w.alloc a).alloc b).alloc c) :=
  (((Below.refl _ _).alloc h _).alloc (by show B ≤ (w.heap.push a).size; rw [Array.size_push]; omega) _).alloc (by show B ≤ ((w.heap.push a).push b).size; rw [Array.size_push, Array.size_push]; omega) _
/-- An image in rows of the call's own. -/
structure OwnImg (W : World) (B : Nat) (vT vF vB vD vL : Value) (m : Img) : Prop where
  text : W.ownsRow B 5 1 vT m.text.length (flat ucell m.text)
  funcs : W.ownsRow B 47 3 vF m.funcs.length (flat Fn.cells m.funcs)
  tables : ∃ us : List Value, W.ownsRow B 26 1 vB us.length (flat vcell us) ∧ us.length = m.tables.length ∧ ∀ (j : Nat) (u : Value) (t : List Int), us[j]? = some u → m.tables[j]? = some t → W.ownsRow B 3 1 u t.length (flat icell t)
  data : W.ownsRow B 3 1 vD m.data.length (flat icell m.data)
  lines : W.ownsRow B 43 2 vL m.lines.length (flat Ln.cells m.lines)
/-- The round's own relation. -/
def AsR (w : World) (B gp : Nat) (vB vF : Value) (vs : List Value) (bs0 : List (List Sp)) (fs : List Int) (L : List Rw) (av : Value) (wr : World) (cs : List (List Sp)) : Prop :=
  PlanAt wr B gp vB vF vs cs fs ∧ Lng bs0 cs ∧ (∃ v0 v1 v2 v4, wr.heap[w.heap.size + 2]? = some (.cells #[v0, v1, v2, .slice (some ⟨w.heap.size + 1, 0, none⟩) 6 6, v4, .int .i64 0] 29) ∧
      (av = .bool true ∨ (av = .bool false ∧ (emUpTo (startsOf cs) fs cs.flatten).again = false ∧ OwnImg wr B v0 v1 v2 (.slice (some ⟨w.heap.size + 1, 0, none⟩) 6 6) v4 (imgOf cs cs fs L)))) ∧
    wr.heap[w.heap.size + 1]? = some (.cells #[.int .i64 5, .int .i64 (-3), .int .i64 0, .int .i64 7, .int .i64 1, .int .i64 2] 3) ∧
    wr.heap[w.heap.size]? = some (.cells #[.slice none 0 0, .slice none 0 0, .slice none 0 0, .slice none 0 0, .slice none 0 0, .int .i64 0] 29) ∧
    Below B w wr ∧ Tabs wr
/-- .. and in the midst of a round: what is written so far. -/
def EmR (w wo : World) (B gp : Nat) (vB vF vA v1 v2 : Value) (vs : List Value) (fs ats : List Int) (wr : World) (cs : List (List Sp)) (em : Em) : Prop :=
  (∃ vT vL, wr.heap[w.heap.size + 2]? = some (.cells #[vT, v1, v2, .slice (some ⟨w.heap.size + 1, 0, none⟩) 6 6, vL, .int .i64 0] 29) ∧ wr.ownsRow wo.heap.size 5 1 vT em.text.length (flat ucell em.text) ∧ wr.ownsRow wo.heap.size 43 2 vL em.lines.length (flat Ln.cells em.lines)) ∧
    PlanAt wr B gp vB vF vs cs fs ∧ wr.ownsRow wo.heap.size 3 1 vA ats.length (flat icell ats) ∧
    wr.heap[w.heap.size + 1]? = some (.cells #[.int .i64 5, .int .i64 (-3), .int .i64 0, .int .i64 7, .int .i64 1, .int .i64 2] 3) ∧
    wr.heap[w.heap.size]? = some (.cells #[.slice none 0 0, .slice none 0 0, .slice none 0 0, .slice none 0 0, .slice none 0 0, .int .i64 0] 29) ∧
    Below B w wr ∧ Tabs wr ∧ wo.heap.size ≤ wr.heap.size
theorem img_set {wr : World} {g : Nat} {cs : Array Value} (h : wr.heap[g]? = some (.cells cs 29)) (o : Nat) (u : Value) :
    Keeps 29 wr (wr.setCell ⟨g, o, none⟩ u) ∧ Below g wr (wr.setCell ⟨g, o, none⟩ u) ∧ (wr.setCell ⟨g, o, none⟩ u).heap[g]? = some (.cells (cs.setIfInBounds o u) 29) ∧ (∀ k, k ≠ g → (wr.setCell ⟨g, o, none⟩ u).heap[k]? = wr.heap[k]?) :=
  ⟨Keeps.set h, (Below.refl _ _).setCell (p := ⟨g, o, none⟩) (Nat.le_refl _) u, heap_setCell_same _ _ _ _ _ _ h, fun _ hk => heap_setCell_other _ _ _ _ hk⟩
/-- The measure of the rounds: how many spots may still be made long; of several plans that fit the least number. -/
theorem as_measure (w : World) (B gp : Nat) (vB vF : Value) (vs : List Value) (bs0 : List (List Sp)) (fs : List Int) (L : List Rw) : ∃ M : Value → World → Nat,
    (∀ (av : Value) (wr : World) (cs : List (List Sp)), AsR w B gp vB vF vs bs0 fs L av wr cs → M av wr ≤ nShort cs + 1) ∧
    (∀ (wr : World) (cs : List (List Sp)), AsR w B gp vB vF vs bs0 fs L (.bool true) wr cs → ∃ cs, AsR w B gp vB vF vs bs0 fs L (.bool true) wr cs ∧ M (.bool true) wr = nShort cs + 1) ∧
    (∀ wr : World, M (.bool false) wr = 0) := by
  have each : ∀ (av : Value) (wr : World), ∃ n : Nat, (∀ cs : List (List Sp), AsR w B gp vB vF vs bs0 fs L av wr cs → n ≤ nShort cs + 1) ∧ (av = .bool true → ∀ cs : List (List Sp), AsR w B gp vB vF vs bs0 fs L av wr cs → ∃ cs, AsR w B gp vB vF vs bs0 fs L av wr cs ∧ n = nShort cs + 1) ∧ (av = .bool false → n = 0) := by
    intro av wr
    by_cases hx : ∃ n, ∃ cs, AsR w B gp vB vF vs bs0 fs L av wr cs ∧ nShort cs = n ∧ av = .bool true
    · obtain ⟨n, ⟨cs, h1, h2, h3⟩, h4⟩ := least _ hx
      refine ⟨n + 1, fun cs' h => Nat.succ_le_succ (h4 _ ⟨cs', h, rfl, h3⟩), fun _ cs' h => ⟨cs, h1, by rw [h2]⟩, fun h => ?_⟩
      rw [h] at h3
      cases h3
    · exact ⟨0, fun _ _ => Nat.zero_le _, fun h cs' h' => absurd ⟨_, cs', h', rfl, h⟩ hx, fun _ => rfl⟩
  refine ⟨fun av wr => (each av wr).choose, fun av wr => (each av wr).choose_spec.1, fun wr cs h => (each (.bool true) wr).choose_spec.2.1 rfl cs h, fun wr => (each (.bool false) wr).choose_spec.2.2 rfl⟩
end Go.Proofs.YtechpdfcgimkkaaDoor
/-
  The steps of a round of boltholekeep's 'assembled': a line more, bytes more, room more, a spot made long.
-/
namespace Go.Proofs.YtechpdfcgimkkaaDoor
open Go.RowKit Go.Joins Isa
theorem code_small (i : Ins) : (codeOf i).length ≤ 5 := by
  unfold codeOf
  split
  · rename_i h
    obtain ⟨h1, h2, _⟩ := chk_zero h
    have hl := encL_len (d := i.d) (a := i.a) (b := i.b) (n := i.n) (l := i.l) h1 h2
    have hs : siz i.k i.l ≤ 5 := by have := wid_bd i.k i.l h1 h2; unfold siz; split <;> split <;> omega
    unfold encI
    omega
  · have := sizeNum_bd i.k 0 0 0 0 i.l
    unfold roomOf
    rw [List.length_replicate]
    omega
theorem em_small_from (ats fs : List Int) : ∀ (xs : List Sp) (s : Em), (xs.foldl (emS ats fs) s).text.length ≤ s.text.length + 5 * xs.length ∧ (xs.foldl (emS ats fs) s).lines.length ≤ s.lines.length + xs.length
  | [], s => by simp
  | x :: r, s => by
    obtain ⟨h1, h2⟩ := em_small_from ats fs r (emS ats fs s x)
    have e1 : (emS ats fs s x).text.length ≤ s.text.length + 5 := by
      have := code_small (insAt ats fs s.text.length x)
      show (s.text ++ codeOf (insAt ats fs s.text.length x)).length ≤ _
      rw [List.length_append]
      omega
    have e2 : (emS ats fs s x).lines.length ≤ s.lines.length + 1 := by
      show (if x.line = s.line then s.lines else s.lines ++ [(⟨s.text.length, x.line⟩ : Ln)]).length ≤ _
      split
      · omega
      · rw [List.length_append]; simp
    rw [List.foldl_cons, List.length_cons]
    omega
theorem em_small (ats fs : List Int) (xs : List Sp) : (emUpTo ats fs xs).text.length ≤ 5 * xs.length ∧ (emUpTo ats fs xs).lines.length ≤ xs.length := by
  have := em_small_from ats fs xs em0
  simpa [em0, emUpTo] using this
theorem flat_small (cs : List (List Sp)) (m : Nat) (h : ∀ b ∈ cs, b.length ≤ m) : cs.flatten.length ≤ cs.length * m := by
  induction cs with
  | nil => simp
  | cons b r ih =>
    have h1 := h b (List.mem_cons_self ..)
    have h2 := ih fun x hx => h x (List.mem_cons_of_mem _ hx)
    rw [List.flatten_cons, List.length_append, List.length_cons, Nat.succ_mul]
    omega
theorem starts_bd (cs : List (List Sp)) (hc : cs.length ≤ 114) (hb : ∀ b ∈ cs, b.length ≤ 1000) (k : Nat) : 0 ≤ (startsOf cs).getD k 0 ∧ (startsOf cs).getD k 0 ≤ 600000 := by
  by_cases h : k < cs.length
  · rw [starts_at cs k h]
    have := szAll_bd (cs.take k) fun b q => hb b (List.mem_of_mem_take q)
    rw [List.length_take, Nat.min_eq_left (by omega)] at this
    omega
  · rw [List.getD_eq_getElem?_getD, List.getElem?_eq_none (by rw [starts_len]; omega)]
    simp
theorem set_same {α : Type} {l : List α} {i : Nat} {x : α} (h : l[i]? = some x) : l.set i x = l := by
  apply List.ext_getElem?
  intro k
  by_cases e : k = i
  · subst e
    rw [List.getElem?_set_self (List.getElem?_eq_some_iff.1 h).1, h]
  · rw [List.getElem?_set_ne (fun q => e q.symm)]
theorem hid {p : Prop} (h : p) : Hid p := h
theorem own_lt {w : World} {B sz n g cap : Nat} {E : TypeId} {xs : List Value} (h : w.ownsRow B E sz (.slice (some ⟨g, 0, none⟩) n cap) n xs) : g < w.heap.size := by
  obtain ⟨_, cur, hg⟩ := row_block h rfl
  exact (Array.getElem?_eq_some_iff.1 hg).1
theorem lncell_len (l : Ln) : (Ln.cells l).length = 2 := rfl
theorem lncell_one (l : Ln) : ∀ u ∈ Ln.cells l, u.oneCell' = true := by intro u hu; simp [Ln.cells] at hu; rcases hu with rfl | rfl <;> rfl
theorem inLine : (Tryd.prog.info? 43).map (fun i => (i.zero, i.size, i.bytes)) = some (some (.agg #[.int .i64 0, .int .i64 0]), 2, 16) := by kernel_rfl
theorem inOct : (Tryd.prog.info? 5).map (fun i => (i.zero, i.size, i.bytes)) = some (some (.int .u8 0), 1, 1) := by kernel_rfl
theorem flat_oct (ms : List Int) : flat ucell ms = ms.map (Value.int .u8) := by
  induction ms with
  | nil => rfl
  | cons x r ih => rw [List.map_cons, ← ih]; rfl
section
variable {w wo W0 W1 : World} {B gp : Nat} {vB vF vA v1 v2 : Value} {vs : List Value} {fs ats : List Int} {cs : List (List Sp)} {em : Em}
/-- What lies in the box of the spot in hand. -/
def BoxAt (W : World) (g : Nat) (i : Ins) (x : Sp) : Prop := W.heap[g]? = some (.cells #[.int .i64 i.k, .int .i64 i.d, .int .i64 i.a, .int .i64 i.b, .int .i64 i.n, .bool i.l, .int .i64 x.blk, .int .i64 x.fn, .int .i64 x.line] 118)
theorem EmR.up (h : EmR w wo B gp vB vF vA v1 v2 vs fs ats W0 cs em) (hb : Below W0.heap.size W0 W1) : EmR w wo B gp vB vF vA v1 v2 vs fs ats W1 cs em := by
  obtain ⟨⟨vT, vL, hI, hT, hL⟩, hP, hA, hD, hG, hB, hTb, hz⟩ := h
  have hBs : B ≤ W0.heap.size := hP.hB
  exact ⟨⟨vT, vL, (hb.block _ (Array.getElem?_eq_some_iff.1 hI).1).trans hI, row_up hT hb, row_up hL hb⟩, hP.up hb, row_up hA hb, (hb.block _ (Array.getElem?_eq_some_iff.1 hD).1).trans hD, (hb.block _ (Array.getElem?_eq_some_iff.1 hG).1).trans hG, hB.trans (hb.mono hBs), hTb.below hTb.sz hb, Nat.le_trans hz hb.size⟩
/-- A row of the image grows and is stored. -/
theorem img_grow {W0 W2 : World} {g o : Nat} {E : TypeId} {cs : Array Value} {v v' : Value} {B sz n m : Nat} {xs ys : List Value} (hI : W0.heap[g]? = some (.cells cs 29)) (hr : W0.ownsRow B E sz v n xs) (gr : W0.grownBy W2 v.ownBlock) (ho : W2.ownsRow B E sz v' m ys) (hE : E ≠ 29) :
    W2.heap[g]? = some (.cells cs 29) ∧ Keeps E W0 W2 ∧ Keeps 29 W2 (W2.setCell ⟨g, o, none⟩ v') ∧ (W2.setCell ⟨g, o, none⟩ v').heap[g]? = some (.cells (cs.setIfInBounds o v') 29) ∧ (W2.setCell ⟨g, o, none⟩ v').ownsRow B E sz v' m ys := by
  have k1 : Keeps E W0 W2 := Keeps.grown hr gr
  have h2 := k1 _ _ _ _ hI (fun q => hE q.symm)
  have k2 : Keeps 29 W2 (W2.setCell ⟨g, o, none⟩ v') := Keeps.set h2
  exact ⟨h2, k1, k2, heap_setCell_same _ _ _ _ _ _ h2, row_keeps ho k2 hE⟩
/-- One line more: W1, the world at the append; the line in a block of its own. -/
theorem EmR.line (h : EmR w wo B gp vB vF vA v1 v2 vs fs ats W0 cs em) (hs : em.lines.length ≤ 200000) (hgw : B ≤ w.heap.size) (hwo : w.heap.size + 2 < wo.heap.size) (hb : Below W0.heap.size W0 W1) (g : Nat) (a n : Int)
    (h0 : W1.cell? ⟨g, 0, none⟩ = some (.int .i64 a)) (h1 : W1.cell? ⟨g, 1, none⟩ = some (.int .i64 n)) :
    ∃ aL cL c W2, W0.cell? ⟨w.heap.size + 2, 4, none⟩ = some (.slice aL em.lines.length cL) ∧ (∃ a', (Builtin.append_ #[27, 27] 27 #[.slice aL em.lines.length cL, .slice (some ⟨g, 0, none⟩) 1 1]).run Tryd.prog W1 = .ok (.slice a' (em.lines.length + 1) c) W2 ∧
      W2.frozen? ⟨w.heap.size + 2, 4, none⟩ = false ∧ (∃ u, W2.cell? ⟨w.heap.size + 2, 4, none⟩ = some u) ∧ w.heap.size + 2 < W2.heap.size ∧ (∀ (k : Nat) (c' : Array Value), W1.heap[k]? = some (.cells c' 118) → W2.heap[k]? = some (.cells c' 118)) ∧
      EmR w wo B gp vB vF vA v1 v2 vs fs ats (W2.setCell ⟨w.heap.size + 2, 4, none⟩ (.slice a' (em.lines.length + 1) c)) cs { em with lines := em.lines ++ [⟨a, n⟩] } ∧ (∀ (k : Nat) (c' : Array Value), W1.heap[k]? = some (.cells c' 118) → (W2.setCell ⟨w.heap.size + 2, 4, none⟩ (.slice a' (em.lines.length + 1) c)).heap[k]? = some (.cells c' 118))) := by
  have hu := h.up hb
  obtain ⟨⟨vT0, vL0, hI0, hT0, hL0⟩, -, -, -, -, -, -, -⟩ := h
  obtain ⟨⟨vT, vL, hI, hT, hL⟩, hP, hA, hD, hG, hB, hTb, hz⟩ := hu
  have hII := ((hb.block _ (Array.getElem?_eq_some_iff.1 hI0).1).trans hI0).symm.trans hI
  simp only [Option.some.injEq, Obj.cells.injEq, Array.mk.injEq, List.cons.injEq, true_and, and_true] at hII
  obtain ⟨⟨rfl, rfl⟩, -⟩ : (vT0 = vT ∧ vL0 = vL) ∧ True := ⟨by simpa using hII, trivial⟩
  obtain ⟨aL, cL, rfl⟩ := orow_form' hL
  obtain ⟨v', W2, hr, ho, gr⟩ := orow_apps 43 27 2 16 _ Tryd.underlying27 inLine rfl (by decide) hL hz g 0 1 1 (Ln.cells ⟨a, n⟩) rfl (fun j u hj => by
    rcases j with _ | _ | j
    · simp [Ln.cells] at hj; subst hj; exact h0
    · simp [Ln.cells] at hj; subst hj; exact h1
    · simp [Ln.cells] at hj) (lncell_one _) (by omega) (by unfold maxLen; omega)
  obtain ⟨a', c, rfl⟩ := orow_form' ho
  obtain ⟨i2, k1, k2, i3, ho3⟩ := img_grow (o := 4) hI hL gr ho (by decide)
  have hsB : Below (w.heap.size + 2) W1 (W2.setCell ⟨w.heap.size + 2, 4, none⟩ (.slice a' (em.lines.length + 1) c)) := (obelow_grown (C := w.heap.size + 2) hL gr (by omega) (by omega)).setCell (p := ⟨w.heap.size + 2, 4, none⟩) (Nat.le_refl _) _
  have e1 : flat Ln.cells em.lines ++ Ln.cells ⟨a, n⟩ = flat Ln.cells (em.lines ++ [⟨a, n⟩]) := by simp [flat]
  have e2 : em.lines.length + 1 = (em.lines ++ [(⟨a, n⟩ : Ln)]).length := by simp
  rw [e1] at ho3
  have K : ∀ {k : Nat} {c' : Array Value} {T : TypeId} {fr : Nat × Nat}, W1.heap[k]? = some (.cells c' T fr) → T ≠ 43 → T ≠ 29 → (W2.setCell ⟨w.heap.size + 2, 4, none⟩ (.slice a' (em.lines.length + 1) c)).heap[k]? = some (.cells c' T fr) := fun q t1 t2 => k2 _ _ _ _ (k1 _ _ _ _ q t1) t2
  have hzW : W1.heap.size ≤ W2.heap.size := gr.size
  refine ⟨aL, cL, c, W2, by simp [World.cell?, hI0], a', hr, by simp [World.frozen?, i2], ⟨_, by simp [World.cell?, i2]; rfl⟩, (Array.getElem?_eq_some_iff.1 i2).1, (fun k c' q => k1 _ _ _ _ q (by decide)), ⟨⟨vT0, _, i3, row_keeps (row_keeps hT k1 (by decide)) k2 (by decide), ?_⟩, (hP.keeps k1 (by decide) (by decide) (by decide) (by decide)).keeps k2 (by decide) (by decide) (by decide) (by decide), row_keeps (row_keeps hA k1 (by decide)) k2 (by decide), K (T := 3) hD (by decide) (by decide), (hsB.block _ (by omega)).trans hG, hB.trans (hsB.mono (by omega)), hTb.below (by have := hTb.sz; have := hP.hB; omega) hsB, by rw [World.size_setCell]; omega⟩, fun k c' q => K (T := 118) q (by decide) (by decide)⟩
  conv => arg 6; rw [← e2]
  exact ho3
theorem EmR.text (h : EmR w wo B gp vB vF vA v1 v2 vs fs ats W0 cs em) (hgw : B ≤ w.heap.size) (hwo : w.heap.size + 2 < wo.heap.size) :
    ∃ aT cT, W0.cell? ⟨w.heap.size + 2, 0, none⟩ = some (.slice aT em.text.length cT) ∧ W0.ownsRow wo.heap.size 5 1 (.slice aT em.text.length cT) em.text.length (flat ucell em.text) ∧ w.heap.size + 2 < W0.heap.size ∧ wo.heap.size ≤ W0.heap.size ∧
      ∀ v' W2 ms m, m = em.text.length + ms.length → W2.ownsRow wo.heap.size 5 1 v' m (flat ucell em.text ++ ms.map (Value.int .u8)) → W0.grownBy W2 (Value.slice aT em.text.length cT).ownBlock →
        W2.frozen? ⟨w.heap.size + 2, 0, none⟩ = false ∧ (∃ u, W2.cell? ⟨w.heap.size + 2, 0, none⟩ = some u) ∧ w.heap.size + 2 < W2.heap.size ∧
        EmR w wo B gp vB vF vA v1 v2 vs fs ats (W2.setCell ⟨w.heap.size + 2, 0, none⟩ v') cs { em with text := em.text ++ ms } ∧ (∀ (k : Nat) (c' : Array Value), W0.heap[k]? = some (.cells c' 118) → (W2.setCell ⟨w.heap.size + 2, 0, none⟩ v').heap[k]? = some (.cells c' 118)) := by
  obtain ⟨⟨vT, vL, hI, hT, hL⟩, hP, hA, hD, hG, hB, hTb, hz⟩ := h
  obtain ⟨aT, cT, rfl⟩ := orow_form' hT
  refine ⟨aT, cT, by simp [World.cell?, hI], hT, (Array.getElem?_eq_some_iff.1 hI).1, hz, fun v' W2 ms m hm ho gr => ?_⟩
  obtain ⟨i2, k1, k2, i3, ho3⟩ := img_grow (o := 0) hI hT gr ho (by decide)
  have hsB : Below (w.heap.size + 2) W0 (W2.setCell ⟨w.heap.size + 2, 0, none⟩ v') := (obelow_grown (C := w.heap.size + 2) hT gr (by omega) (by omega)).setCell (p := ⟨w.heap.size + 2, 0, none⟩) (Nat.le_refl _) _
  have e1 : flat ucell em.text ++ ms.map (Value.int .u8) = flat ucell (em.text ++ ms) := by
    rw [← flat_oct ms]; simp [flat]
  have e2 : m = (em.text ++ ms).length := by rw [List.length_append]; exact hm
  rw [e1] at ho3
  have K : ∀ {k : Nat} {c' : Array Value} {T : TypeId} {fr : Nat × Nat}, W0.heap[k]? = some (.cells c' T fr) → T ≠ 5 → T ≠ 29 → (W2.setCell ⟨w.heap.size + 2, 0, none⟩ v').heap[k]? = some (.cells c' T fr) := fun q t1 t2 => k2 _ _ _ _ (k1 _ _ _ _ q t1) t2
  have hzW : W0.heap.size ≤ W2.heap.size := gr.size
  refine ⟨by simp [World.frozen?, i2], ⟨_, by simp [World.cell?, i2]; rfl⟩, (Array.getElem?_eq_some_iff.1 i2).1, ⟨⟨_, vL, i3, ?_, row_keeps (row_keeps hL k1 (by decide)) k2 (by decide)⟩, (hP.keeps k1 (by decide) (by decide) (by decide) (by decide)).keeps k2 (by decide) (by decide) (by decide) (by decide), row_keeps (row_keeps hA k1 (by decide)) k2 (by decide), K (T := 3) hD (by decide) (by decide), (hsB.block _ (by omega)).trans hG, hB.trans (hsB.mono (by omega)), hTb.below (by have := hTb.sz; have := hP.hB; omega) hsB, by rw [World.size_setCell]; omega⟩, fun k c' q => K (T := 118) q (by decide) (by decide)⟩
  conv => arg 6; rw [← e2]
  exact ho3
/-- One spot made long. -/
theorem EmR.mark (hB1 : 1 < B) (h : EmR w wo B gp vB vF vA v1 v2 vs fs ats W0 cs em) {k j g cap : Nat} {b : List Sp} {x : Sp} (hb : cs[k]? = some b) (hx : b[j]? = some x) (hv : vs[k]? = some (.slice (some ⟨g, 0, none⟩) b.length cap)) :
    EmR w wo B gp vB vF vA v1 v2 vs fs ats (W0.setCell ⟨g, j * 9 + 5, none⟩ (.bool true)) (cs.set k (b.set j x.long)) em ∧ W0.frozen? ⟨g, j * 9 + 5, none⟩ = false ∧ W0.cell? ⟨g, j * 9 + 5, none⟩ = some (.bool x.i.l) ∧ (∀ k', k' ≠ g → (W0.setCell ⟨g, j * 9 + 5, none⟩ (.bool true)).heap[k']? = W0.heap[k']?) := by
  obtain ⟨⟨vT, vL, hI, hT, hL⟩, hP, hA, hD, hG, hB, hTb, hz⟩ := h
  obtain ⟨m1, m2, m3, m4, m5⟩ := hP.mark hb hx hv
  have hBs := hP.hB
  refine ⟨⟨⟨vT, vL, m3 _ _ _ _ hI (by decide), row_keeps hT m3 (by decide), row_keeps hL m3 (by decide)⟩, m1, row_keeps hA m3 (by decide), m3 _ _ _ _ hD (by decide), m3 _ _ _ _ hG (by decide), hB.trans m2, hTb.below hB1 m2, by rw [World.size_setCell]; exact hz⟩, m4, m5, fun _ hk => heap_setCell_other _ _ _ _ hk⟩
/-- append of so many zeros. -/
theorem zero_cells (k : Nat) : (Builtin.zeroCells (Value.int .u8 0).cells k).toList = List.replicate k (Value.int .u8 0) := by
  apply List.ext_getElem?
  intro i
  have e : (Value.int .u8 0).cells = #[Value.int .u8 0] := rfl
  rw [e]
  unfold Builtin.zeroCells
  by_cases hi : i < k
  · simp [hi, Nat.mod_one]
  · rw [List.getElem?_eq_none (by simp; omega), List.getElem?_eq_none (by simp; omega)]
theorem app_zeros {w : World} {B n : Nat} {v : Value} {xs : List Value} (h : w.ownsRow B 5 1 v n xs) (hB : B ≤ w.heap.size) (k : Nat) (h0 : 0 < k) (hb : n + k ≤ 1000000) :
    ∃ v' W, (Builtin.append_ #[23, 3] 23 #[v, .int .i64 (k : Int)]).run Tryd.prog w = .ok v' W ∧ W.ownsRow B 5 1 v' (n + k) (xs ++ List.replicate k (.int .u8 0)) ∧ w.grownBy W v.ownBlock := by
  obtain ⟨i, hi, hz0, hz1, hz2⟩ := info_of inOct
  have hxl : xs.length = n := by have := h.1; omega
  have made : ∀ (base : Option Addr) (sCap : Nat) (hold : (Builtin.firstCells i.size n (.slice base n sCap)).run Tryd.prog w.drew = .ok xs.toArray w.drew), sCap < n + k → v = .slice base n sCap → ∃ v' W, (Builtin.append_ #[23, 3] 23 #[v, .int .i64 (k : Int)]).run Tryd.prog w = .ok v' W ∧ W.ownsRow B 5 1 v' (n + k) (xs ++ List.replicate k (.int .u8 0)) ∧ w.grownBy W v.ownBlock := by
    intro base sCap hold hg hv
    have hr := Lib.run_append_grow_zeros (P := Tryd.prog) w 23 3 23 5 i (.int .u8 0) .i64 .i64 Tryd.underlying23 Tryd.underlying3 hi hz0 base n sCap xs hold k h0 (by omega) hg (by omega) (by rw [hz2]; omega) (growslice_fits hg (by rw [hz2]; omega))
    have hge := grownCap_ge w (n + k) sCap 5
    have hcm : grownCap w (n + k) sCap 5 ≤ maxLen := grownCap_le_maxLen _ _ _ _ (by unfold maxLen; omega)
    subst hv
    refine ⟨_, _, hr, ⟨by rw [List.length_append, List.length_replicate]; omega, Or.inr ⟨w.heap.size, _, _, rfl, hB, heap_alloc_new w.drew _, hge, hcm, ?_, ?_⟩⟩, ⟨rfl, rfl, rfl, by simp, fun k' hk _ => by show (w.heap.push _)[k']? = _; rw [Array.getElem?_push_lt hk, ← Array.getElem?_eq_getElem hk]⟩⟩
    · have hz : (Value.int IntKind.u8 0).cells.size = 1 := rfl
      simp only [Array.size_append, List.size_toArray, size_zeroCells, hz]
      omega
    · simp only [Array.toList_append, zero_cells, List.append_assoc]
      rw [← List.append_assoc, List.take_left' (by rw [List.length_append, List.length_replicate]; omega)]
  rcases h.2 with ⟨hv, hn⟩ | ⟨g, cap, cur, hv, hBg, hg, hnc, hcm, hcs, ht⟩
  · obtain rfl : xs = [] := List.length_eq_zero_iff.1 (by omega)
    refine made none 0 (by rw [hn]; simp [Builtin.firstCells]) (by omega) (by rw [hv, hn])
  · by_cases hroom : n + k ≤ cap
    · subst hv
      have hst := run_storeCells_at Tryd.prog g n 5 (List.replicate k (Value.int .u8 0)) 0 cur w hg (by rw [List.length_replicate]; omega) (by intro u hu; obtain ⟨_, rfl⟩ := List.mem_replicate.1 hu; rfl)
      have hw : IntKind.i64.wrap (k : Int) = k := by rw [IntKind.wrap_i64]; omega
      have hk0 : k ≠ 0 := by omega
      have h48i : ¬ (281474976710656 < (k : Int) * (i.bytes : Int)) := by rw [hz2]; omega
      have hneg : ¬ ((k : Int) < 0) := by omega
      have hzc : (Builtin.zeroCells #[Value.int .u8 0] k).toList = List.replicate k (Value.int .u8 0) := zero_cells k
      have hr : (Builtin.append_ #[23, 3] 23 #[.slice (some ⟨g, 0, none⟩) n cap, .int .i64 (k : Int)]).run Tryd.prog w = .ok (.slice (some ⟨g, 0, none⟩) (n + k) cap) (w.setRow g (cur.toList.take n ++ List.replicate k (Value.int .u8 0) ++ cur.toList.drop (n + k)).toArray) := by
        simp only [Nat.add_zero, List.length_replicate] at hst
        simp [Builtin.append_, run_underlying Tryd.underlying23, run_underlying Tryd.underlying3, sizeOf, typeInfo, zeroValue, hi, hz0, hz1, asInt, asIntOf, hw, hneg, h48i, hk0, hroom, hzc, Value.cells, Addr.add_lit, hst]
      refine ⟨_, _, hr, ⟨by rw [List.length_append, List.length_replicate]; omega, Or.inr ⟨g, cap, _, rfl, hBg, setRow_heap w g cur _ 5 _ hg, hroom, hcm, ?_, ?_⟩⟩, ⟨rfl, rfl, rfl, by simp, fun k' _ hk => setRow_other w g k' _ (fun e => hk (by simp [Value.ownBlock, e]))⟩⟩
      · simp only [List.size_toArray, List.length_append, List.length_take, List.length_drop, Array.length_toList, List.length_replicate]
        omega
      · rw [Nat.mul_one] at ht
        simp only [ht]
        rw [List.take_left' (by rw [List.length_append, List.length_replicate]; omega)]
    · refine made (some ⟨g, 0, none⟩) cap ?_ (by omega) hv
      have hf := run_firstCells_some (P := Tryd.prog) w.drew i.size n ⟨g, 0, none⟩ n cap xs (by rw [hz1]; omega) (fun j u hj => h.cells (g := g) (by rw [hv]; rfl) j u hj)
      exact hf
end
end Go.Proofs.YtechpdfcgimkkaaDoor
/-
  The end of a round of boltholekeep's 'assembled': the functions and the tables, in memory.
-/
namespace Go.Proofs.YtechpdfcgimkkaaDoor
open Go.RowKit Go.Joins Isa
theorem inFn3 : (Tryd.prog.info? 47).map (fun i => (i.zero, i.size, i.bytes)) = some (some (.agg #[.string ByteArray.empty, .int .i64 0, .int .i64 0]), 3, 32) := by kernel_rfl
theorem inInts1 : (Tryd.prog.info? 26).map (fun i => (i.zero, i.size, i.bytes)) = some (some (.slice none 0 0), 1, 24) := by kernel_rfl
theorem fncell_one3 (f : Fn) : ∀ u ∈ Fn.cells f, u.oneCell' = true := by intro u hu; simp [Fn.cells] at hu; rcases hu with rfl | rfl | rfl <;> rfl
theorem fncell_len3 (f : Fn) : (Fn.cells f).length = 3 := rfl
/-- A row begun later is one begun earlier. -/
theorem row_weak {w : World} {B B' sz n : Nat} {E : TypeId} {v : Value} {xs : List Value} (h : w.ownsRow B' E sz v n xs) (hB : B ≤ B') : w.ownsRow B E sz v n xs :=
  ⟨h.1, h.2.imp id fun ⟨g, cap, cur, e, q, r⟩ => ⟨g, cap, cur, e, Nat.le_trans hB q, r⟩⟩
/-- A round's end: text and lines are whole; so many functions, so many tables. -/
def TlR (w wo : World) (B gp : Nat) (vB vF vA vT vL : Value) (vs : List Value) (fs ats : List Int) (wr : World) (cs : List (List Sp)) (em : Em) (fns : List Fn) (tabs : List (List Int)) : Prop :=
  (∃ v1 v2, wr.heap[w.heap.size + 2]? = some (.cells #[vT, v1, v2, .slice (some ⟨w.heap.size + 1, 0, none⟩) 6 6, vL, .int .i64 0] 29) ∧ wr.ownsRow wo.heap.size 47 3 v1 fns.length (flat Fn.cells fns) ∧
      ∃ us : List Value, wr.ownsRow wo.heap.size 26 1 v2 us.length (flat vcell us) ∧ us.length = tabs.length ∧ ∀ (j : Nat) (u : Value) (t : List Int), us[j]? = some u → tabs[j]? = some t → wr.ownsRow wo.heap.size 3 1 u t.length (flat icell t)) ∧
    wr.ownsRow wo.heap.size 5 1 vT em.text.length (flat ucell em.text) ∧ wr.ownsRow wo.heap.size 43 2 vL em.lines.length (flat Ln.cells em.lines) ∧
    PlanAt wr B gp vB vF vs cs fs ∧ wr.ownsRow wo.heap.size 3 1 vA ats.length (flat icell ats) ∧
    wr.heap[w.heap.size + 1]? = some (.cells #[.int .i64 5, .int .i64 (-3), .int .i64 0, .int .i64 7, .int .i64 1, .int .i64 2] 3) ∧
    wr.heap[w.heap.size]? = some (.cells #[.slice none 0 0, .slice none 0 0, .slice none 0 0, .slice none 0 0, .slice none 0 0, .int .i64 0] 29) ∧
    Below B w wr ∧ Tabs wr ∧ wo.heap.size ≤ wr.heap.size
/-- A cell of a row of numbers, where the numbers' blocks stay. -/
theorem own_keep {w W : World} {B n g cap o : Nat} {xs : List Value} {u : Value} (h : w.ownsRow B 3 1 (.slice (some ⟨g, 0, none⟩) n cap) n xs) (hk : ∀ c', w.heap[g]? = some (.cells c' 3) → W.heap[g]? = some (.cells c' 3)) (hu : w.cell? ⟨g, o, none⟩ = some u) : W.cell? ⟨g, o, none⟩ = some u := by
  obtain ⟨_, cur, hg⟩ := row_block h rfl
  have h2 := hk cur hg
  simp only [World.cell?, hg] at hu
  simp only [World.cell?, h2]
  exact hu
section
variable {w wo W0 W1 : World} {B gp : Nat} {vB vF vA vT vL v1 v2 : Value} {vs : List Value} {fs ats : List Int} {cs : List (List Sp)} {em : Em} {fns : List Fn} {tabs : List (List Int)}
theorem TlR.up (h : TlR w wo B gp vB vF vA vT vL vs fs ats W0 cs em fns tabs) (hb : Below W0.heap.size W0 W1) : TlR w wo B gp vB vF vA vT vL vs fs ats W1 cs em fns tabs := by
  obtain ⟨⟨v1, v2, hI, hF, us, hU, hul, hue⟩, hT, hL, hP, hA, hD, hG, hB, hTb, hz⟩ := h
  have hBs : B ≤ W0.heap.size := hP.hB
  exact ⟨⟨v1, v2, (hb.block _ (Array.getElem?_eq_some_iff.1 hI).1).trans hI, row_up hF hb, us, row_up hU hb, hul, fun j u t a b => row_up (hue j u t a b) hb⟩, row_up hT hb, row_up hL hb, hP.up hb, row_up hA hb, (hb.block _ (Array.getElem?_eq_some_iff.1 hD).1).trans hD, (hb.block _ (Array.getElem?_eq_some_iff.1 hG).1).trans hG, hB.trans (hb.mono hBs), hTb.below hTb.sz hb, Nat.le_trans hz hb.size⟩
theorem EmR.tail (h : EmR w wo B gp vB vF vA v1 v2 vs fs ats W0 cs em) (hgw : B ≤ w.heap.size) :
    ∃ vT vL, W0.heap[w.heap.size + 2]? = some (.cells #[vT, v1, v2, .slice (some ⟨w.heap.size + 1, 0, none⟩) 6 6, vL, .int .i64 0] 29) ∧ (∃ a l c, vT = .slice a l c) ∧ (∃ a l c, vL = .slice a l c) ∧
      TlR w wo B gp vB vF vA vT vL vs fs ats ((W0.setCell ⟨w.heap.size + 2, 1, none⟩ (.slice none 0 0)).setCell ⟨w.heap.size + 2, 2, none⟩ (.slice none 0 0)) cs em [] [] := by
  obtain ⟨⟨vT, vL, hI, hT, hL⟩, hP, hA, hD, hG, hB, hTb, hz⟩ := h
  obtain ⟨K1, B1, H1, O1⟩ := img_set hI 1 (.slice none 0 0)
  obtain ⟨K2, B2, H2, O2⟩ := img_set H1 2 (.slice none 0 0)
  have hbb := B1.trans B2
  have hsz : 1 < W0.heap.size := hTb.sz
  have hBw := hP.hB
  refine ⟨vT, vL, hI, row_form hT, row_form hL, ⟨_, _, H2, World.ownsRow_nil _ _ _ _, [], World.ownsRow_nil _ _ _ _, rfl, fun j u t a => by simp at a⟩, row_keeps (row_keeps hT K1 (by decide)) K2 (by decide), row_keeps (row_keeps hL K1 (by decide)) K2 (by decide), (hP.keeps K1 (by decide) (by decide) (by decide) (by decide)).keeps K2 (by decide) (by decide) (by decide) (by decide),
    row_keeps (row_keeps hA K1 (by decide)) K2 (by decide), (O2 _ (by omega)).trans ((O1 _ (by omega)).trans hD), (O2 _ (by omega)).trans ((O1 _ (by omega)).trans hG), hB.trans (hbb.mono (by omega)), ?_, Nat.le_trans hz hbb.size⟩
  have h1 := (Array.getElem?_eq_some_iff.1 hI).1
  have hB0 := hB.size
  exact hTb.below (B := w.heap.size + 2) (by
    have := hP.ge
    rcases Nat.lt_or_ge 1 (w.heap.size + 2) with q | q <;> omega) hbb
/-- One function more. -/
theorem TlR.func (h : TlR w wo B gp vB vF vA vT vL vs fs ats W0 cs em fns tabs) (hs : fns.length ≤ 100000) (hgw : B ≤ w.heap.size) (hwo : w.heap.size + 2 < wo.heap.size) (hb : Below W0.heap.size W0 W1) (g : Nat) (f : Fn)
    (hc : ∀ j u, (Fn.cells f)[j]? = some u → W1.cell? ⟨g, j, none⟩ = some u) :
    ∃ aF cF c a' W2, W0.cell? ⟨w.heap.size + 2, 1, none⟩ = some (.slice aF fns.length cF) ∧ (Builtin.append_ #[24, 24] 24 #[.slice aF fns.length cF, .slice (some ⟨g, 0, none⟩) 1 1]).run Tryd.prog W1 = .ok (.slice a' (fns.length + 1) c) W2 ∧
      W2.frozen? ⟨w.heap.size + 2, 1, none⟩ = false ∧ (∃ u, W2.cell? ⟨w.heap.size + 2, 1, none⟩ = some u) ∧ w.heap.size + 2 < W2.heap.size ∧ (∀ (k : Nat) (c' : Array Value), W1.heap[k]? = some (.cells c' 3) → W2.heap[k]? = some (.cells c' 3)) ∧
      TlR w wo B gp vB vF vA vT vL vs fs ats (W2.setCell ⟨w.heap.size + 2, 1, none⟩ (.slice a' (fns.length + 1) c)) cs em (fns ++ [f]) tabs := by
  have hu := h.up hb
  obtain ⟨⟨x1, x2, hI0, -, -⟩, -⟩ := h
  obtain ⟨⟨v1, v2, hI, hF, us, hU, hul, hue⟩, hT, hL, hP, hA, hD, hG, hB, hTb, hz⟩ := hu
  have hII := ((hb.block _ (Array.getElem?_eq_some_iff.1 hI0).1).trans hI0).symm.trans hI
  obtain ⟨rfl, rfl⟩ : x1 = v1 ∧ x2 = v2 := by simpa using hII
  obtain ⟨aF, cF, rfl⟩ := orow_form' hF
  obtain ⟨v', W2, hr, ho, gr⟩ := orow_apps 47 24 3 32 _ Tryd.underlying24 inFn3 rfl (by decide) hF hz g 0 1 1 (Fn.cells f) rfl (fun j u hj => by rw [Nat.zero_add]; exact hc j u hj) (fncell_one3 _) (by omega) (by unfold maxLen; omega)
  obtain ⟨a', c, rfl⟩ := orow_form' ho
  obtain ⟨i2, k1, k2, i3, ho3⟩ := img_grow (o := 1) hI hF gr ho (by decide)
  have hsB : Below (w.heap.size + 2) W1 (W2.setCell ⟨w.heap.size + 2, 1, none⟩ (.slice a' (fns.length + 1) c)) := (obelow_grown (C := w.heap.size + 2) hF gr (by omega) (by omega)).setCell (p := ⟨w.heap.size + 2, 1, none⟩) (Nat.le_refl _) _
  have e1 : flat Fn.cells fns ++ Fn.cells f = flat Fn.cells (fns ++ [f]) := by simp [flat]
  have e2 : fns.length + 1 = (fns ++ [f]).length := by simp
  rw [e1] at ho3
  have hzW : W1.heap.size ≤ W2.heap.size := gr.size
  have hBw := hP.hB
  refine ⟨aF, cF, c, a', W2, by simp [World.cell?, hI0], hr, by simp [World.frozen?, i2], ⟨_, by simp [World.cell?, i2]; rfl⟩, (Array.getElem?_eq_some_iff.1 i2).1, (fun k c' q => k1 _ _ _ _ q (by decide)), ⟨_, _, i3, ?_, us, row_keeps (row_keeps hU k1 (by decide)) k2 (by decide), hul, fun j u t a b => row_keeps (row_keeps (hue j u t a b) k1 (by decide)) k2 (by decide)⟩,
    row_keeps (row_keeps hT k1 (by decide)) k2 (by decide), row_keeps (row_keeps hL k1 (by decide)) k2 (by decide), (hP.keeps k1 (by decide) (by decide) (by decide) (by decide)).keeps k2 (by decide) (by decide) (by decide) (by decide), row_keeps (row_keeps hA k1 (by decide)) k2 (by decide), k2 _ _ _ _ (k1 _ _ _ _ hD (by decide)) (by decide), (hsB.block _ (by omega)).trans hG, hB.trans (hsB.mono (by omega)), hTb.below (by have := hTb.sz; have := hP.ge; omega) hsB, by rw [World.size_setCell]; omega⟩
  conv => arg 6; rw [← e2]
  exact ho3
/-- One table more; its addresses lie in a row that is begun behind W0's own blocks, or in none. -/
theorem TlR.table (h : TlR w wo B gp vB vF vA vT vL vs fs ats W0 cs em fns tabs) (hs : tabs.length ≤ 100000) (hgw : B ≤ w.heap.size) (hwo : w.heap.size + 2 < wo.heap.size) (hb : Below W0.heap.size W0 W1) (g : Nat) (v : Value) (t : List Int)
    (hc : W1.cell? ⟨g, 0, none⟩ = some v) (hv : W1.ownsRow wo.heap.size 3 1 v t.length (flat icell t)) :
    ∃ aU cU c a' W2, W0.cell? ⟨w.heap.size + 2, 2, none⟩ = some (.slice aU tabs.length cU) ∧ (Builtin.append_ #[25, 25] 25 #[.slice aU tabs.length cU, .slice (some ⟨g, 0, none⟩) 1 1]).run Tryd.prog W1 = .ok (.slice a' (tabs.length + 1) c) W2 ∧
      W2.frozen? ⟨w.heap.size + 2, 2, none⟩ = false ∧ (∃ u, W2.cell? ⟨w.heap.size + 2, 2, none⟩ = some u) ∧ w.heap.size + 2 < W2.heap.size ∧
      TlR w wo B gp vB vF vA vT vL vs fs ats (W2.setCell ⟨w.heap.size + 2, 2, none⟩ (.slice a' (tabs.length + 1) c)) cs em fns (tabs ++ [t]) := by
  have hu := h.up hb
  obtain ⟨⟨x1, x2, hI0, -, -⟩, -⟩ := h
  obtain ⟨⟨v1, v2, hI, hF, us, hU, hul, hue⟩, hT, hL, hP, hA, hD, hG, hB, hTb, hz⟩ := hu
  have hII := ((hb.block _ (Array.getElem?_eq_some_iff.1 hI0).1).trans hI0).symm.trans hI
  obtain ⟨rfl, rfl⟩ : x1 = v1 ∧ x2 = v2 := by simpa using hII
  obtain ⟨aU, cU, rfl⟩ := orow_form' hU
  have h1v : v.oneCell' = true := by
    rcases row_form hv with ⟨_, _, _, rfl⟩
    rfl
  obtain ⟨v', W2, hr, ho, gr⟩ := orow_apps 26 25 1 24 _ Tryd.underlying25 inInts1 rfl (by decide) hU hz g 0 1 1 [v] rfl (fun j u hj => by
    rcases j with _ | j
    · simp at hj; subst hj; exact hc
    · simp at hj) (by intro u hu; simp at hu; subst hu; exact h1v) (by omega) (by unfold maxLen; omega)
  obtain ⟨a', c, rfl⟩ := orow_form' ho
  obtain ⟨i2, k1, k2, i3, ho3⟩ := img_grow (o := 2) hI hU gr ho (by decide)
  have hsB : Below (w.heap.size + 2) W1 (W2.setCell ⟨w.heap.size + 2, 2, none⟩ (.slice a' (us.length + 1) c)) := (obelow_grown (C := w.heap.size + 2) hU gr (by omega) (by omega)).setCell (p := ⟨w.heap.size + 2, 2, none⟩) (Nat.le_refl _) _
  have e1 : flat vcell us ++ [v] = flat vcell (us ++ [v]) := by simp [flat, vcell]
  have e2 : us.length + 1 = (us ++ [v]).length := by simp
  rw [e1] at ho3
  have hzW : W1.heap.size ≤ W2.heap.size := gr.size
  have hBw := hP.hB
  rw [← hul]
  refine ⟨aU, cU, c, a', W2, by simp [World.cell?, hI0], hr, by simp [World.frozen?, i2], ⟨_, by simp [World.cell?, i2]; rfl⟩, (Array.getElem?_eq_some_iff.1 i2).1, ⟨_, _, i3, row_keeps (row_keeps hF k1 (by decide)) k2 (by decide), us ++ [v], ?_, by rw [List.length_append, List.length_append, hul]; rfl, fun j u t' a b => ?_⟩,
    row_keeps (row_keeps hT k1 (by decide)) k2 (by decide), row_keeps (row_keeps hL k1 (by decide)) k2 (by decide), (hP.keeps k1 (by decide) (by decide) (by decide) (by decide)).keeps k2 (by decide) (by decide) (by decide) (by decide), row_keeps (row_keeps hA k1 (by decide)) k2 (by decide), k2 _ _ _ _ (k1 _ _ _ _ hD (by decide)) (by decide), (hsB.block _ (by omega)).trans hG, hB.trans (hsB.mono (by omega)), hTb.below (by have := hTb.sz; have := hP.ge; omega) hsB, by rw [World.size_setCell]; omega⟩
  · conv => arg 6; rw [← e2]
    exact ho3
  · refine row_keeps (row_keeps ?_ k1 (by decide)) k2 (by decide)
    rcases Nat.lt_or_ge j us.length with q | q
    · rw [List.getElem?_append_left q] at a
      rw [List.getElem?_append_left (by omega)] at b
      exact hue j u t' a b
    · have hj : j = us.length := by have := (List.getElem?_eq_some_iff.1 a).1; simp at this; omega
      subst hj
      rw [List.getElem?_append_right (Nat.le_refl _), Nat.sub_self] at a
      rw [hul, List.getElem?_append_right (Nat.le_refl _), Nat.sub_self] at b
      simp at a b
      subst a b
      exact hv
end
theorem data_row {W : World} {B k : Nat} (h : W.heap[k]? = some (.cells #[.int .i64 5, .int .i64 (-3), .int .i64 0, .int .i64 7, .int .i64 1, .int .i64 2] 3)) (hB : B ≤ k) : W.ownsRow B 3 1 (.slice (some ⟨k, 0, none⟩) 6 6) data6.length (flat icell data6) :=
  ⟨rfl, Or.inr ⟨k, 6, _, rfl, hB, h, Nat.le_refl _, by unfold maxLen; decide, rfl, rfl⟩⟩
/-- The blocks of an image's rows stay. -/
theorem OwnImg.same {W W' : World} {B : Nat} {vT vF vB vD vL : Value} {m : Img} (h : OwnImg W B vT vF vB vD vL m) (hk : ∀ (k : Nat) (cs : Array Value) (T : TypeId), B ≤ k → W.heap[k]? = some (.cells cs T (0, 0)) → T ≠ 29 → W'.heap[k]? = W.heap[k]?) : OwnImg W' B vT vF vB vD vL m := by
  have go : ∀ {E : TypeId} {sz n : Nat} {v : Value} {xs : List Value}, W.ownsRow B E sz v n xs → E ≠ 29 → W'.ownsRow B E sz v n xs := fun {E sz n v xs} hr hE => row_same hr fun k hv => by
    obtain ⟨hB, cur, hc⟩ := row_block hr hv
    exact hk k cur E hB hc hE
  obtain ⟨us, h1, h2, h3⟩ := h.tables
  exact ⟨go h.text (by decide), go h.funcs (by decide), ⟨us, go h1 (by decide), h2, fun j u t a b => go (h3 j u t a b) (by decide)⟩, go h.data (by decide), go h.lines (by decide)⟩
theorem img_rows {W Z : World} {B g : Nat} {vT vF vB vD vL : Value} {m : Img} {c : Array Value} (_h : OwnImg W B vT vF vB vD vL m) (hg : W.heap[g]? = some (.cells c 29)) (hz : ∀ k, k ≠ g → Z.heap[k]? = W.heap[k]?) : ∀ (k : Nat) (cs : Array Value) (T : TypeId), B ≤ k → W.heap[k]? = some (.cells cs T (0, 0)) → T ≠ 29 → Z.heap[k]? = W.heap[k]? := fun k cs T _ hc hT => by
  refine hz k ?_
  rintro rfl
  rw [hg] at hc
  simp at hc
  exact hT hc.2.symm
/-- append of one number to a row that was begun behind B; blocks of other types stay. -/
theorem app_intK {wr : World} {B : Nat} {v : Value} {l : List Int} (own : wr.ownsRow B 3 1 v l.length (flat icell l)) (hB : B ≤ wr.heap.size) (hl : l.length ≤ 100000) (e : Int) (w1 : World) (h1 : Below wr.heap.size wr w1) (g : Nat)
    (hg : w1.cell? ⟨g, 0, none⟩ = some (.int .i64 e)) :
    ∃ a c W, (Builtin.append_ #[26, 26] 26 #[v, .slice (some ⟨g, 0, none⟩) 1 1]).run Tryd.prog w1 = .ok (.slice a (l.length + 1) c) W ∧
      W.ownsRow B 3 1 (.slice a (l.length + 1) c) (l ++ [e]).length (flat icell (l ++ [e])) ∧ Below B wr W ∧ Keeps 3 w1 W := by
  obtain ⟨v', W, hr, ho, gr⟩ := orow_apps 3 26 1 8 _ Tryd.underlying26 inInt rfl (by decide) (row_up own h1) (Nat.le_trans hB h1.size) g 0 1 1 (icell e) rfl (fun j u hj => by
    rcases j with _ | j
    · simp [icell] at hj; subst hj; exact hg
    · simp [icell] at hj) (by intro u hu; simp [icell] at hu; subst hu; rfl) (by omega) (by unfold maxLen; omega)
  have e1 : flat icell l ++ icell e = flat icell (l ++ [e]) := by simp [flat]
  have e2 : l.length + 1 = (l ++ [e]).length := by simp
  obtain ⟨a, c, rfl⟩ := orow_form' ho
  rw [e1] at ho
  conv at ho => arg 6; rw [e2]
  exact ⟨a, c, W, hr, ho, (h1.mono hB).trans (obelow_grown (row_up own h1) gr (Nat.le_refl _) (Nat.le_trans hB h1.size)), Keeps.grown (row_up own h1) gr⟩
theorem picked_enter (v u : Value) (w : World) : (callFunc 19 #[v, u]).run Tryd.prog w = .ok (.enter 19 #[v, u]) w := by
  simp [callFunc, Tryd.func19, go_sem]
  rw [if_neg (by decide), if_neg (by intro h; cases h)]
theorem step_call_same2 {P : Program} {ops : Array Oper} {o : Oper} {a : Act} {w : World} {K : Act → World → Prop} {Q : Exit → Act → World → Prop} {E : Prop} (hgd : o.guard = none) (f : FuncId) (x y : Operand) (t s : TypeId)
    (ho : o.op = .call { callee := .value (.func f), args := #[x, y], argTypes := #[t, s] }) (v u r : Value) (hx : a.eval x = v) (hy : a.eval y = u) (hq : (callFunc f #[v, u]).run P w = .ok (.enter f #[v, u]) w) (hC : Calls P f #[v, u] w fun e w' => e = .returned r ∧ w' = w) (h : K (a.put o.dst r) w) :
    if Region.wanted o (yielded ops a.tmps) = true then Oper.wp P o a w K Q else E := by
  have hw : Region.wanted o (yielded ops a.tmps) = true := by simp [Region.wanted, hgd]
  rw [if_pos hw]
  have hr : (execOp a.eval o).run P w = .ok (.enter f #[v, u]) w := by
    have hf : a.eval (Operand.func f) = .func (.func f) #[] #[] := rfl
    simp [execOp, ho, resolve, invoke, hx, hy, hf, Deferred.ofValue, hq]
  unfold Oper.wp
  rw [hr, Oper.upon_enter]
  refine hC.mono ?_
  rintro e w' ⟨rfl, rfl⟩
  exact h
theorem raw_bd {L : List Rw} (h : ∀ r ∈ L, r.ok) (k : Nat) : -9223372036854775808 ≤ (rawAt L k).A ∧ (rawAt L k).A ≤ 9223372036854775807 := by
  unfold rawAt
  split
  · exact ⟨by decide, by decide⟩
  · rename_i h0
    have hk : k % L.length < L.length := Nat.mod_lt _ (List.length_pos_iff.2 h0)
    rw [List.getD_eq_getElem?_getD, List.getElem?_eq_getElem hk]
    obtain ⟨_, _, h1, h2, _⟩ := h _ (List.getElem_mem hk)
    exact ⟨h1, h2⟩
theorem fn_name (i : Nat) (h : i < 3) : fnName i = (⟨#[102]⟩ : ByteArray) ++ ⟨(Lib.decDigits i).toArray⟩ := by
  rcases (show i = 0 ∨ i = 1 ∨ i = 2 by omega) with rfl | rfl | rfl <;> kernel_rfl
theorem add_name (i : Nat) (h : i < 3) : ∀ W, (Op.stringOp .add (⟨#[102]⟩ : ByteArray) ⟨(Lib.decDigits i).toArray⟩).run Tryd.prog W = .ok (.string ((⟨#[102]⟩ : ByteArray) ++ ⟨(Lib.decDigits i).toArray⟩)) W := fun W =>
  run_string_add_sum W _ _ (by
    rw [Lib.decDigits, dif_pos (by omega)]
    show (1 : Nat) + 1 ≤ _
    decide)
theorem itoa_enter (v : Value) (w : World) : (callFunc 73 #[v]).run Tryd.prog w = .ok (.enter 73 #[v]) w := by
  simp [callFunc, Tryd.func73, go_sem]
  rw [if_neg (by decide), if_neg (by intro h; cases h)]
/-- A call of a Go function that leaves the world as it is, as one step of a region that draws. -/
theorem step_call_same {P : Program} {ops : Array Oper} {o : Oper} {a : Act} {w : World} {K : Act → World → Prop} {Q : Exit → Act → World → Prop} {E : Prop} (hgd : o.guard = none) (f : FuncId) (x : Operand) (t : TypeId)
    (ho : o.op = .call { callee := .value (.func f), args := #[x], argTypes := #[t] }) (v r : Value) (hx : a.eval x = v) (hq : (callFunc f #[v]).run P w = .ok (.enter f #[v]) w) (hC : Calls P f #[v] w fun e w' => e = .returned r ∧ w' = w) (h : K (a.put o.dst r) w) :
    if Region.wanted o (yielded ops a.tmps) = true then Oper.wp P o a w K Q else E := by
  have hw : Region.wanted o (yielded ops a.tmps) = true := by simp [Region.wanted, hgd]
  rw [if_pos hw]
  have hr : (execOp a.eval o).run P w = .ok (.enter f #[v]) w := by
    have hf : a.eval (Operand.func f) = .func (.func f) #[] #[] := rfl
    simp [execOp, ho, resolve, invoke, hx, hf, Deferred.ofValue, hq]
  unfold Oper.wp
  rw [hr, Oper.upon_enter]
  refine hC.mono ?_
  rintro e w' ⟨rfl, rfl⟩
  exact h
end Go.Proofs.YtechpdfcgimkkaaDoor
/-
  A table's address, in memory: what its region reads, as it stands ahead of the region, behind the box of the number, behind the append.
-/
namespace Go.Proofs.YtechpdfcgimkkaaDoor
open Go.RowKit Go.Joins Isa
theorem drew_cell (w : World) (p : Addr) : w.drew.cell? p = w.cell? p := rfl
theorem drew_heap (w : World) (k : Nat) : w.drew.heap[k]? = w.heap[k]? := rfl
theorem past_cell (wc : World) (ob : Obj) (p : Addr) (v : Value) (hl : p.block < wc.heap.size) (h : wc.cell? p = some v) : ((wc.alloc ob).drew).cell? p = some v := by
  rw [drew_cell, World.cell?_alloc_lt wc ob p hl]; exact h
theorem tab_reg {wc : World} {B gp gF gA gx o k9 : Nat} {vP vf vV vK vA vB vC : Value} {v : Value} {l : List Int} (own : wc.ownsRow B 3 1 v l.length (flat icell l)) (hB : B ≤ wc.heap.size) (hl : l.length ≤ 100000) (V9 : Int)
    (zP : wc.cell? ⟨gp, 1, none⟩ = some vP) (zF : wc.cell? ⟨gF, o, none⟩ = some vf) (zV : wc.cell? ⟨gA, k9, none⟩ = some vV) (zX : wc.heap[gx]? = some (.cells #[vK, vA, vB, vC] 116))
    (hgp : gp < B) (hgF : gF < B) (hgA : gA < B) :
    ∃ a c W, (Builtin.append_ #[26, 26] 26 #[v, .slice (some ⟨wc.heap.size, 0, none⟩) 1 1]).run Tryd.prog ((wc.alloc (.cells #[.int .i64 V9] 3)).drew) = .ok (.slice a (l.length + 1) c) W ∧
      W.ownsRow B 3 1 (.slice a (l.length + 1) c) (l ++ [V9]).length (flat icell (l ++ [V9])) ∧ Below B wc W ∧
      (wc.drew.cell? ⟨gp, 1, none⟩ = some vP ∧ wc.drew.cell? ⟨gF, o, none⟩ = some vf ∧ wc.drew.cell? ⟨gx, 1, none⟩ = some vA ∧ wc.drew.cell? ⟨gA, k9, none⟩ = some vV) ∧
      (((wc.alloc (.cells #[.int .i64 V9] 3)).drew).cell? ⟨gp, 1, none⟩ = some vP ∧ ((wc.alloc (.cells #[.int .i64 V9] 3)).drew).cell? ⟨gF, o, none⟩ = some vf ∧ ((wc.alloc (.cells #[.int .i64 V9] 3)).drew).cell? ⟨gx, 1, none⟩ = some vA ∧ ((wc.alloc (.cells #[.int .i64 V9] 3)).drew).cell? ⟨gA, k9, none⟩ = some vV) ∧
      (W.cell? ⟨gp, 1, none⟩ = some vP ∧ W.cell? ⟨gF, o, none⟩ = some vf ∧ W.cell? ⟨gx, 1, none⟩ = some vA ∧ W.cell? ⟨gA, k9, none⟩ = some vV) := by
  have hgx := (Array.getElem?_eq_some_iff.1 zX).1
  have zA : wc.cell? ⟨gx, 1, none⟩ = some vA := by simp [World.cell?, zX]
  obtain ⟨a, c, W, r1, r2, r3, r4⟩ := app_intK own hB hl V9 ((wc.alloc (.cells #[.int .i64 V9] 3)).drew) (((Below.refl _ _).alloc (Nat.le_refl _) _).drew) wc.heap.size (by rw [drew_cell]; exact (World.cell?_alloc_new _ _ _ 0).trans rfl)
  have hx3 : W.heap[gx]? = some (.cells #[vK, vA, vB, vC] 116) := r4 _ _ _ _ (by rw [drew_heap]; exact (heap_alloc_old wc _ hgx).trans zX) (by decide)
  refine ⟨a, c, W, r1, r2, r3, ⟨?_, ?_, ?_, ?_⟩, ⟨?_, ?_, ?_, ?_⟩, ⟨?_, ?_, ?_, ?_⟩⟩
  · rw [drew_cell]; exact zP
  · rw [drew_cell]; exact zF
  · rw [drew_cell]; exact zA
  · rw [drew_cell]; exact zV
  · exact past_cell _ _ _ _ (by show gp < _; omega) zP
  · exact past_cell _ _ _ _ (by show gF < _; omega) zF
  · exact past_cell _ _ _ _ hgx zA
  · exact past_cell _ _ _ _ (by show gA < _; omega) zV
  · exact (r3.cell (p := ⟨gp, 1, none⟩) hgp).trans zP
  · exact (r3.cell (p := ⟨gF, o, none⟩) hgF).trans zF
  · simp [World.cell?, hx3]
  · exact (r3.cell (p := ⟨gA, k9, none⟩) hgA).trans zV
end Go.Proofs.YtechpdfcgimkkaaDoor
