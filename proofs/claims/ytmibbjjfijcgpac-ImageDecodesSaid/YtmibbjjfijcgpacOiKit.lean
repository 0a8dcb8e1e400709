/-
  What boltholeref.ImageOf holds while it reads: its image's box, its tape, and a row that grows.
-/
import Derived.Test.YtmibbjjfijcgpacWalkTn
import Derived.Deep.MidRow
namespace Go.Proofs.Ytmibbjjfijcgpac
open Go.RowKit Go.Joins
/-- A list whose memory is neither box. -/
structure LA2 {α : Type} (w : World) (g1 g2 : Nat) (cells : α → List Value) (sz : Nat) (v : Value) (xs : List α) : Prop where
  list : ListAt w cells sz v xs
  far : ∀ bb oo l c, v = .slice (some ⟨bb, oo, none⟩) l c → (bb ≠ g1 ∧ g2 < bb) ∨ l = 0
theorem LA2.fr {α : Type} {w w' : World} {g1 g2 : Nat} {cells : α → List Value} {sz : Nat} {v : Value} {xs : List α} (h : LA2 w g1 g2 cells sz v xs) (hf : Fr2 g1 g2 w w') : LA2 w' g1 g2 cells sz v xs :=
  ⟨h.1.same hf.size (fun bb oo n c he hb => (h.2 bb oo n c he).elim (fun q => Or.inl (hf.block bb hb q.1 (by omega))) Or.inr), h.2⟩
theorem LA2.on {α : Type} {w w' : World} {g1 g2 : Nat} {cells : α → List Value} {sz : Nat} {v : Value} {xs : List α} (h : LA2 w g1 g2 cells sz v xs) (hs : w.heap.size ≤ w'.heap.size) (hk : ∀ k, g2 < k → k < w.heap.size → w'.heap[k]? = w.heap[k]?) : ListAt w' cells sz v xs :=
  h.1.same hs (fun bb oo n c he hb => (h.2 bb oo n c he).elim (fun q => Or.inl (hk bb q.2 hb)) Or.inr)
/-- The image's box, and the tape. -/
structure Oi (w0 : World) (B gb gt : Nat) (bs : List Int) (w : World) (r : Rd) (cs : Array Value) : Prop where
  fr : Fr2 gb gt w0 w
  bx : w.heap[gb]? = some (.cells cs 28)
  tp : TpAt w B gt bs r
  lt : gb < w0.heap.size
  lt2 : gt < w0.heap.size
  ne : gb ≠ gt
  ge : B ≤ gb
section
variable {w0 : World} {B gb gt : Nat} {bs : List Int} {w w' : World} {r r' : Rd} {cs : Array Value}
theorem FrG.two' {g g2 : Nat} {w w' : World} (h : FrG g w w') : Fr2 g2 g w w' := ⟨h.os, h.tape, h.output, h.size, fun k hk _ h1 => h.block k hk h1⟩
theorem Oi.step (h : Oi w0 B gb gt bs w r cs) (hf : FrG gt w w') (ht : TpAt w' B gt bs r') : Oi w0 B gb gt bs w' r' cs :=
  ⟨h.fr.trans hf.two', (hf.block gb (Nat.lt_of_lt_of_le h.lt h.fr.size) h.ne).trans h.bx, ht, h.lt, h.lt2, h.ne, h.ge⟩
theorem Oi.here (h : Oi w0 B gb gt bs w r cs) : Oi w B gb gt bs w r cs :=
  ⟨Fr2.refl _ _ _, h.bx, h.tp, Nat.lt_of_lt_of_le h.lt h.fr.size, Nat.lt_of_lt_of_le h.lt2 h.fr.size, h.ne, h.ge⟩
theorem Oi.join {r1 : Rd} {cs1 : Array Value} {w1 : World} (h : Oi w0 B gb gt bs w r cs) (h1 : Oi w B gb gt bs w1 r1 cs1) : Oi w0 B gb gt bs w1 r1 cs1 :=
  ⟨h.fr.trans h1.fr, h1.bx, h1.tp, h.lt, h.lt2, h.ne, h.ge⟩
theorem Oi.cell (h : Oi w0 B gb gt bs w r cs) (o : Nat) : w.cell? ⟨gb, o, none⟩ = cs[o]? := by simp [World.cell?, h.bx]
theorem Oi.free (h : Oi w0 B gb gt bs w r cs) (o : Nat) : w.frozen? ⟨gb, o, none⟩ = false := by simp [World.frozen?, h.bx]
theorem Oi.set (h : Oi w0 B gb gt bs w r cs) (o : Nat) (v : Value) : Oi w0 B gb gt bs (w.setCell ⟨gb, o, none⟩ v) r (cs.setIfInBounds o v) := by
  have hs : ∀ k, k ≠ gb → (w.setCell ⟨gb, o, none⟩ v).heap[k]? = w.heap[k]? := fun k hk => heap_setCell_other _ _ _ _ (by simpa using hk)
  refine ⟨⟨h.fr.os, h.fr.tape, h.fr.output, by rw [World.size_setCell]; exact h.fr.size, fun k hk h1 h2 => (hs k h1).trans (h.fr.block k hk h1 h2)⟩, heap_setCell_same w gb o _ _ v h.bx, ?_, h.lt, h.lt2, h.ne, h.ge⟩
  exact h.tp.same (by rw [World.size_setCell]; exact Nat.le_refl _) fun k hk _ => hs k (by rcases hk with q | q; have := h.ge; omega; rw [q]; exact fun e => h.ne e.symm)
theorem Oi.up (h : Oi w0 B gb gt bs w r cs) (hb : Below w.heap.size w w') : Oi w0 B gb gt bs w' r cs :=
  h.step ((FrG.refl gt w).up hb) (h.tp.up hb)
/-- A row of the call's own stays where the tape is read. -/
theorem row_frg {E : TypeId} {sz n : Nat} {v : Value} {xs : List Value} {K : Nat} (h : w.ownsRow K E sz v n xs) (hf : FrG gt w w') (hK : gt < K) : w'.ownsRow K E sz v n xs :=
  row_same h fun k hk => by obtain ⟨h1, _, hg⟩ := row_block h hk; exact hf.block k (Array.getElem?_eq_some_iff.1 hg).1 (by omega)
theorem row_la2 {α : Type} {E : TypeId} {sz : Nat} {v : Value} {cells : α → List Value} {xs : List α} {K : Nat} (hl : ∀ a, (cells a).length = sz) (h : w.ownsRow K E sz v xs.length (flat cells xs)) (h1 : gb < K) (h2 : gt < K) : LA2 w gb gt cells sz v xs := by
  refine ⟨row_list hl h, fun bb oo l c he => Or.inl ?_⟩
  subst he
  have := (row_block h (k := bb) rfl).1
  omega
theorem Oi.grow {E : TypeId} {sz n : Nat} {v : Value} {xs : List Value} {wx W : World} (h : Oi w0 B gb gt bs w r cs) (hr : w.ownsRow w0.heap.size E sz v n xs) (hb : Below w.heap.size w wx) (gr : wx.grownBy W v.ownBlock) : Oi w0 B gb gt bs W r cs := by
  have h1 := h.up hb
  have z0 := h1.fr.size
  have hk : ∀ k, k < w0.heap.size → W.heap[k]? = wx.heap[k]? := fun k hk => gr.block k (by omega) (by
    intro he
    have := (row_block hr he.symm).1
    omega)
  exact ⟨⟨gr.os.trans h1.fr.os, gr.tape.trans h1.fr.tape, gr.output.trans h1.fr.output, by have := gr.size; omega, fun k q1 q2 q3 => (hk k q1).trans (h1.fr.block k q1 q2 q3)⟩, (hk gb h.lt).trans h1.bx, h1.tp.same gr.size (fun k q _ => hk k (by rcases q with q | q; have := h.ge; have := h.lt; omega; rw [q]; exact h.lt2)), h.lt, h.lt2, h.ne, h.ge⟩
theorem row_low' {w : World} {B B2 sz n : Nat} {E : TypeId} {v : Value} {xs : List Value} (h : w.ownsRow B E sz v n xs) (hB : B2 ≤ B) : w.ownsRow B2 E sz v n xs := ⟨h.1, by
  rcases h.2 with q | ⟨g, cap, cur, h1, h2, h3⟩
  · exact Or.inl q
  · exact Or.inr ⟨g, cap, cur, h1, by omega, h3⟩⟩
theorem row_fr2 {E : TypeId} {sz n : Nat} {v : Value} {xs : List Value} {K : Nat} (h : w.ownsRow K E sz v n xs) (hf : Fr2 gb gt w w') (h1 : gb < K) (h2 : gt < K) : w'.ownsRow K E sz v n xs :=
  row_same h fun k hk => by obtain ⟨q1, _, hg⟩ := row_block h hk; exact hf.block k (Array.getElem?_eq_some_iff.1 hg).1 (by omega) (by omega)
/-- append(m.x, y), stored into m.x: the row of the call's own has grown. -/
theorem Oi.app {E : TypeId} {sz n : Nat} {v v' : Value} {xs ys : List Value} {wx W : World} (h : Oi w0 B gb gt bs w r cs) (hr : w.ownsRow w0.heap.size E sz v n xs) (hb : Below w.heap.size w wx) (gr : wx.grownBy W v.ownBlock) (ho : W.ownsRow w0.heap.size E sz v' (n + 1) ys) (o : Nat) :
    W.heap[gb]? = some (.cells cs 28) ∧ Oi w0 B gb gt bs (W.setCell ⟨gb, o, none⟩ v') r (cs.setIfInBounds o v') ∧ (W.setCell ⟨gb, o, none⟩ v').ownsRow w0.heap.size E sz v' (n + 1) ys := by
  have h1 := h.up hb
  have z0 := h1.fr.size
  have hk : ∀ k, k < w0.heap.size → W.heap[k]? = wx.heap[k]? := fun k hk => gr.block k (by omega) (by
    intro he
    have := (row_block hr he.symm).1
    omega)
  have h2 : Oi w0 B gb gt bs W r cs := ⟨⟨gr.os.trans h1.fr.os, gr.tape.trans h1.fr.tape, gr.output.trans h1.fr.output, by have := gr.size; omega, fun k q1 q2 q3 => (hk k q1).trans (h1.fr.block k q1 q2 q3)⟩, (hk gb h.lt).trans h1.bx, h1.tp.same gr.size (fun k q _ => hk k (by rcases q with q | q; have := h.ge; have := h.lt; omega; rw [q]; exact h.lt2)), h.lt, h.lt2, h.ne, h.ge⟩
  refine ⟨h2.bx, h2.set o v', row_same ho fun k hk => heap_setCell_other _ _ _ _ ?_⟩
  have := (row_block ho hk).1
  have := h.lt
  simp
  omega
/-- The same row, where another one of the call's own has grown; their elements differ. -/
theorem row_app_by {E E2 : TypeId} {sz n sz2 n2 o K : Nat} {v v2 u : Value} {xs xs2 : List Value} {wx W : World} (h : w.ownsRow K E sz v n xs) (h2 : w.ownsRow w0.heap.size E2 sz2 v2 n2 xs2) (hb : Below w.heap.size w wx) (gr : wx.grownBy W v2.ownBlock) (hE : E ≠ E2) (hg : gb < K) : (W.setCell ⟨gb, o, none⟩ u).ownsRow K E sz v n xs := by
  have q := row_by (row_up h hb) (row_up h2 hb) gr hE
  refine row_same q fun k hk => heap_setCell_other _ _ _ _ ?_
  have := (row_block q hk).1
  simp
  omega
end
/-- Once more was asked for than there was, it stays so. -/
theorem take_shut (n : Nat) : (Rd.take ⟨[], true⟩ n).2 = ⟨[], true⟩ := by unfold Rd.take; split <;> simp
theorem num_shut (n : Nat) : (Rd.num ⟨[], true⟩ n).2 = ⟨[], true⟩ := take_shut n
theorem many_shut {σ α : Type} (p : σ → Rd) (f : σ → α × σ) (hf : ∀ s, p s = ⟨[], true⟩ → p (f s).2 = ⟨[], true⟩) (j n : Nat) (s : σ) (hj : j ≤ n) (h : p (many f j s).2 = ⟨[], true⟩) : p (many f n s).2 = ⟨[], true⟩ := by
  induction n with
  | zero => obtain rfl : j = 0 := by omega
            exact h
  | succ n ih =>
    rcases Nat.lt_or_ge n j with q | q
    · obtain rfl : j = n + 1 := by omega
      exact h
    · exact hf _ (ih q)
theorem rdFn_shut (s : Rd × Int) (h : s.1 = ⟨[], true⟩) : (rdFn s).2.1 = ⟨[], true⟩ := by
  show (Rd.num (Rd.take (Rd.num s.1 1).2 (Rd.num s.1 1).1.toNat).2 2).2 = _
  rw [h, num_shut, take_shut, num_shut]
theorem num2_shut (s : Rd) (h : s = ⟨[], true⟩) : (s.num 2).2 = ⟨[], true⟩ := by rw [h, num_shut]
theorem num8_shut (s : Rd) (h : s = ⟨[], true⟩) : (s.num 8).2 = ⟨[], true⟩ := by rw [h, num_shut]
theorem line_shut (s : Rd) (h : s = ⟨[], true⟩) : s.line.2 = ⟨[], true⟩ := by
  show (Rd.num (Rd.num s 2).2 2).2 = _
  rw [h, num_shut, num_shut]
theorem tab_shut (s : Rd) (h : s = ⟨[], true⟩) : s.tab.2 = ⟨[], true⟩ := by
  unfold Rd.tab
  exact many_shut id (fun r : Rd => r.num 2) num2_shut 0 _ _ (Nat.zero_le _) (by show (Rd.num s 1).2 = _; rw [h, num_shut])
theorem TpAt.shut_eq {w : World} {B g : Nat} {bs : List Int} {r : Rd} (h : TpAt w B g bs r) (hs : r.short = true) : r = ⟨[], true⟩ := by
  have := h.shut hs
  cases r
  simp_all
theorem Oi.ebit {w0 : World} {B gb gt : Nat} {bs : List Int} {w : World} {r : Rd} {cs : Array Value} (h : Oi w0 B gb gt bs w r cs) : w.cell? ⟨gt, 2, none⟩ = some (.bool r.short) := by
  obtain ⟨_, _, _, _, h1, _⟩ := h.tp.box
  simp [World.cell?, h1]
theorem fn_sum (n : Nat) (r : Rd) (h : r.byt) : (many rdFn n (r, 0)).2.1.byt ∧ 0 ≤ (many rdFn n (r, 0)).2.2 ∧ (many rdFn n (r, 0)).2.2 ≤ (n : Int) * 65535 :=
  (many_inv (fun (k : Nat) (s : Rd × Int) => s.1.byt ∧ (0 : Int) ≤ s.2 ∧ s.2 ≤ (k : Int) * 65535) (fun _ => True) rdFn n (r, 0) ⟨h, by simp, by simp⟩ (fun k s _ ⟨h1, h2, h3⟩ => by
    obtain ⟨z1, z2, z3⟩ := rdFn_size s h1
    exact ⟨trivial, rdFn_left s h1, by rw [z3]; omega, by rw [z3]; omega⟩)).2
/-- The tables that were read: each one in a row of the call's own. -/
structure Ti (K : Nat) (w : World) (us : List Value) (ts : List (List Int)) : Prop where
  len : us.length = ts.length
  row : ∀ (i : Nat) (u : Value) (t : List Int), us[i]? = some u → ts[i]? = some t → w.ownsRow K 3 1 u t.length (flat icell t)
theorem Ti.nil (K : Nat) (w : World) : Ti K w [] [] := ⟨rfl, fun i u t hu => by simp at hu⟩
theorem Ti.mono {K : Nat} {w w' : World} {us : List Value} {ts : List (List Int)} (h : Ti K w us ts) (hk : ∀ (u : Value) (n : Nat) (xs : List Value), w.ownsRow K 3 1 u n xs → w'.ownsRow K 3 1 u n xs) : Ti K w' us ts := ⟨h.len, fun i u t hu ht => hk _ _ _ (h.row i u t hu ht)⟩
theorem Ti.snoc {K : Nat} {w : World} {us : List Value} {ts : List (List Int)} (h : Ti K w us ts) {u : Value} {t : List Int} (ht : w.ownsRow K 3 1 u t.length (flat icell t)) : Ti K w (us ++ [u]) (ts ++ [t]) := by
  refine ⟨by simp [h.len], fun i x y hx hy => ?_⟩
  rcases Nat.lt_or_ge i us.length with q | q
  · rw [List.getElem?_append_left q] at hx
    rw [List.getElem?_append_left (by have := h.len; omega)] at hy
    exact h.row i x y hx hy
  · rw [List.getElem?_append_right q] at hx
    rw [List.getElem?_append_right (by have := h.len; omega)] at hy
    rw [h.len] at hx
    have : i - ts.length = 0 := by
      rcases Nat.eq_zero_or_pos (i - ts.length) with q2 | q2
      · exact q2
      · rw [List.getElem?_eq_none (by simp; omega)] at hx; cases hx
    rw [this] at hx hy
    simp at hx hy
    subst hx hy
    exact ht
theorem rdImg_shorts {r ra r1 r2 r3 r4 r5 r6 r7 r8 r9 r10 : Rd} {n nf nt nd nl : Nat} {xs : List Int} {fs : List Fn} {z en : Int} {ts : List (List Int)} {ds : List Int} {ls : List Ln} (hb : r.byt)
    (e1 : r.num 2 = ((n : Int), ra)) (e2 : ra.take n = (xs, r1)) (e3 : r1.num 1 = ((nf : Int), r2)) (e4 : many rdFn nf (r2, 0) = (fs, (r3, z))) (e5 : r3.num 1 = (en, r4)) (e6 : r4.num 1 = ((nt : Int), r5)) (e7 : many Rd.tab nt r5 = (ts, r6))
    (e8 : r6.num 1 = ((nd : Int), r7)) (e9 : many (fun r : Rd => r.num 8) nd r7 = (ds, r8)) (e10 : r8.num 2 = ((nl : Int), r9)) (e11 : many Rd.line nl r9 = (ls, r10)) (h : r10.short = false) : r3.short = false ∧ r6.short = false ∧ r8.short = false := by
  obtain ⟨la, l1, l2, l3, l4, l5, l6, l7, l8, l9⟩ := rdImg_bytes hb e1 e2 e3 e4 e5 e6 e7 e8 e9 e10 e11
  have k11 := many_keep id Rd.line encLn line_left line_keep nl r9 l9 (by rw [e11]; exact h)
  have k10 := num_keep r8 l8 2 (by omega) (by rw [e10]; exact k11.1)
  have k9 := many_keep id (fun r : Rd => r.num 8) (be 8) (fun s hs => num_left s 8 hs) (fun s hs h => num_keep s hs 8 (by omega) h) nd r7 l7 (by rw [e9]; exact k10.1)
  have k8 := num_keep r6 l6 1 (by omega) (by rw [e8]; exact k9.1)
  have k7 := many_keep id Rd.tab encT tab_left tab_keep nt r5 l5 (by rw [e7]; exact k8.1)
  have k6 := num_keep r4 l4 1 (by omega) (by rw [e6]; exact k7.1)
  have k5 := num_keep r3 l3 1 (by omega) (by rw [e5]; exact k6.1)
  exact ⟨k5.1, k8.1, k10.1⟩
/-- The same, where neither box is. -/
structure Tl (w : World) (gb gt : Nat) (us : List Value) (ts : List (List Int)) : Prop where
  len : us.length = ts.length
  list : ∀ (i : Nat) (u : Value) (t : List Int), us[i]? = some u → ts[i]? = some t → LA2 w gb gt icell 1 u t
theorem Tl.fr {w w' : World} {gb gt : Nat} {us : List Value} {ts : List (List Int)} (h : Tl w gb gt us ts) (hf : Fr2 gb gt w w') : Tl w' gb gt us ts := ⟨h.len, fun i u t hu ht => (h.list i u t hu ht).fr hf⟩
theorem inImg6 : (Try.prog.info? 28).map (·.size) = some 6 := by kernel_rfl
/-- A store of an image into a box of its own. -/
theorem wpList_store6 {w Z : World} {ops : Array Oper} {rest : List Oper} {o : Oper} {a : Act} {Q : Exit → Act → World → Prop} (hgd : o.guard = none) (x y : Operand) (ho : o.op = .store 28 x y) (k : Nat) {a0 a1 a2 a3 a4 a5 b0 b1 b2 b3 b4 b5 : Value} {T : TypeId} (hx : a.eval x = .pointer (some ⟨k, 0, none⟩)) (hy : a.eval y = .agg #[b0, b1, b2, b3, b4, b5])
    (hb : w.heap[k]? = some (.cells #[a0, a1, a2, a3, a4, a5] T)) (c0 : b0.oneCell' = true) (c1 : b1.oneCell' = true) (c2 : b2.oneCell' = true) (c3 : b3.oneCell' = true) (c4 : b4.oneCell' = true) (c5 : b5.oneCell' = true) (hZ : ((((((w.setCell ⟨k, 0, none⟩ b0).setCell ⟨k, 1, none⟩ b1).setCell ⟨k, 2, none⟩ b2).setCell ⟨k, 3, none⟩ b3).setCell ⟨k, 4, none⟩ b4).setCell ⟨k, 5, none⟩ b5) = Z)
    (h : wpList Try.prog ops Q rest (a.put o.dst undef) Z) : wpList Try.prog ops Q (o :: rest) a w := by
  subst hZ
  have h1 : (#[b0, b1, b2, b3, b4, b5] : Array Value).all (·.oneCell') = true := all_oneCell_toArray (cs := [b0, b1, b2, b3, b4, b5]) (by
    intro v hv
    simp at hv
    rcases hv with rfl | rfl | rfl | rfl | rfl | rfl <;> assumption)
  refine wpList_store_mid hgd 28 x y ho k 0 _ hx hy (fun j hj => ?_) inImg6 h1 h
  have hj6 : j < 6 := hj
  rw [Nat.zero_add]
  have : j = 0 ∨ j = 1 ∨ j = 2 ∨ j = 3 ∨ j = 4 ∨ j = 5 := by omega
  rcases this with rfl | rfl | rfl | rfl | rfl | rfl <;> simp [World.cell?, World.frozen?, hb]
theorem res6 {tmps : Array Value} {Z : World} {k : Nat} {x b0 b1 b2 b3 b4 b5 : Value} (h2 : tmps[2]?.getD undef = .pointer (some ⟨k, 0, none⟩)) (h3 : tmps[3]?.getD undef = x) (d0 : Z.cell? ⟨k, 0, none⟩ = some b0) (d1 : Z.cell? ⟨k, 1, none⟩ = some b1) (d2 : Z.cell? ⟨k, 2, none⟩ = some b2) (d3 : Z.cell? ⟨k, 3, none⟩ = some b3) (d4 : Z.cell? ⟨k, 4, none⟩ = some b4) (d5 : Z.cell? ⟨k, 5, none⟩ = some b5) :
    (results Try.f17 tmps).run Try.prog Z = .ok (.tuple #[.agg #[b0, b1, b2, b3, b4, b5], x]) Z := by
  unfold results
  rw [Try.results17]
  simp [go_sem, h2, h3, d0, d1, d2, d3, d4, d5]
theorem fr_set (gb gt : Nat) (w : World) (o : Nat) (v : Value) : Fr2 gb gt w (w.setCell ⟨gb, o, none⟩ v) :=
  ⟨rfl, rfl, rfl, by rw [World.size_setCell]; exact Nat.le_refl _, fun k _ h _ => heap_setCell_other _ _ _ _ (by simpa using h)⟩
theorem Oi.num {w0 : World} {B gb gt : Nat} {bs : List Int} {w : World} {r r' : Rd} {cs : Array Value} {k : Nat} {x : Int} (h : Oi w0 B gb gt bs w r cs) (hq : r.num k = (x, r')) (hk : k = 1 ∨ k = 2 ∨ k = 8) :
    Calls Try.prog 31 #[.pointer (some ⟨gt, 0, none⟩), .int .i64 k] w fun e w' => e = .returned (.int .i64 x) ∧ Oi w0 B gb gt bs w' r' cs ∧ FrG gt w w' := by
  refine (tnum_any B gt bs r k w h.tp hk).mono ?_
  rintro e w' ⟨rfl, h1, h2⟩
  rw [hq] at h1
  exact ⟨by rw [hq], h.step h2 h1, h2⟩
theorem Oi.next {w0 : World} {B gb gt : Nat} {bs : List Int} {w : World} {r r' : Rd} {cs : Array Value} {n : Nat} {xs : List Int} (h : Oi w0 B gb gt bs w r cs) (hq : r.take n = (xs, r')) (hn : n ≤ 100000) :
    Calls Try.prog 32 #[.pointer (some ⟨gt, 0, none⟩), .int .i64 n] w fun e w' => ∃ a l c, e = .returned (.slice a l c) ∧ Oi w0 B gb gt bs w' r' cs ∧ LA2 w' gb gt ucell 1 (.slice a l c) xs ∧ FrG gt w w' := by
  refine (next_any B gt bs r n w h.tp hn).mono ?_
  rintro e w' ⟨a, l, c, rfl, h1, h2, h3, h4⟩
  rw [hq] at h1 h2
  refine ⟨a, l, c, rfl, h.step h4 h1, ⟨h2, fun bb oo l2 c2 he => Or.inl ?_⟩, h4⟩
  cases he
  have := h3 bb oo rfl
  have := h.lt
  have := h.lt2
  have := h.fr.size
  omega
end Go.Proofs.Ytmibbjjfijcgpac
