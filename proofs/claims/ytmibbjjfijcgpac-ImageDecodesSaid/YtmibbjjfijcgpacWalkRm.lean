/-
  The reader's image: whatever the bytes say, whether it may be or not.
-/
import Derived.Test.YtmibbjjfijcgpacWalkLs
import Derived.Test.YtmibbjjfijcgpacWalkCo
namespace Go.Proofs.Ytmibbjjfijcgpac
open Go.RowKit Go.Joins
/-- P2.4, behind the mark. -/
def rdImg (r : Rd) : Img × Rd :=
  let a := r.num 2
  let t := a.2.take a.1.toNat
  let nf := t.2.num 1
  let fs := many rdFn nf.1.toNat (nf.2, 0)
  let en := fs.2.1.num 1
  let nt := en.2.num 1
  let ts := many Rd.tab nt.1.toNat nt.2
  let nd := ts.2.num 1
  let ds := many (fun r : Rd => r.num 8) nd.1.toNat nd.2
  let nl := ds.2.num 2
  let ls := many Rd.line nl.1.toNat nl.2
  (⟨t.1, fs.1, ts.1, ds.1, ls.1, en.1⟩, ls.2)
/-- Where the reader's image stands: the reader, the box of its pointer, the answer's box, the image's box. -/
structure Im (w0 : World) (B g : Nat) (w : World) (r : Rd) (a b c d e f : Value) : Prop where
  rd : RdAt w B g r
  bp : w.heap[w0.heap.size]? = some (.cells #[.pointer (some ⟨g, 0, none⟩)] 70)
  br : w.heap[w0.heap.size + 1]? = some (.cells #[.slice none 0 0, .slice none 0 0, .slice none 0 0, .slice none 0 0, .slice none 0 0, .int .i64 0] 28)
  bm : w.heap[w0.heap.size + 2]? = some (.cells #[a, b, c, d, e, f] 28)
  fr : FrG g w0 w
  gl : g < w0.heap.size
theorem Im.lt {w0 : World} {B g : Nat} {w : World} {r : Rd} {a b c d e f : Value} (h : Im w0 B g w r a b c d e f) : w0.heap.size + 2 < w.heap.size := (Array.getElem?_eq_some_iff.1 h.bm).1
theorem Im.step {w' : World} {r' : Rd} {w0 : World} {B g : Nat} {w : World} {r : Rd} {a b c d e f : Value} (h : Im w0 B g w r a b c d e f) (hf : FrG g w w') (hr : RdAt w' B g r') : Im w0 B g w' r' a b c d e f := by
  have hl := h.lt
  have hg := h.gl
  exact ⟨hr, (hf.block _ (by omega) (by omega)).trans h.bp, (hf.block _ (by omega) (by omega)).trans h.br, (hf.block _ (by omega) (by omega)).trans h.bm, h.fr.trans hf, hg⟩
theorem Im.step2 {w' : World} {r' : Rd} {ge : Nat} {w0 : World} {B g : Nat} {w : World} {r : Rd} {a b c d e f : Value} (h : Im w0 B g w r a b c d e f) (hf : Fr2 g ge w w') (hr : RdAt w' B g r') (hge : w0.heap.size + 2 < ge) : Im w0 B g w' r' a b c d e f := by
  have hl := h.lt
  have hg := h.gl
  exact ⟨hr, (hf.block _ (by omega) (by omega) (by omega)).trans h.bp, (hf.block _ (by omega) (by omega) (by omega)).trans h.br, (hf.block _ (by omega) (by omega) (by omega)).trans h.bm, ⟨hf.os.trans h.fr.os, hf.tape.trans h.fr.tape, hf.output.trans h.fr.output, Nat.le_trans h.fr.size hf.size, fun k hk hg => (hf.block k (Nat.lt_of_lt_of_le hk h.fr.size) hg (by omega)).trans (h.fr.block k hk hg)⟩, hg⟩
theorem Im.drew {w0 : World} {B g : Nat} {w : World} {r : Rd} {a b c d e f : Value} (h : Im w0 B g w r a b c d e f) : Im w0 B g w.drew r a b c d e f := ⟨h.rd.drew, h.bp, h.br, h.bm, h.fr.drew, h.gl⟩
theorem Im.ptr {w0 : World} {B g : Nat} {w : World} {r : Rd} {a b c d e f : Value} (h : Im w0 B g w r a b c d e f) : w.cell? ⟨w0.heap.size, 0, none⟩ = some (.pointer (some ⟨g, 0, none⟩)) := by simp [World.cell?, h.bp]
theorem Im.cells {w0 : World} {B g : Nat} {w : World} {r : Rd} {a b c d e f : Value} (h : Im w0 B g w r a b c d e f) :
    w.cell? ⟨w0.heap.size + 2, 0, none⟩ = some a ∧ w.cell? ⟨w0.heap.size + 2, 1, none⟩ = some b ∧ w.cell? ⟨w0.heap.size + 2, 2, none⟩ = some c ∧ w.cell? ⟨w0.heap.size + 2, 3, none⟩ = some d ∧ w.cell? ⟨w0.heap.size + 2, 4, none⟩ = some e ∧ w.cell? ⟨w0.heap.size + 2, 5, none⟩ = some f := by
  refine ⟨?_, ?_, ?_, ?_, ?_, ?_⟩ <;> simp [World.cell?, h.bm]
theorem Im.frozen {w0 : World} {B g : Nat} {w : World} {r : Rd} {a b c d e f : Value} (h : Im w0 B g w r a b c d e f) (o : Nat) : w.frozen? ⟨w0.heap.size + 2, o, none⟩ = false := by simp [World.frozen?, h.bm]
theorem Im.rfrozen {w0 : World} {B g : Nat} {w : World} {r : Rd} {a b c d e f : Value} (h : Im w0 B g w r a b c d e f) (o : Nat) : w.frozen? ⟨w0.heap.size + 1, o, none⟩ = false := by simp [World.frozen?, h.br]
theorem Im.made {w' : World} {o : Obj} {w0 : World} {B g : Nat} {w : World} {r : Rd} {a b c d e f : Value} (h : Im w0 B g w r a b c d e f) (hw : w' = w.alloc o) : Im w0 B g w' r a b c d e f := hw ▸ h.step ((FrG.refl g w).alloc _) (h.rd.alloc _)
theorem a_new (w : World) (o : Obj) : (w.alloc o).heap[w.heap.size]? = some o := by show (w.heap.push _)[w.heap.size]? = _; simp
theorem a_old (w : World) (o : Obj) (k : Nat) (hk : k < w.heap.size) : (w.alloc o).heap[k]? = w.heap[k]? := by show (w.heap.push _)[k]? = _; rw [Array.getElem?_push_lt hk, ← Array.getElem?_eq_getElem hk]
theorem a_three (w : World) (a b c : Obj) : (((w.alloc a).alloc b).alloc c).heap[w.heap.size]? = some a ∧ (((w.alloc a).alloc b).alloc c).heap[w.heap.size + 1]? = some b ∧ (((w.alloc a).alloc b).alloc c).heap[w.heap.size + 2]? = some c := by
  have z1 : (w.alloc a).heap.size = w.heap.size + 1 := by simp
  have z2 : ((w.alloc a).alloc b).heap.size = w.heap.size + 2 := by simp
  have n3 := a_new ((w.alloc a).alloc b) c
  have n2 := a_new (w.alloc a) b
  rw [z2] at n3
  rw [z1] at n2
  exact ⟨by rw [a_old _ _ _ (by omega), a_old _ _ _ (by omega)]; exact a_new w a, by rw [a_old _ _ _ (by omega)]; exact n2, n3⟩
theorem Im.put0 {w0 : World} {B g : Nat} {w : World} {r : Rd} {a b c d e f : Value} (h : Im w0 B g w r a b c d e f) (u : Value) : Im w0 B g (w.setCell ⟨w0.heap.size + 2, 0, none⟩ u) r u b c d e f := by
  have hg := h.gl
  have hB := h.rd.ge
  exact ⟨h.rd.set (by omega) (by omega) _, (heap_setCell_other _ _ _ _ (by simp)).trans h.bp, (heap_setCell_other _ _ _ _ (by simp)).trans h.br, heap_setCell_same w _ 0 _ _ u h.bm, h.fr.set (by omega) u, hg⟩
theorem Im.put1 {w0 : World} {B g : Nat} {w : World} {r : Rd} {a b c d e f : Value} (h : Im w0 B g w r a b c d e f) (u : Value) : Im w0 B g (w.setCell ⟨w0.heap.size + 2, 1, none⟩ u) r a u c d e f := by
  have hg := h.gl
  have hB := h.rd.ge
  exact ⟨h.rd.set (by omega) (by omega) _, (heap_setCell_other _ _ _ _ (by simp)).trans h.bp, (heap_setCell_other _ _ _ _ (by simp)).trans h.br, heap_setCell_same w _ 1 _ _ u h.bm, h.fr.set (by omega) u, hg⟩
theorem Im.put2 {w0 : World} {B g : Nat} {w : World} {r : Rd} {a b c d e f : Value} (h : Im w0 B g w r a b c d e f) (u : Value) : Im w0 B g (w.setCell ⟨w0.heap.size + 2, 2, none⟩ u) r a b u d e f := by
  have hg := h.gl
  have hB := h.rd.ge
  exact ⟨h.rd.set (by omega) (by omega) _, (heap_setCell_other _ _ _ _ (by simp)).trans h.bp, (heap_setCell_other _ _ _ _ (by simp)).trans h.br, heap_setCell_same w _ 2 _ _ u h.bm, h.fr.set (by omega) u, hg⟩
theorem Im.put3 {w0 : World} {B g : Nat} {w : World} {r : Rd} {a b c d e f : Value} (h : Im w0 B g w r a b c d e f) (u : Value) : Im w0 B g (w.setCell ⟨w0.heap.size + 2, 3, none⟩ u) r a b c u e f := by
  have hg := h.gl
  have hB := h.rd.ge
  exact ⟨h.rd.set (by omega) (by omega) _, (heap_setCell_other _ _ _ _ (by simp)).trans h.bp, (heap_setCell_other _ _ _ _ (by simp)).trans h.br, heap_setCell_same w _ 3 _ _ u h.bm, h.fr.set (by omega) u, hg⟩
theorem Im.put4 {w0 : World} {B g : Nat} {w : World} {r : Rd} {a b c d e f : Value} (h : Im w0 B g w r a b c d e f) (u : Value) : Im w0 B g (w.setCell ⟨w0.heap.size + 2, 4, none⟩ u) r a b c d u f := by
  have hg := h.gl
  have hB := h.rd.ge
  exact ⟨h.rd.set (by omega) (by omega) _, (heap_setCell_other _ _ _ _ (by simp)).trans h.bp, (heap_setCell_other _ _ _ _ (by simp)).trans h.br, heap_setCell_same w _ 4 _ _ u h.bm, h.fr.set (by omega) u, hg⟩
theorem Im.put5 {w0 : World} {B g : Nat} {w : World} {r : Rd} {a b c d e f : Value} (h : Im w0 B g w r a b c d e f) (u : Value) : Im w0 B g (w.setCell ⟨w0.heap.size + 2, 5, none⟩ u) r a b c d e u := by
  have hg := h.gl
  have hB := h.rd.ge
  exact ⟨h.rd.set (by omega) (by omega) _, (heap_setCell_other _ _ _ _ (by simp)).trans h.bp, (heap_setCell_other _ _ _ _ (by simp)).trans h.br, heap_setCell_same w _ 5 _ _ u h.bm, h.fr.set (by omega) u, hg⟩
theorem Fr2.refl (g g2 : Nat) (w : World) : Fr2 g g2 w w := ⟨rfl, rfl, rfl, Nat.le_refl _, fun _ _ _ _ => rfl⟩
theorem FrG.of2 {g ge : Nat} {w w1 w2 : World} (h1 : FrG g w w1) (h2 : Fr2 g ge w1 w2) (he : w.heap.size ≤ ge) : FrG g w w2 :=
  ⟨h2.os.trans h1.os, h2.tape.trans h1.tape, h2.output.trans h1.output, Nat.le_trans h1.size h2.size, fun k hk hg => (h2.block k (Nat.lt_of_lt_of_le hk h1.size) hg (by omega)).trans (h1.block k hk hg)⟩
theorem Fr2.at {g g2 : Nat} {w w' : World} (h : Fr2 g g2 w w') {k : Nat} {o : Obj} (hk : w.heap[k]? = some o) (h1 : k ≠ g) (h2 : k ≠ g2) : w'.heap[k]? = some o := (h.block k (Array.getElem?_eq_some_iff.1 hk).1 h1 h2).trans hk
/-- A list that was made, whole, in a block of its own. -/
theorem list_block {α : Type} {w : World} {cells : α → List Value} {sz k : Nat} {xs : List α} {e : TypeId} {n : Nat} (hl : ∀ a, (cells a).length = sz) (hb : w.heap[k]? = some (.cells (flat cells xs).toArray e)) (hn : n = xs.length) (hm : xs.length ≤ maxLen) :
    ListAt w cells sz (.slice (some ⟨k, 0, none⟩) n n) xs := by
  subst hn
  refine Or.inr ⟨k, 0, xs.length, rfl, Nat.le_refl _, hm, (Array.getElem?_eq_some_iff.1 hb).1, fun j x hx o u hu => ?_⟩
  have ho : o < sz := by
    rcases Nat.lt_or_ge o sz with q | q
    · exact q
    · rw [List.getElem?_eq_none (by rw [hl]; exact q)] at hu; cases hu
  simp only [World.cell?, hb, List.getElem?_toArray, Nat.zero_add]
  rw [flat_at hl xs j x hx o ho]
  exact hu
theorem Im.num {w0 : World} {B g : Nat} {w : World} {r : Rd} {a b c d e f : Value} (h : Im w0 B g w r a b c d e f) {k : Nat} {x : Int} {r' : Rd} (hq : r.num k = (x, r')) (hk : k ≤ 8) : Calls Try.prog 42 #[.pointer (some ⟨g, 0, none⟩), .int .i64 k] w fun ed w' => ed = .returned (.int .i64 x) ∧ Im w0 B g w' r' a b c d e f ∧ Only g w w' := by
  have q := number_any B g r k w h.rd hk
  rw [hq] at q
  exact q.mono fun ed w' ⟨q1, q2, q3⟩ => ⟨q1, h.step q3.fr q2, q3⟩
theorem Im.take {w0 : World} {B g : Nat} {w : World} {r : Rd} {a b c d e f : Value} (h : Im w0 B g w r a b c d e f) {n : Nat} {xs : List Int} {r' : Rd} (hq : r.take n = (xs, r')) (hn : n ≤ 100000) : Calls Try.prog 41 #[.pointer (some ⟨g, 0, none⟩), .int .i64 n] w fun ed w' => ∃ v, ed = .returned v ∧ Im w0 B g w' r' a b c d e f ∧ ListAt w' ucell 1 v xs ∧ Only g w w' := by
  have q := take_any B g r n w h.rd hn
  rw [hq] at q
  exact q.mono fun ed w' ⟨v, q1, q2, q3, _, q4⟩ => ⟨v, q1, h.step q4.fr q2, q3, q4⟩
theorem Im.lines {w0 : World} {B g : Nat} {w : World} {r : Rd} {a b c d e f : Value} (h : Im w0 B g w r a b c d e f) {n : Nat} {xs : List Ln} {r' : Rd} (hq : many Rd.line n r = (xs, r')) (hn : n ≤ 65535) : Calls Try.prog 50 #[.int .i64 n, .func (.func 51) #[] #[.pointer (some ⟨w0.heap.size, 0, none⟩)]] w fun ed w' => ed = .returned (.slice (some ⟨w.heap.size, 0, none⟩) n n) ∧ Im w0 B g w' r' a b c d e f ∧ w'.heap[w.heap.size]? = some (.cells (flat Ln.cells xs).toArray 42) ∧ FrG g w w' := by
  have hl := h.lt
  have hg := h.gl
  have q := listOfLn_any B g w0.heap.size r n w h.rd hn h.ptr (by omega) (by omega)
  rw [hq] at q
  exact q.mono fun ed w' ⟨q1, q2, q3, q4⟩ => ⟨q1, h.step q4 q2, q3, q4⟩
theorem flat_icell (xs : List Int) : flat icell xs = xs.map (Value.int .i64) := by
  induction xs with
  | nil => rfl
  | cons x xs ih => rw [List.map_cons, ← ih]; rfl
theorem Im.datas {w0 : World} {B g : Nat} {w : World} {r : Rd} {a b c d e f : Value} (h : Im w0 B g w r a b c d e f) {n : Nat} {xs : List Int} {r' : Rd} (hq : many (fun r : Rd => r.num 8) n r = (xs, r')) (hn : n ≤ 65535) : Calls Try.prog 47 #[.int .i64 n, .func (.func 49) #[] #[.pointer (some ⟨w0.heap.size, 0, none⟩)]] w fun ed w' => ed = .returned (.slice (some ⟨w.heap.size, 0, none⟩) n n) ∧ Im w0 B g w' r' a b c d e f ∧ w'.heap[w.heap.size]? = some (.cells (flat icell xs).toArray 3) ∧ FrG g w w' := by
  have hl := h.lt
  have hg := h.gl
  have q := listOf8_any B g w0.heap.size r n w h.rd hn h.ptr (by omega) (by omega)
  rw [hq] at q
  exact q.mono fun ed w' ⟨q1, q2, q3, _, q4⟩ => ⟨q1, h.step (FrG.trans ((FrG.refl g w).alloc _) q4.fr) q2, by rw [flat_icell]; exact q3, FrG.trans ((FrG.refl g w).alloc _) q4.fr⟩
theorem Im.tabs {w0 : World} {B g : Nat} {w : World} {r : Rd} {a b c d e f : Value} (h : Im w0 B g w r a b c d e f) {n : Nat} {xs : List (List Int)} {r' : Rd} (hq : many Rd.tab n r = (xs, r')) (hn : n ≤ 65535) : Calls Try.prog 45 #[.int .i64 n, .func (.func 46) #[] #[.pointer (some ⟨w0.heap.size, 0, none⟩)]] w fun ed w' => ed = .returned (.slice (some ⟨w.heap.size, 0, none⟩) n n) ∧ Im w0 B g w' r' a b c d e f ∧ FrG g w w' ∧ ∃ us : List Value, us.length = n ∧ w'.heap[w.heap.size]? = some (.cells (flat vcell us).toArray 25) ∧ ∀ (i : Nat) (u : Value) (t : List Int), us[i]? = some u → xs[i]? = some t → ∃ bb, u = .slice (some ⟨bb, 0, none⟩) t.length t.length ∧ w.heap.size < bb ∧ w'.heap[bb]? = some (.cells (flat icell t).toArray 3) := by
  have hl := h.lt
  have hg := h.gl
  have q := listOfTb_any B g w0.heap.size r n w h.rd hn h.ptr (by omega) (by omega)
  rw [hq] at q
  exact q.mono fun ed w' ⟨q1, q2, q3, us, q4, q5, q6⟩ => ⟨q1, h.step q3 q2, q3, us, q4, q5, fun i u t hu ht => by rw [flat_icell]; exact q6 i u t hu ht⟩
theorem Im.funcs {w0 : World} {B g : Nat} {w : World} {r : Rd} {a b c d e f : Value} (h : Im w0 B g w r a b c d e f) {n ge : Nat} {xs : List Fn} {r' : Rd} {z : Int} (hq : many rdFn n (r, 0) = (xs, (r', z))) (hn : n ≤ 65535) (he : w.heap[ge]? = some (.cells #[.int .i64 0] 3)) (hge : w0.heap.size + 2 < ge) : Calls Try.prog 43 #[.int .i64 n, .func (.func 44) #[] #[.pointer (some ⟨ge, 0, none⟩), .pointer (some ⟨w0.heap.size, 0, none⟩)]] w fun ed w' => ed = .returned (.slice (some ⟨w.heap.size, 0, none⟩) n n) ∧ Im w0 B g w' r' a b c d e f ∧ w'.heap[w.heap.size]? = some (.cells (flat Fn.cells xs).toArray 46) ∧ Fr2 g ge w w' := by
  have hl := h.lt
  have hg := h.gl
  have hB := h.rd.ge
  have q := listOfFn_any B g w0.heap.size ge r n w h.rd hn h.ptr (by omega) (by omega) he (by omega) (by omega) (by omega)
  rw [hq] at q
  exact q.mono fun ed w' ⟨q1, q2, q3, q4⟩ => ⟨q1, h.step2 q4 q2 hge, q3, q4⟩
theorem Fr2.via {g m ge : Nat} {w w1 w2 : World} (h1 : Fr2 g m w w1) (h2 : Fr2 g ge w1 w2) (he : w.heap.size ≤ ge) : Fr2 g m w w2 :=
  ⟨h2.os.trans h1.os, h2.tape.trans h1.tape, h2.output.trans h1.output, Nat.le_trans h1.size h2.size, fun k hk h3 h4 => (h2.block k (Nat.lt_of_lt_of_le hk h1.size) h3 (by omega)).trans (h1.block k hk h3 h4)⟩
theorem rdImg_parts {r ra r1 r2 r3 r4 r5 r6 r7 r8 r9 r10 : Rd} {n nf nt nd nl : Nat} {xs : List Int} {fs : List Fn} {z en : Int} {ts : List (List Int)} {ds : List Int} {ls : List Ln}
    (h1 : r.num 2 = ((n : Int), ra)) (h2 : ra.take n = (xs, r1)) (h3 : r1.num 1 = ((nf : Int), r2)) (h4 : many rdFn nf (r2, 0) = (fs, (r3, z))) (h5 : r3.num 1 = (en, r4)) (h6 : r4.num 1 = ((nt : Int), r5)) (h7 : many Rd.tab nt r5 = (ts, r6))
    (h8 : r6.num 1 = ((nd : Int), r7)) (h9 : many (fun r : Rd => r.num 8) nd r7 = (ds, r8)) (h10 : r8.num 2 = ((nl : Int), r9)) (h11 : many Rd.line nl r9 = (ls, r10)) : rdImg r = (⟨xs, fs, ts, ds, ls, en⟩, r10) := by
  simp [rdImg, h1, h2, h3, h4, h5, h6, h7, h8, h9, h10, h11]
theorem num_left (r : Rd) (k : Nat) (h : ∀ x ∈ r.left, 0 ≤ x ∧ x ≤ 255) : ∀ x ∈ (r.num k).2.left, 0 ≤ x ∧ x ≤ 255 := take_left r k h
theorem many_left {σ α : Type} (p : σ → Rd) (f : σ → α × σ) (hf : ∀ s, (∀ x ∈ (p s).left, 0 ≤ x ∧ x ≤ 255) → ∀ x ∈ (p (f s).2).left, 0 ≤ x ∧ x ≤ 255) (n : Nat) (s : σ) (h : ∀ x ∈ (p s).left, 0 ≤ x ∧ x ≤ 255) : ∀ x ∈ (p (many f n s).2).left, 0 ≤ x ∧ x ≤ 255 := by
  induction n with
  | zero => exact h
  | succ n ih => exact hf _ ih
theorem num1_nat (r : Rd) (h : ∀ x ∈ r.left, 0 ≤ x ∧ x ≤ 255) : ∃ (n : Nat) (r' : Rd), r.num 1 = ((n : Int), r') ∧ n ≤ 255 ∧ ∀ x ∈ r'.left, 0 ≤ x ∧ x ≤ 255 := by
  obtain ⟨⟨q1, q2⟩, _⟩ := num_bd r h
  obtain ⟨n, hn⟩ := Int.eq_ofNat_of_zero_le q1
  exact ⟨n, (r.num 1).2, by rw [← hn], by omega, num_left r 1 h⟩
theorem num2_nat (r : Rd) (h : ∀ x ∈ r.left, 0 ≤ x ∧ x ≤ 255) : ∃ (n : Nat) (r' : Rd), r.num 2 = ((n : Int), r') ∧ n ≤ 65535 ∧ ∀ x ∈ r'.left, 0 ≤ x ∧ x ≤ 255 := by
  obtain ⟨_, ⟨q1, q2⟩⟩ := num_bd r h
  obtain ⟨n, hn⟩ := Int.eq_ofNat_of_zero_le q1
  exact ⟨n, (r.num 2).2, by rw [← hn], by omega, num_left r 2 h⟩
theorem rdFn_left (s : Rd × Int) (h : ∀ x ∈ s.1.left, 0 ≤ x ∧ x ≤ 255) : ∀ x ∈ (rdFn s).2.1.left, 0 ≤ x ∧ x ≤ 255 := num_left _ 2 (take_left _ _ (num_left s.1 1 h))
theorem tab_left (r : Rd) (h : ∀ x ∈ r.left, 0 ≤ x ∧ x ≤ 255) : ∀ x ∈ r.tab.2.left, 0 ≤ x ∧ x ≤ 255 := many_left id _ (fun s hs => num_left s 2 hs) _ _ (num_left r 1 h)
theorem line_left (r : Rd) (h : ∀ x ∈ r.left, 0 ≤ x ∧ x ≤ 255) : ∀ x ∈ r.line.2.left, 0 ≤ x ∧ x ≤ 255 := num_left _ 2 (num_left r 2 h)
/-- The image that is read, part by part. -/
theorem rdImg_all (r : Rd) (h : ∀ x ∈ r.left, 0 ≤ x ∧ x ≤ 255) : ∃ (ra r1 r2 r3 r4 r5 r6 r7 r8 r9 r10 : Rd) (n nf nt nd nl : Nat) (xs : List Int) (fs : List Fn) (z en : Int) (ts : List (List Int)) (ds : List Int) (ls : List Ln),
    (r.num 2 = ((n : Int), ra) ∧ ra.take n = (xs, r1) ∧ r1.num 1 = ((nf : Int), r2) ∧ many rdFn nf (r2, 0) = (fs, (r3, z)) ∧ r3.num 1 = (en, r4) ∧ r4.num 1 = ((nt : Int), r5) ∧ many Rd.tab nt r5 = (ts, r6) ∧
    r6.num 1 = ((nd : Int), r7) ∧ many (fun r : Rd => r.num 8) nd r7 = (ds, r8) ∧ r8.num 2 = ((nl : Int), r9) ∧ many Rd.line nl r9 = (ls, r10)) ∧ n ≤ 65535 ∧ nf ≤ 255 ∧ nt ≤ 255 ∧ nd ≤ 255 ∧ nl ≤ 65535 ∧ xs.length ≤ 65535 ∧ fs.length = nf ∧ ts.length = nt ∧ ds.length = nd ∧ ls.length = nl ∧ ∀ t ∈ ts, t.length ≤ 255 := by
  obtain ⟨n, ra, e1, b1, l1⟩ := num2_nat r h
  have l2 := take_left ra n l1
  have b2 := take_len ra n
  obtain ⟨nf, r2, e3, b3, l3⟩ := num1_nat _ l2
  have l4 := many_left Prod.fst rdFn rdFn_left nf (r2, 0) l3
  have b4 := many_len rdFn nf (r2, 0)
  have l5 := num_left _ 1 l4
  obtain ⟨nt, r5, e6, b6, l6⟩ := num1_nat _ l5
  have l7 := many_left id Rd.tab tab_left nt r5 l6
  have b7 := many_len Rd.tab nt r5
  obtain ⟨nd, r7, e8, b8, l8⟩ := num1_nat _ l7
  have l9 := many_left id (fun r : Rd => r.num 8) (fun s hs => num_left s 8 hs) nd r7 l8
  have b9 := many_len (fun r : Rd => r.num 8) nd r7
  obtain ⟨nl, r9, e10, b10, l10⟩ := num2_nat _ l9
  have b11 := many_len Rd.line nl r9
  refine ⟨ra, _, r2, _, _, r5, _, r7, _, r9, _, n, nf, nt, nd, nl, _, _, _, _, _, _, _, ⟨e1, rfl, e3, rfl, rfl, e6, rfl, e8, rfl, e10, rfl⟩, b1, b3, b6, b8, b10, Nat.le_trans b2 b1, b4, b7, b9, b11, ?_⟩
  have key : ∀ (k : Nat) (s : Rd), (∀ x ∈ s.left, 0 ≤ x ∧ x ≤ 255) → ∀ t ∈ (many Rd.tab k s).1, t.length ≤ 255 := by
    intro k s hs
    induction k with
    | zero => intro t ht; cases ht
    | succ k ih =>
      intro t ht
      rw [many] at ht
      rcases List.mem_append.1 ht with q | q
      · exact ih t q
      · simp only [List.mem_singleton] at q
        have hl := many_left id Rd.tab tab_left k s hs
        obtain ⟨⟨q1, q2⟩, _⟩ := num_bd (many Rd.tab k s).2 hl
        rw [q, Rd.tab, many_len]
        omega
  exact key nt r5 l6
theorem Im.last {w0 : World} {B g : Nat} {w : World} {r : Rd} {a b c d e f : Value} (h : Im w0 B g w r a b c d e f) : ((((((w.setCell ⟨w0.heap.size + 1, 0, none⟩ a).setCell ⟨w0.heap.size + 1, 1, none⟩ b).setCell ⟨w0.heap.size + 1, 2, none⟩ c).setCell ⟨w0.heap.size + 1, 3, none⟩ d).setCell ⟨w0.heap.size + 1, 4, none⟩ e).setCell ⟨w0.heap.size + 1, 5, none⟩ f).heap[w0.heap.size + 1]? = some (.cells #[a, b, c, d, e, f] 28) ∧ RdAt ((((((w.setCell ⟨w0.heap.size + 1, 0, none⟩ a).setCell ⟨w0.heap.size + 1, 1, none⟩ b).setCell ⟨w0.heap.size + 1, 2, none⟩ c).setCell ⟨w0.heap.size + 1, 3, none⟩ d).setCell ⟨w0.heap.size + 1, 4, none⟩ e).setCell ⟨w0.heap.size + 1, 5, none⟩ f) B g r ∧ FrG g w0 ((((((w.setCell ⟨w0.heap.size + 1, 0, none⟩ a).setCell ⟨w0.heap.size + 1, 1, none⟩ b).setCell ⟨w0.heap.size + 1, 2, none⟩ c).setCell ⟨w0.heap.size + 1, 3, none⟩ d).setCell ⟨w0.heap.size + 1, 4, none⟩ e).setCell ⟨w0.heap.size + 1, 5, none⟩ f) ∧ ∀ k, k ≠ w0.heap.size + 1 → ((((((w.setCell ⟨w0.heap.size + 1, 0, none⟩ a).setCell ⟨w0.heap.size + 1, 1, none⟩ b).setCell ⟨w0.heap.size + 1, 2, none⟩ c).setCell ⟨w0.heap.size + 1, 3, none⟩ d).setCell ⟨w0.heap.size + 1, 4, none⟩ e).setCell ⟨w0.heap.size + 1, 5, none⟩ f).heap[k]? = w.heap[k]? := by
  have hg := h.gl
  have hB := h.rd.ge
  have b0 := heap_setCell_same w _ 0 _ _ a h.br
  have b1 := heap_setCell_same _ _ 1 _ _ b b0
  have b2 := heap_setCell_same _ _ 2 _ _ c b1
  have b3 := heap_setCell_same _ _ 3 _ _ d b2
  have b4 := heap_setCell_same _ _ 4 _ _ e b3
  have b5 := heap_setCell_same _ _ 5 _ _ f b4
  refine ⟨b5, (((((h.rd.set (by omega) (by omega) _).set (by omega) (by omega) _).set (by omega) (by omega) _).set (by omega) (by omega) _).set (by omega) (by omega) _).set (by omega) (by omega) _, (((((h.fr.set (by omega) _).set (by omega) _).set (by omega) _).set (by omega) _).set (by omega) _).set (by omega) _, fun k hk => ?_⟩
  iterate 6 rw [heap_setCell_other _ _ _ _ (by simpa using hk)]
/-- An image whose memory is all from B on. -/
def ImgNew (w : World) (B : Nat) (vT vF vB vD vL : Value) (m : Img) : Prop := ∀ w2 : World, (∀ k, B ≤ k → k < w.heap.size → w2.heap[k]? = w.heap[k]?) → ImgAt w2 vT vF vB vD vL m
theorem ImgNew.img {w : World} {B : Nat} {vT vF vB vD vL : Value} {m : Img} (h : ImgNew w B vT vF vB vD vL m) : ImgAt w vT vF vB vD vL m := h w fun _ _ _ => rfl
theorem ImgNew.on {w w' : World} {B B' : Nat} {vT vF vB vD vL : Value} {m : Img} (h : ImgNew w B vT vF vB vD vL m) (hs : w.heap.size ≤ w'.heap.size) (hk : ∀ k, B ≤ k → k < w.heap.size → w'.heap[k]? = w.heap[k]?) (hB : B' ≤ B) : ImgNew w' B' vT vF vB vD vL m :=
  fun w2 h2 => h w2 fun k k1 k2 => (h2 k (by omega) (by omega)).trans (hk k k1 k2)
end Go.Proofs.Ytmibbjjfijcgpac
