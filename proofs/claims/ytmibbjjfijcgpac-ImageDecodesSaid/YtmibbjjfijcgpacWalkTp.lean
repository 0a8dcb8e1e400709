/-
  boltholeref's tape: next and num.
-/
import Derived.Test.YtmibbjjfijcgpacPureDec
import Derived.Test.YtmibbjjfijcgpacRowKit2
import Derived.Lib.AppendZeros
import Derived.Deep.AppendSrc
namespace Go.Proofs.Ytmibbjjfijcgpac
open Go.RowKit Go.Joins
/-- The tape, in its box; its bytes lie below B; what is left of it. -/
structure TpAt (w : World) (B g : Nat) (bs : List Int) (r : Rd) : Prop where
  box : ∃ (bb oo c p : Nat), w.heap[g]? = some (.cells #[.slice (some ⟨bb, oo, none⟩) bs.length c, .int .i64 (p : Int), .bool r.short] 59) ∧ ListAt w ucell 1 (.slice (some ⟨bb, oo, none⟩) bs.length c) bs ∧ bb < B ∧ bs.length ≤ c ∧ c ≤ maxLen ∧ p ≤ bs.length ∧ (r.short = false → r.left = bs.drop p)
  shut : r.short = true → r.left = []
  bytes : ∀ x ∈ bs, 0 ≤ x ∧ x ≤ 255
  ge : B ≤ g
  len : bs.length ≤ 100000
theorem TpAt.lt {w : World} {B g : Nat} {bs : List Int} {r : Rd} (h : TpAt w B g bs r) : g < w.heap.size := by obtain ⟨_, _, _, _, h1, _⟩ := h.box; exact (Array.getElem?_eq_some_iff.1 h1).1
theorem TpAt.byt {w : World} {B g : Nat} {bs : List Int} {r : Rd} (h : TpAt w B g bs r) : r.byt := by
  obtain ⟨_, _, _, p, _, _, _, _, _, _, h7⟩ := h.box
  cases hs : r.short
  · intro x hx; rw [h7 hs] at hx; exact h.bytes x (List.mem_of_mem_drop hx)
  · intro x hx; rw [h.shut hs] at hx; cases hx
theorem ListAt.same {α : Type} {w w' : World} {cells : α → List Value} {sz : Nat} {v : Value} {xs : List α} (hl : ListAt w cells sz v xs) (hs : w.heap.size ≤ w'.heap.size) (hk : ∀ bb oo n c, v = .slice (some ⟨bb, oo, none⟩) n c → bb < w.heap.size → w'.heap[bb]? = w.heap[bb]? ∨ n = 0) : ListAt w' cells sz v xs := by
  rcases hl with q | ⟨bb, oo, cap, rfl, h1, h2, h3, h4⟩
  · exact Or.inl q
  · rcases hk bb oo _ _ rfl h3 with hb | h0
    · exact Or.inr ⟨bb, oo, cap, rfl, h1, h2, by omega, fun j x hj o u hu => (World.cell?_of_block (a := ⟨bb, _, none⟩) hb).trans (h4 j x hj o u hu)⟩
    · exact Or.inl ⟨_, _, by rw [h0], List.length_eq_zero_iff.1 h0⟩
/-- The tape stays where other blocks change. -/
theorem TpAt.same {w w' : World} {B g : Nat} {bs : List Int} {r : Rd} (h : TpAt w B g bs r) (hs : w.heap.size ≤ w'.heap.size) (hk : ∀ k, k < B ∨ k = g → k < w.heap.size → w'.heap[k]? = w.heap[k]?) : TpAt w' B g bs r := by
  have hg := h.lt
  obtain ⟨⟨bb, oo, c, p, h1, h2, h3, h4⟩, h5, h6, h7, h8⟩ := h
  exact ⟨⟨bb, oo, c, p, (hk g (Or.inr rfl) hg).trans h1, h2.same hs (fun b2 o2 n2 c2 he hb => by cases he; exact Or.inl (hk bb (Or.inl h3) hb)), h3, h4⟩, h5, h6, h7, h8⟩
theorem TpAt.up {w w' : World} {B g : Nat} {bs : List Int} {r : Rd} (h : TpAt w B g bs r) (hb : Below w.heap.size w w') : TpAt w' B g bs r := h.same hb.size fun k _ hk => hb.block k hk
theorem FrG.up {g : Nat} {w w1 w2 : World} (h : FrG g w w1) (hb : Below w1.heap.size w1 w2) : FrG g w w2 :=
  ⟨hb.os.trans h.os, hb.tape.trans h.tape, hb.output.trans h.output, Nat.le_trans h.size hb.size, fun k hk hg => (hb.block k (Nat.lt_of_lt_of_le hk h.size)).trans (h.block k hk hg)⟩
/-- append(nil, v...): the bytes of a list, in new memory. -/
theorem tp_app (w : World) (v : Value) (ns : List Int) (hT : ListAt w ucell 1 v ns) (h47 : ns.length ≤ 140737488351232) (ty : TypeId) :
    ∃ a n c W, (Builtin.append_ #[22, 22] ty #[.slice none 0 0, v]).run Try.prog w = .ok (.slice a n c) W ∧ ListAt W ucell 1 (.slice a n c) ns ∧ Below w.heap.size w W ∧ (∀ bb oo, a = some ⟨bb, oo, none⟩ → w.heap.size ≤ bb) := by
  obtain ⟨i0, hi, hz0, hz1, hz2⟩ := info_of inByte
  have hnone : ∀ x, Src Try.prog i0.size 22 x 0 [] w → ∃ a n c W, (Builtin.append_ #[22, 22] ty #[.slice none 0 0, x]).run Try.prog w = .ok (.slice a n c) W ∧ ListAt W ucell 1 (.slice a n c) [] ∧ Below w.heap.size w W ∧ (∀ bb oo, a = some ⟨bb, oo, none⟩ → w.heap.size ≤ bb) := fun x hs =>
    ⟨none, 0, 0, w, run_append_nothing w 22 22 ty 5 i0 Try.underlying22 hi none 0 0 (Nat.le_refl _) x hs, Or.inl ⟨none, 0, rfl, rfl⟩, Below.refl _ _, fun _ _ h => by cases h⟩
  rcases hT with ⟨a, cap, rfl, rfl⟩ | ⟨bb, oo, cap, rfl, h1, h2, h3, h4⟩
  · cases a with
    | none => exact hnone _ (Src.ofNil w Try.underlying22 cap)
    | some a => exact hnone _ (Src.ofSlice w Try.underlying22 a 0 cap [] (by simp) (fun j u h => by simp at h) (fun _ h => by cases h))
  · have hnews : ∀ j u, (ns.map (Value.int .u8))[j]? = some u → w.cell? ((⟨bb, oo, none⟩ : Addr).add j) = some u := fun j u hj => by
      rw [List.getElem?_map, Option.map_eq_some_iff] at hj
      obtain ⟨x, hx', rfl⟩ := hj
      rw [Addr.add_lit]
      have := h4 j x hx' 0 _ rfl
      rwa [Nat.mul_one, Nat.add_zero] at this
    by_cases h0 : ns.length = 0
    · obtain rfl : ns = [] := List.length_eq_zero_iff.1 h0
      exact hnone _ (Src.ofSlice w Try.underlying22 ⟨bb, oo, none⟩ 0 cap [] (by simp) (fun j u h => by simp at h) (fun _ h => by cases h))
    · refine ⟨_, _, _, _, run_append_nil w 22 ty 5 i0 (.int .u8 0) Try.underlying22 hi hz0 ⟨bb, oo, none⟩ ns.length cap (ns.map (Value.int .u8)) (by simp [hz1]) hnews (by omega) (by omega) (by rw [hz2]; omega), ?_, ?_, ?_⟩
      · have hge := grownCap_ge w ns.length 0 5
        refine Or.inr ⟨_, 0, _, rfl, hge, grownCap_le_maxLen _ _ _ _ (by unfold maxLen; omega), by simp, fun j x hj o u hu => ?_⟩
        have hjl : j < ns.length := by
          rcases Nat.lt_or_ge j ns.length with q | q
          · exact q
          · rw [List.getElem?_eq_none q] at hj; cases hj
        have ho : o = 0 ∧ u = .int .u8 x := by
          cases o with
          | zero => simp [ucell] at hu; exact ⟨rfl, hu.symm⟩
          | succ o => simp [ucell] at hu
        obtain ⟨rfl, rfl⟩ := ho
        rw [Nat.zero_add, Nat.mul_one, Nat.add_zero]
        refine (World.cell?_alloc_new _ _ _ j).trans ?_
        rw [Array.getElem?_append_left (by simp; omega)]
        simp [hj]
      · exact (Below.refl _ _).drew.alloc (Nat.le_refl _) _
      · intro b2 o2 h; cases h; exact Nat.le_refl _
def sval (s : Int) (bs : List Int) : Int := bs.foldl (fun n b => n * 256 + b) s
def sgn (bs : List Int) : Int := if bs.length = 8 ∧ 128 ≤ bs.headD 0 then -1 else 0
theorem sval_ok (bs : List Int) (h : ∀ x ∈ bs, 0 ≤ x ∧ x ≤ 255) (hl : bs.length = 0 ∨ bs.length = 1 ∨ bs.length = 2 ∨ bs.length = 8) :
    (∀ j, j < bs.length → -36028797018963968 ≤ sval (sgn bs) (bs.take j) ∧ sval (sgn bs) (bs.take j) < 36028797018963968) ∧ sval (sgn bs) bs = toI (bval bs) := by
  match bs, hl with
  | [], _ => exact ⟨fun j hj => (by simp at hj), rfl⟩
  | [a], _ =>
    have ha := h a (by simp)
    refine ⟨fun j hj => ?_, ?_⟩
    · obtain rfl : j = 0 := by simp at hj; exact hj
      simp [sval, sgn]
    · obtain ⟨x, hx⟩ : ∃ x, bval [a] = x := ⟨_, rfl⟩
      rw [hx]
      simp only [bval, List.foldl] at hx
      have hs : sgn [a] = (0 : Int) := if_neg (fun q => absurd q.1 (by simp))
      rw [hs]
      simp only [sval, List.foldl]
      unfold toI
      split <;> omega
  | [a, b], _ =>
    have ha := h a (by simp)
    have hb := h b (by simp)
    refine ⟨fun j hj => ?_, ?_⟩
    · have : j = 0 ∨ j = 1 := by simp at hj; omega
      rcases this with rfl | rfl <;> simp [sval, sgn] <;> omega
    · obtain ⟨x, hx⟩ : ∃ x, bval [a, b] = x := ⟨_, rfl⟩
      rw [hx]
      simp only [bval, List.foldl] at hx
      have hs : sgn [a, b] = (0 : Int) := if_neg (fun q => absurd q.1 (by simp))
      rw [hs]
      simp only [sval, List.foldl]
      unfold toI
      split <;> omega
  | [a, b, c, d, e, f, g, k], _ =>
    have ha := h a (by simp); have hb := h b (by simp); have hc := h c (by simp); have hd := h d (by simp)
    have he := h e (by simp); have hf := h f (by simp); have hg := h g (by simp); have hk := h k (by simp)
    have hs : sgn [a, b, c, d, e, f, g, k] = if 128 ≤ a then -1 else 0 := by simp [sgn]
    rw [hs]
    refine ⟨fun j hj => ?_, ?_⟩
    · have : j = 0 ∨ j = 1 ∨ j = 2 ∨ j = 3 ∨ j = 4 ∨ j = 5 ∨ j = 6 ∨ j = 7 := by simp at hj; omega
      rcases this with rfl | rfl | rfl | rfl | rfl | rfl | rfl | rfl <;> split <;> simp only [sval, List.take, List.foldl] <;> omega
    · obtain ⟨x, hx⟩ : ∃ x, bval [a, b, c, d, e, f, g, k] = x := ⟨_, rfl⟩
      rw [hx]
      simp only [bval, List.foldl] at hx
      unfold toI
      split <;> split <;> simp only [sval, List.foldl] <;> omega
  | _ :: _ :: _ :: [], hl | _ :: _ :: _ :: _ :: [], hl | _ :: _ :: _ :: _ :: _ :: [], hl | _ :: _ :: _ :: _ :: _ :: _ :: [], hl | _ :: _ :: _ :: _ :: _ :: _ :: _ :: [], hl => simp at hl
  | _ :: _ :: _ :: _ :: _ :: _ :: _ :: _ :: _ :: _, hl => simp at hl
theorem take_len2 (r : Rd) (k : Nat) : (r.take k).1.length = 0 ∨ (r.take k).1.length = k := by
  unfold Rd.take
  split
  · exact Or.inl rfl
  · rename_i q
    exact Or.inr (by show (r.left.take k).length = k; rw [List.length_take]; omega)
theorem wpList_tp_make {w : World} {ops : Array Oper} {rest : List Oper} {o : Oper} {a : Act} {Q : Exit → Act → World → Prop} (hgd : o.guard = none) (l c : Operand) (ho : o.op = Op.makeSlice 22 l c) (hl : a.eval l = .int .i64 0) (hc : a.eval c = .int .i64 0)
    (h : ∀ W, Below w.heap.size w W → wpList Try.prog ops Q rest (a.put o.dst (.slice (some ⟨w.heap.size, 0, none⟩) 0 0)) W) : wpList Try.prog ops Q (o :: rest) a w := by
  obtain ⟨i, hi, hz, hs, hb⟩ := info_of inByte
  exact wpList_make_run w hgd l c _ ho _ _ hl hc (make_wide 22 5 i _ Try.underlying22 hi hz 0 (by omega) (by omega) w) (h _ ((Below.refl _ _).alloc (Nat.le_refl _) _))
set_option maxHeartbeats 2000000 in
theorem next_any (B g : Nat) (bs : List Int) (r : Rd) (n : Nat) (w : World) (h : TpAt w B g bs r) (hn : n ≤ 100000) :
    Calls Try.prog 32 #[.pointer (some ⟨g, 0, none⟩), .int .i64 n] w fun e w' => ∃ a l c, e = .returned (.slice a l c) ∧ TpAt w' B g bs (r.take n).2 ∧ ListAt w' ucell 1 (.slice a l c) (r.take n).1 ∧ (∀ bb oo, a = some ⟨bb, oo, none⟩ → w.heap.size ≤ bb) ∧ FrG g w w' := by
  have hlt := h.lt
  obtain ⟨⟨bb, oo, c, p, hbox, hlist, hbb, hc1, hc2, hp, hleft⟩, hshut, hbytes, hge, hlen⟩ := h
  have c0 : w.cell? ⟨g, 0, none⟩ = some (.slice (some ⟨bb, oo, none⟩) bs.length c) := by simp [World.cell?, hbox]
  have c1 : w.cell? ⟨g, 1, none⟩ = some (.int .i64 (p : Int)) := by simp [World.cell?, hbox]
  have c2 : w.cell? ⟨g, 2, none⟩ = some (.bool r.short) := by simp [World.cell?, hbox]
  have f1 : w.frozen? ⟨g, 1, none⟩ = false := by simp [World.frozen?, hbox]
  have f2 : w.frozen? ⟨g, 2, none⟩ = false := by simp [World.frozen?, hbox]
  unfold maxLen at hc2
  have HBX : Hid _ := hbox
  have HL : Hid _ := hlist
  have HBY : Hid _ := hbytes
  have HSH : Hid _ := hshut
  have HLF : Hid _ := hleft
  have END : Hid (∀ nq W, Below w.heap.size ((w.drewN nq).setCell ⟨g, 2, none⟩ (.bool true)) W → TpAt W B g bs ⟨[], true⟩ ∧ FrG g w W) := fun nq W hb => by
    have b2 := heap_setCell_same (w.drewN nq) g 2 _ _ (.bool true) HBX.out
    have on : Only g w ((w.drewN nq).setCell ⟨g, 2, none⟩ (.bool true)) := Only.set (w := w) (w1 := w.drewN nq) ⟨rfl, rfl, rfl, rfl, fun _ _ => rfl⟩ 2 (.bool true)
    have hz := World.size_setCell (w.drewN nq) ⟨g, 2, none⟩ (.bool true)
    have t1 : TpAt ((w.drewN nq).setCell ⟨g, 2, none⟩ (.bool true)) B g bs ⟨[], true⟩ := ⟨⟨bb, oo, c, p, b2, on.list HL.out (fun b2 o2 n2 c2 he => by cases he; exact Or.inl (by omega)), hbb, hc1, by unfold maxLen; omega, hp, fun h => (by cases h)⟩, fun _ => rfl, HBY.out, hge, hlen⟩
    have hb' : Below ((w.drewN nq).setCell ⟨g, 2, none⟩ (.bool true)).heap.size ((w.drewN nq).setCell ⟨g, 2, none⟩ (.bool true)) W := by rw [hz]; exact hb
    exact ⟨t1.up hb', on.fr.up hb'⟩
  clear hbox hlist hbytes hshut hleft
  cases hs : r.short
  rotate_left
  · have hr : Hid (r.take n = ([], ⟨[], true⟩)) := by
      show _ = _
      unfold Rd.take
      rw [HSH.out hs]
      split
      · rfl
      · rw [hs]; simp
    rw [hs] at c2
    clear hs
    go_enter Try.func32, Try.ntmps32
    go_wp2_with fail
    go_quiet (fail)
    go_wp2_with (first | (at_make; refine wpList_tp_make rfl _ _ rfl rfl rfl ?_; intro W hbm))
    go_ret
    rw [hr.out]
    rw [World.size_setCell] at hbm
    obtain ⟨e1, e2⟩ := END.out _ W hbm
    exact ⟨_, _, _, rfl, e1, Or.inl ⟨_, _, rfl, rfl⟩, fun _ _ h => (by cases h; exact Nat.le_refl _), e2⟩
  · rw [hs] at c2
    by_cases q : bs.length < p + n
    · have hr : Hid (r.take n = ([], ⟨[], true⟩)) := by
        show _ = _
        unfold Rd.take
        rw [if_pos (by rw [HLF.out hs, List.length_drop]; omega)]
      have qi : (bs.length : Int) < (p : Int) + (n : Int) := by omega
      clear hs
      go_enter Try.func32, Try.ntmps32
      go_wp2_with fail
      go_quiet (fail)
      go_wp2_with (first | (at_make; refine wpList_tp_make rfl _ _ rfl rfl rfl ?_; intro W hbm))
      go_ret
      rw [hr.out]
      rw [World.size_setCell] at hbm
      obtain ⟨e1, e2⟩ := END.out _ W hbm
      exact ⟨_, _, _, rfl, e1, Or.inl ⟨_, _, rfl, rfl⟩, fun _ _ h => (by cases h; exact Nat.le_refl _), e2⟩
    · have hr : Hid (r.take n = ((bs.drop p).take n, ⟨bs.drop (p + n), false⟩)) := by
        show _ = _
        unfold Rd.take
        rw [HLF.out hs, if_neg (by rw [List.length_drop]; omega), List.drop_drop, hs]
      have qi : ¬ (bs.length : Int) < (p : Int) + (n : Int) := by omega
      go_enter Try.func32, Try.ntmps32
      go_wp2_with fail
      go_quiet (fail)
      go_wp2_with fail
      have on : Only g w ((w.drewN nq).setCell ⟨g, 1, none⟩ (.int .i64 ((p : Int) + (n : Int)))) := Only.set (w := w) (w1 := w.drewN nq) ⟨rfl, rfl, rfl, rfl, fun _ _ => rfl⟩ 1 _
      have b1 := heap_setCell_same (w.drewN nq) g 1 _ _ (.int .i64 ((p : Int) + (n : Int))) HBX.out
      generalize (w.drewN nq).setCell ⟨g, 1, none⟩ (.int .i64 ((p : Int) + (n : Int))) = W1 at *
      have l1 := on.list HL.out (fun b2 o2 n2 c2 he => by cases he; exact Or.inl (by omega))
      have t1 : TpAt W1 B g bs ⟨bs.drop (p + n), false⟩ := ⟨⟨bb, oo, c, p + n, by rw [b1, hs]; simp, l1, hbb, hc1, by unfold maxLen; omega, by omega, fun _ => rfl⟩, fun h => (by cases h), HBY.out, hge, hlen⟩
      have d0 : W1.cell? ⟨g, 0, none⟩ = some (.slice (some ⟨bb, oo, none⟩) bs.length c) := by simp [World.cell?, b1]
      have d1 : W1.cell? ⟨g, 1, none⟩ = some (.int .i64 ((p : Int) + (n : Int))) := by simp [World.cell?, b1]
      have SL : Hid (∀ o' c', (n = 0 ∨ (o' = oo + p ∧ c' = c - p)) → ListAt W1 ucell 1 (.slice (some ⟨bb, o', none⟩) n c') ((bs.drop p).take n)) := fun o' c' ho => by
        rcases Nat.eq_zero_or_pos n with rfl | hn0
        · exact Or.inl ⟨_, _, rfl, by simp⟩
        · obtain ⟨rfl, rfl⟩ := ho.resolve_left (by omega)
          obtain ⟨u1, _⟩ := l1.cut (n := p) (by omega) (by omega)
          have hdl : (bs.drop p).length = bs.length - p := List.length_drop
          rw [← hdl] at u1
          exact (u1.cut (n := n) (by omega) (by omega)).2
      have FIN : Hid (∀ a2 n2 c2 W, ListAt W ucell 1 (.slice a2 n2 c2) ((bs.drop p).take n) → Below W1.heap.size W1.drew W → (∀ b2 o2, a2 = some ⟨b2, o2, none⟩ → W1.heap.size ≤ b2) → ∃ a l c', Ending.returned (.slice a2 n2 c2) = .returned (.slice a l c') ∧ TpAt W B g bs (r.take n).2 ∧ ListAt W ucell 1 (.slice a l c') (r.take n).1 ∧ (∀ bb oo, a = some ⟨bb, oo, none⟩ → w.heap.size ≤ bb) ∧ FrG g w W) := fun a2 n2 c2 W h1 h2 h3 => by
        have hb2 : Below W1.heap.size W1 W := ⟨h2.os, h2.tape, h2.output, h2.size, h2.block⟩
        rw [hr.out]
        exact ⟨_, _, _, rfl, t1.up hb2, h1, fun b2 o2 he => by rw [← on.size]; exact h3 b2 o2 he, on.fr.up hb2⟩
      obtain ⟨q2, hq2⟩ : ∃ q2 : Nat, q2 = p + n := ⟨_, rfl⟩
      have d1' : W1.cell? ⟨g, 1, none⟩ = some (.int .i64 (q2 : Int)) := by rw [d1, hq2]; simp
      have e1 : IntKind.i64.wrap ((q2 : Int) - (n : Int)) = (p : Int) := by rw [IntKind.wrap_i64]; omega
      have e2 : (p : Int) ≤ (q2 : Int) := by omega
      have e3 : (q2 : Int) ≤ (c : Int) := by omega
      have e4 : q2 - p = n := by omega
      have E4 : Hid _ := e4
      clear on b1 t1 l1 c0 c1 c2 f1 f2 hs hr HLF END HSH HBY HL HBX d1 e4 hq2
      by_cases hcp : c = p
      · have hn0 : n = 0 := by omega
        obtain ⟨a2, n2, c2, W, hr2, x1, x2, x3⟩ := tp_app W1.drew (.slice (some ⟨bb, oo, none⟩) (q2 - p) (c - p)) _ (by rw [E4.out]; exact SL.out _ _ (Or.inl hn0)) (by rw [List.length_take]; omega) 22
        have HR : Hid _ := hr2
        have HF := FIN.out a2 n2 c2 W x1 x2 x3
        clear hr2 x1 x2 x3 FIN SL hn0
        subst hcp
        go_region_law (refine step_append_two rfl (.const (.slice none 0 0)) (.tmp 50) 22 22 rfl _ _ rfl rfl HR.out ?_)
        all_goals
          go_wp2
          go_ret
          exact HF
      · obtain ⟨a2, n2, c2, W, hr2, x1, x2, x3⟩ := tp_app W1.drew (.slice (some ⟨bb, oo + p, none⟩) (q2 - p) (c - p)) _ (by rw [E4.out]; exact SL.out _ _ (Or.inr ⟨rfl, rfl⟩)) (by rw [List.length_take]; omega) 22
        have HR : Hid _ := hr2
        have HF := FIN.out a2 n2 c2 W x1 x2 x3
        clear hr2 x1 x2 x3 FIN SL
        go_region_law (refine step_append_two rfl (.const (.slice none 0 0)) (.tmp 50) 22 22 rfl _ _ rfl rfl HR.out ?_)
        all_goals
          go_wp2
          go_ret
          exact HF
end Go.Proofs.Ytmibbjjfijcgpac
