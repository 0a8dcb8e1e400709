/-
  image's reader of bytes: take and number.
-/
import Derived.Test.YtechpdfcgimkkaaDoorMCC
import Derived.Laws.Bits64b
namespace Go.Proofs.YtechpdfcgimkkaaDoor
open Go.RowKit Go.Joins
/-- The bytes that are left; whether more were asked for than there were. -/
structure Rd where
  left : List Int
  short : Bool
def Rd.take (r : Rd) (n : Nat) : List Int × Rd := if r.left.length < n then ([], ⟨[], true⟩) else (r.left.take n, ⟨r.left.drop n, r.short⟩)
def bval (bs : List Int) : Int := bs.foldl (fun n b => n * 256 + b) 0
def toI (x : Int) : Int := if x < 9223372036854775808 then x else x - 18446744073709551616
def Rd.num (r : Rd) (n : Nat) : Int × Rd := (toI (bval (r.take n).1), (r.take n).2)
/-- Only the block g has changed. -/
structure Only (g : Nat) (w w' : World) : Prop where
  os : w'.os = w.os
  tape : w'.tape = w.tape
  output : w'.output = w.output
  size : w'.heap.size = w.heap.size
  block : ∀ k, k ≠ g → w'.heap[k]? = w.heap[k]?
theorem Only.refl (g : Nat) (w : World) : Only g w w := ⟨rfl, rfl, rfl, rfl, fun _ _ => rfl⟩
theorem Only.trans {g : Nat} {w w1 w2 : World} (h1 : Only g w w1) (h2 : Only g w1 w2) : Only g w w2 :=
  ⟨h2.os.trans h1.os, h2.tape.trans h1.tape, h2.output.trans h1.output, h2.size.trans h1.size, fun k hk => (h2.block k hk).trans (h1.block k hk)⟩
theorem Only.set {g : Nat} {w w1 : World} (h : Only g w w1) (o : Nat) (u : Value) : Only g w (w1.setCell ⟨g, o, none⟩ u) :=
  ⟨h.os, h.tape, h.output, by rw [World.size_setCell]; exact h.size, fun k hk => (heap_setCell_other _ _ _ _ (by simpa using hk)).trans (h.block k hk)⟩
theorem Only.list {α : Type} {g : Nat} {w w' : World} {cells : α → List Value} {sz : Nat} {v : Value} {xs : List α} (h : Only g w w') (hl : ListAt w cells sz v xs) (hg : ∀ bb oo n c, v = .slice (some ⟨bb, oo, none⟩) n c → bb ≠ g ∨ n = 0) : ListAt w' cells sz v xs := by
  rcases hl with q | ⟨bb, oo, cap, rfl, h1, h2, h3, h4⟩
  · exact Or.inl q
  · rcases hg bb oo _ _ rfl with hb | h0
    · exact Or.inr ⟨bb, oo, cap, rfl, h1, h2, by rw [h.size]; exact h3, fun j x hj o u hu => (World.cell?_of_block (a := ⟨bb, _, none⟩) (h.block bb hb)).trans (h4 j x hj o u hu)⟩
    · exact Or.inl ⟨_, _, by rw [h0], List.length_eq_zero_iff.1 h0⟩
/-- The reader, in its box; its bytes lie below B. -/
structure RdAt (w : World) (B g : Nat) (r : Rd) : Prop where
  box : ∃ a c, w.heap[g]? = some (.cells #[.slice a r.left.length c, .bool r.short] 84) ∧ ListAt w ucell 1 (.slice a r.left.length c) r.left ∧ (0 < r.left.length → ∃ bb oo, a = some ⟨bb, oo, none⟩ ∧ bb < B)
  bytes : ∀ x ∈ r.left, 0 ≤ x ∧ x ≤ 255
  ge : B ≤ g
theorem ListAt.cut {w : World} {bb oo cap n : Nat} {xs : List Int} (h : ListAt w ucell 1 (.slice (some ⟨bb, oo, none⟩) xs.length cap) xs) (hn : n ≤ xs.length) (h0 : 0 < xs.length) :
    ListAt w ucell 1 (.slice (some ⟨bb, oo + n, none⟩) (xs.length - n) (cap - n)) (xs.drop n) ∧ ListAt w ucell 1 (.slice (some ⟨bb, oo, none⟩) n cap) (xs.take n) := by
  rcases h with ⟨_, _, hv, rfl⟩ | ⟨b2, o2, c2, hv, h1, h2, h3, h4⟩
  · simp at h0
  cases hv
  constructor
  · rcases Nat.eq_zero_or_pos (xs.length - n) with q | q
    · exact Or.inl ⟨_, _, by rw [q], List.drop_of_length_le (by omega)⟩
    · refine Or.inr ⟨bb, oo + n, cap - n, by rw [List.length_drop], by rw [List.length_drop]; omega, by omega, h3, fun j x hj o u hu => ?_⟩
      rw [List.getElem?_drop] at hj
      have := h4 (n + j) x hj o u hu
      rw [show oo + n + j * 1 + o = oo + (n + j) * 1 + o by omega]
      exact this
  · rcases Nat.eq_zero_or_pos n with rfl | q
    · exact Or.inl ⟨_, _, rfl, by simp⟩
    · refine Or.inr ⟨bb, oo, cap, by rw [List.length_take]; congr 1; omega, by rw [List.length_take]; omega, h2, h3, fun j x hj => h4 j x ?_⟩
      rw [List.getElem?_take] at hj
      split at hj
      · exact hj
      · cases hj
set_option maxHeartbeats 1000000 in
theorem take_any (B g : Nat) (r : Rd) (n : Nat) (w : World) (h : RdAt w B g r) (hn : n ≤ 100000) :
    Calls Tryd.prog 75 #[.pointer (some ⟨g, 0, none⟩), .int .i64 n] w fun e w' => ∃ v, e = .returned v ∧ RdAt w' B g (r.take n).2 ∧ ListAt w' ucell 1 v (r.take n).1 ∧ (∀ bb oo l c, v = .slice (some ⟨bb, oo, none⟩) l c → bb < B ∨ l = 0) ∧ Only g w w' := by
  obtain ⟨⟨a, c, hbox, hlist, hblk⟩, hbytes, hge⟩ := h
  have c0 : w.cell? ⟨g, 0, none⟩ = some (.slice a r.left.length c) := by simp [World.cell?, hbox]
  have c1 : w.cell? ⟨g, 1, none⟩ = some (.bool r.short) := by simp [World.cell?, hbox]
  have f0 : w.frozen? ⟨g, 0, none⟩ = false := by simp [World.frozen?, hbox]
  have f1 : w.frozen? ⟨g, 1, none⟩ = false := by simp [World.frozen?, hbox]
  obtain ⟨_, _, hv, hlen⟩ := hlist.form
  unfold maxLen at hlen
  have hlc : r.left.length ≤ c ∧ c ≤ 9223372036854775807 ∨ r.left.length = 0 := by
    rcases hlist with ⟨_, _, hv, h0⟩ | ⟨_, _, _, hv, h1, h2, _⟩
    · exact Or.inr (by rw [h0]; rfl)
    · cases hv; unfold maxLen at h2; exact Or.inl ⟨h1, by omega⟩
  have HBX : Hid _ := hbox
  have HL : Hid (ListAt w ucell 1 (.slice a r.left.length c) r.left) := hlist
  have HBK : Hid _ := hblk
  have HBY : Hid _ := hbytes
  clear hbox hlist hblk hbytes hv
  by_cases q : (r.left.length : Int) < n
  · have hr : Hid (r.take n = ([], ⟨[], true⟩)) := by show _ = _; unfold Rd.take; rw [if_pos (by omega)]
    go_enter Tryd.func75, Tryd.ntmps75
    go_wp2
    go_ret
    rw [hr.out]
    have b1 := heap_setCell_same w g 0 _ _ (.slice none 0 0) HBX.out
    have b2 := heap_setCell_same _ g 1 _ _ (.bool true) b1
    have hrd : RdAt ((w.setCell ⟨g, 0, none⟩ (.slice none 0 0)).setCell ⟨g, 1, none⟩ (.bool true)) B g ⟨[], true⟩ := ⟨⟨none, 0, b2, Or.inl ⟨_, _, rfl, rfl⟩, fun h => (by simp at h)⟩, fun x hx => (by simp at hx), hge⟩
    exact ⟨_, rfl, hrd, Or.inl ⟨_, _, rfl, rfl⟩, fun _ _ _ _ h => (by simp at h), ((Only.refl g w).set 0 _).set 1 _⟩
  · have hr : Hid (r.take n = (r.left.take n, ⟨r.left.drop n, r.short⟩)) := by show _ = _; unfold Rd.take; rw [if_neg (by omega)]
    by_cases h0 : r.left.length = 0
    · have hn0 : n = 0 := by omega
      subst hn0
      have he : r.left = [] := List.length_eq_zero_iff.1 h0
      have END : Hid (∀ (a' : Option Addr) (c' : Nat) (v : Value), v = .slice a' 0 c' → RdAt (w.setCell ⟨g, 0, none⟩ v) B g ⟨r.left.drop 0, r.short⟩) := fun a' c' v hv => by
        subst hv
        have b1 := heap_setCell_same w g 0 _ _ (.slice a' 0 c') HBX.out
        exact ⟨⟨a', c', by rw [List.drop_zero, h0]; exact b1, Or.inl ⟨_, _, by rw [List.drop_zero, h0], by rw [List.drop_zero, he]⟩, fun h => (by simp [he] at h)⟩, fun x hx => (by rw [List.drop_zero, he] at hx; cases hx), hge⟩
      have HE : Hid (r.left.take 0 = []) := by show _ = _; simp
      cases a with
      | none =>
        go_enter Tryd.func75, Tryd.ntmps75
        go_wp2
        all_goals go_ret
        all_goals rw [hr.out]
        all_goals exact ⟨_, rfl, END.out _ _ _ rfl, Or.inl ⟨_, _, rfl, HE.out⟩, fun _ _ _ _ h => (by cases h), (Only.refl g w).set 0 _⟩
      | some a =>
        go_enter Tryd.func75, Tryd.ntmps75
        go_wp2
        all_goals go_ret
        all_goals rw [hr.out]
        all_goals exact ⟨_, rfl, END.out _ _ _ rfl, Or.inl ⟨_, _, rfl, HE.out⟩, fun _ _ _ _ h => (by cases h; exact Or.inr rfl), (Only.refl g w).set 0 _⟩
    · obtain ⟨bb, oo, rfl, hbb⟩ := HBK.out (by omega)
      have hlc2 := hlc.resolve_right h0
      obtain ⟨k1, k2⟩ := hlc2
      obtain ⟨u1, u2⟩ := HL.out.cut (n := n) (by omega) (by omega)
      have END : Hid (∀ (o' c' : Nat) (v : Value), v = .slice (some ⟨bb, o', none⟩) (r.left.length - n) c' → ListAt w ucell 1 v (r.left.drop n) → RdAt (w.setCell ⟨g, 0, none⟩ v) B g ⟨r.left.drop n, r.short⟩) := fun o' c' v hv hl => by
        have b1 := heap_setCell_same w g 0 _ _ v HBX.out
        have hl2 := ((Only.refl g w).set 0 v).list hl (fun b2 o2 n2 c2 he => by rw [hv] at he; cases he; exact Or.inl (by omega))
        subst hv
        exact ⟨⟨some ⟨bb, o', none⟩, c', by rw [List.length_drop]; exact b1, by rw [List.length_drop]; exact hl2, fun _ => ⟨bb, o', rfl, hbb⟩⟩, fun x hx => HBY.out x (List.mem_of_mem_drop hx), hge⟩
      have TK : Hid (∀ v, ListAt (w.setCell ⟨g, 0, none⟩ v) ucell 1 (.slice (some ⟨bb, oo, none⟩) n c) (r.left.take n)) := fun v => ((Only.refl g w).set 0 v).list u2 (fun b2 o2 n2 c2 he => by cases he; exact Or.inl (by omega))
      have U1 : Hid _ := u1
      clear u1 u2
      by_cases hc : c = n
      · have hln : r.left.length = n := by omega
        have hd : r.left.drop n = [] := List.drop_of_length_le (by omega)
        have HD : Hid (∀ (a' : Option Addr) (l' c' : Nat), l' = 0 → ListAt w ucell 1 (.slice a' l' c') (r.left.drop n)) := fun a' l' c' hl => Or.inl ⟨a', c', by rw [hl], hd⟩
        have hz : r.left.length - n = 0 := by omega
        have HZ : Hid (r.left.length - n = 0) := hz
        subst hc
        clear hd
        go_enter Tryd.func75, Tryd.ntmps75
        go_wp2
        all_goals go_ret
        all_goals rw [hr.out]
        all_goals exact ⟨_, rfl, END.out oo 0 _ (by rw [HZ.out]) (HD.out _ _ _ (by omega)), TK.out _, fun _ _ _ _ h => (by cases h; exact Or.inl hbb), (Only.refl g w).set 0 _⟩
      · go_enter Tryd.func75, Tryd.ntmps75
        go_wp2
        all_goals go_ret
        all_goals rw [hr.out]
        all_goals exact ⟨_, rfl, END.out _ _ _ rfl U1.out, TK.out _, fun _ _ _ _ h => (by cases h; exact Or.inl hbb), (Only.refl g w).set 0 _⟩
end Go.Proofs.YtechpdfcgimkkaaDoor
/-
  The reader's number.
-/
namespace Go.Proofs.YtechpdfcgimkkaaDoor
open Go.RowKit Go.Joins
theorem take_len (r : Rd) (n : Nat) : (r.take n).1.length ≤ n := by
  unfold Rd.take
  split
  · simp
  · rw [List.length_take]; omega
theorem take_bytes (r : Rd) (n : Nat) (h : ∀ x ∈ r.left, 0 ≤ x ∧ x ≤ 255) : ∀ x ∈ (r.take n).1, 0 ≤ x ∧ x ≤ 255 := by
  unfold Rd.take
  split
  · intro x hx; cases hx
  · intro x hx; exact h x (List.mem_of_mem_take hx)
theorem bval_snoc (bs : List Int) (b : Int) : bval (bs ++ [b]) = bval bs * 256 + b := by unfold bval; rw [List.foldl_append]; rfl
theorem bval_next {bs : List Int} {j : Nat} {b : Int} (h : bs[j]? = some b) : bval (bs.take (j + 1)) = bval (bs.take j) * 256 + b := by rw [List.take_add_one, h]; exact bval_snoc _ _
theorem bval_bd (bs : List Int) (h : ∀ x ∈ bs, 0 ≤ x ∧ x ≤ 255) : 0 ≤ bval bs ∧ bval bs < 256 ^ bs.length := by
  obtain ⟨n, hn⟩ : ∃ n, bs.length = n := ⟨_, rfl⟩
  induction n generalizing bs with
  | zero => obtain rfl := List.length_eq_zero_iff.1 hn; exact ⟨by decide, by decide⟩
  | succ n ih =>
    have hne : bs ≠ [] := by rintro rfl; simp at hn
    obtain ⟨cs, b, rfl⟩ : ∃ cs b, bs = cs ++ [b] := ⟨bs.dropLast, bs.getLast hne, (List.dropLast_concat_getLast hne).symm⟩
    have hc : cs.length = n := by simp at hn; exact hn
    obtain ⟨h1, h2⟩ := ih cs (fun x hx => h x (by simp [hx])) hc
    obtain ⟨b1, b2⟩ := h b (by simp)
    rw [bval_snoc, List.length_append, hc]
    rw [hc] at h2
    have e : (256 : Int) ^ (n + [b].length) = 256 ^ n * 256 := by simp [Int.pow_succ]
    rw [e]
    constructor <;> omega
theorem bval_64 (bs : List Int) (h : ∀ x ∈ bs, 0 ≤ x ∧ x ≤ 255) (k : Nat) (hk : bs.length ≤ k) : bval bs < 256 ^ k := by
  obtain ⟨_, h2⟩ := bval_bd bs h
  have h3 : 256 ^ bs.length ≤ 256 ^ k := Nat.pow_le_pow_right (by decide) hk
  have h4 : ((256 : Nat) : Int) ^ bs.length ≤ ((256 : Nat) : Int) ^ k := by rw [← Int.natCast_pow, ← Int.natCast_pow]; exact Int.ofNat_le.2 h3
  exact Int.lt_of_lt_of_le h2 h4
theorem or_byte (x b : Int) (h0 : 0 ≤ x) (h1 : x < 72057594037927936) (h2 : 0 ≤ b) (h3 : b ≤ 255) : bits .or .u64 (x * 256) b = x * 256 + b := by
  obtain ⟨a, rfl⟩ := Int.eq_ofNat_of_zero_le h0
  obtain ⟨c, rfl⟩ := Int.eq_ofNat_of_zero_le h2
  have e : ((a : Int) * 256) = ((a * 256 : Nat) : Int) := by simp
  rw [e, bits_or_u64_nat (a * 256) c (by omega) (by omega)]
  have h := Nat.shiftLeft_add_eq_or_of_lt (i := 8) (b := c) (by omega) a
  rw [Nat.shiftLeft_eq] at h
  rw [← h]
  simp
set_option maxHeartbeats 1000000 in
theorem inumber_any (B g : Nat) (r : Rd) (k : Nat) (w : World) (h : RdAt w B g r) (hk : k ≤ 8) :
    Calls Tryd.prog 76 #[.pointer (some ⟨g, 0, none⟩), .int .i64 k] w fun e w' => e = .returned (.int .i64 (r.num k).1) ∧ RdAt w' B g (r.num k).2 ∧ Only g w w' := by
  have HR : Hid (RdAt w B g r) := h
  have hby := take_bytes r k h.bytes
  have hle := take_len r k
  clear h
  go_enter Tryd.func76, Tryd.ntmps76
  go_wp2_with fail
  refine (take_any B g r k w HR.out (by omega)).mono ?_
  rintro e w1 ⟨v, rfl, hrd, hl, _, honly⟩
  obtain ⟨bs, hbs⟩ : ∃ bs, (r.take k).1 = bs := ⟨_, rfl⟩
  have hnum : (r.num k).1 = toI (bval bs) := by unfold Rd.num; rw [hbs]
  have HRD : Hid (RdAt w1 B g (r.num k).2) := hrd
  rw [hbs] at hl hby hle
  obtain ⟨aa, cp, rfl, hlen⟩ := hl.form
  have HL : Hid (ListAt w1 ucell 1 (.slice aa bs.length cp) bs) := hl
  have HBY : Hid _ := hby
  have HNUM : Hid _ := hnum
  have HON : Hid _ := honly
  unfold maxLen at hlen
  clear hrd hl hby hnum hbs honly
  go_wp2_with fail
  go_loopw [5, 12] (fun n u wr => ∃ j : Nat, j ≤ bs.length ∧ u = .int .i64 (j : Int) ∧ n = .int .u64 (bval (bs.take j)) ∧ wr = w1) (fun _ u _ => (bs.length - intOf u).toNat)
  case atStart => exact ⟨0, by omega, rfl, rfl, rfl⟩
  case round =>
    obtain ⟨j, j1, rfl, rfl, rfl⟩ := hrel
    by_cases hj : j < bs.length
    · obtain ⟨y, hy⟩ : ∃ y, bs[j]? = some y := ⟨_, List.getElem?_eq_getElem (by omega)⟩
      obtain ⟨bb, oo, cap, hv, c1, c2, c3, c4⟩ := HL.out.resolve_left (by rintro ⟨_, _, _, h⟩; subst h; simp at hj)
      cases hv
      have d0 := c4 j y hy 0 (.int .u8 y) rfl
      rw [Nat.mul_one, Nat.add_zero] at d0
      obtain ⟨y1, y2⟩ := HBY.out y (List.mem_of_getElem? hy)
      obtain ⟨x1, _⟩ := bval_bd (bs.take j) (fun x hx => HBY.out x (List.mem_of_mem_take hx))
      have x2 := bval_64 (bs.take j) (fun x hx => HBY.out x (List.mem_of_mem_take hx)) 7 (by rw [List.length_take]; omega)
      have x3 : bval (bs.take j) < 72057594037927936 := x2
      have HX : Hid _ := bval_next hy
      generalize bval (bs.take j) = x at *
      have e1 := or_byte x y x1 x3 y1 y2
      have e2 : IntKind.u64.wrap (x * 256) = x * 256 := by rw [IntKind.wrap_u64]; omega
      have e3 : IntKind.u64.wrap (x * 2 ^ 8) = x * 256 := by rw [IntKind.wrap_u64]; omega
      have hjj : (j : Int) < (bs.length : Int) := by omega
      clear c4 hy x2
      go_wp2
      go_roundw
      case rel => exact ⟨j + 1, by omega, by go_num, by rw [HX.out], trivial⟩
      case measure => simp [intOf]; omega
    · have hjl : j = bs.length := by omega
      obtain ⟨x1, _⟩ := bval_bd bs HBY.out
      have x2 := bval_64 bs HBY.out 8 (by omega)
      have x3 : bval bs < 18446744073709551616 := x2
      have ht : Hid (bval (bs.take j) = bval bs) := by show _ = _; rw [hjl, List.take_length]
      have hI : Hid (wrap64 (bval bs) = toI (bval bs)) := by show _ = _; unfold wrap64 toI; split <;> omega
      clear x2
      go_wp2
      go_ret
      exact ⟨by rw [HNUM.out, ← hI.out, ← ht.out]; rfl, HRD.out, HON.out⟩
end Go.Proofs.YtechpdfcgimkkaaDoor
/-
  image.listOf at int, with the reader's two closures that take a number; the closure that takes a table.
-/
namespace Go.Proofs.YtechpdfcgimkkaaDoor
open Go.RowKit Go.Joins
/-- So many things, one behind the other. -/
def many {σ α : Type} (f : σ → α × σ) : Nat → σ → List α × σ
  | 0, r => ([], r)
  | n + 1, r => ((many f n r).1 ++ [(f (many f n r).2).1], (f (many f n r).2).2)
theorem many_len {σ α : Type} (f : σ → α × σ) (n : Nat) (r : σ) : (many f n r).1.length = n := by
  induction n with
  | zero => rfl
  | succ n ih => simp [many, ih]
theorem Only.rd {g g2 : Nat} {w w' : World} {B : Nat} {r : Rd} (h : Only g2 w w') (hr : RdAt w B g r) (hg : g ≠ g2) (hB : B ≤ g2) : RdAt w' B g r := by
  obtain ⟨⟨a, c, h1, h2, h3⟩, h4, h5⟩ := hr
  refine ⟨⟨a, c, (h.block g hg).trans h1, h.list h2 (fun bb oo n c' he => ?_), h3⟩, h4, h5⟩
  rcases Nat.eq_zero_or_pos r.left.length with q | q
  · cases he; exact Or.inr q
  · obtain ⟨b2, o2, ha, hb⟩ := h3 q
    subst ha
    cases he
    exact Or.inl (by omega)
theorem RdAt.up {w w' : World} {B g : Nat} {r : Rd} (h : RdAt w B g r) (hb : Below w.heap.size w w') : RdAt w' B g r := by
  obtain ⟨⟨a, c, h1, h2, h3⟩, h4, h5⟩ := h
  exact ⟨⟨a, c, (hb.block g (Array.getElem?_eq_some_iff.1 h1).1).trans h1, h2.stays (Nat.le_refl _) hb, h3⟩, h4, h5⟩
theorem RdAt.lt {w : World} {B g : Nat} {r : Rd} (h : RdAt w B g r) : g < w.heap.size := by obtain ⟨⟨a, c, h1, _, _⟩, _, _⟩ := h; exact (Array.getElem?_eq_some_iff.1 h1).1
theorem num2_any (B g gp : Nat) (r : Rd) (w : World) (h : RdAt w B g r) (hp : w.cell? ⟨gp, 0, none⟩ = some (.pointer (some ⟨g, 0, none⟩))) :
    Calls Tryd.prog 82 #[.pointer (some ⟨gp, 0, none⟩)] w fun e w' => e = .returned (.int .i64 (r.num 2).1) ∧ RdAt w' B g (r.num 2).2 ∧ Only g w w' := by
  have HR : Hid (RdAt w B g r) := h
  clear h
  go_enter Tryd.func82, Tryd.ntmps82
  go_wp2_with (go_at_call 76; refine (inumber_any B g r 2 w HR.out (by decide)).mono ?_; rintro e w1 ⟨rfl, hr1, ho1⟩)
  go_ret
  exact ⟨rfl, hr1, ho1⟩
theorem num8_any (B g gp : Nat) (r : Rd) (w : World) (h : RdAt w B g r) (hp : w.cell? ⟨gp, 0, none⟩ = some (.pointer (some ⟨g, 0, none⟩))) :
    Calls Tryd.prog 83 #[.pointer (some ⟨gp, 0, none⟩)] w fun e w' => e = .returned (.int .i64 (r.num 8).1) ∧ RdAt w' B g (r.num 8).2 ∧ Only g w w' := by
  have HR : Hid (RdAt w B g r) := h
  clear h
  go_enter Tryd.func83, Tryd.ntmps83
  go_wp2_with (go_at_call 76; refine (inumber_any B g r 8 w HR.out (by decide)).mono ?_; rintro e w1 ⟨rfl, hr1, ho1⟩)
  go_ret
  exact ⟨rfl, hr1, ho1⟩
/-- The row that listOf fills. -/
def liRow (xs : List Int) (n : Nat) : List Value := (xs ++ List.replicate (n - xs.length) 0).map (Value.int .i64)
theorem liRow_set (xs : List Int) (n : Nat) (x : Int) (h : xs.length < n) : (liRow xs n).toArray.setIfInBounds xs.length (.int .i64 x) = (liRow (xs ++ [x]) n).toArray := by
  apply Array.toList_inj.1
  rw [Array.toList_setIfInBounds]
  show (liRow xs n).set xs.length _ = liRow (xs ++ [x]) n
  unfold liRow
  rw [show n - xs.length = (n - (xs ++ [x]).length) + 1 by simp; omega, List.replicate_succ, List.map_append, List.map_cons, List.set_append_right _ _ (by simp)]
  simp
theorem li_made (n : Nat) : madeCells (Value.int .i64 0).cells (n * 1) = (liRow [] n).toArray := by
  apply Array.ext
  · simp [madeCells, liRow]
  · intro i h1 h2
    simp [madeCells, Value.cells, Nat.mod_one, liRow]
set_option maxHeartbeats 2000000 in
theorem listOf2_any (B g gp : Nat) (r : Rd) (n : Nat) (w : World) (h : RdAt w B g r) (hn : n ≤ 65535) (hp : w.cell? ⟨gp, 0, none⟩ = some (.pointer (some ⟨g, 0, none⟩))) (hgp : gp < w.heap.size) (hne : gp ≠ g) :
    Calls Tryd.prog 81 #[.int .i64 n, .func (.func 82) #[] #[.pointer (some ⟨gp, 0, none⟩)]] w fun e w' =>
      e = .returned (.slice (some ⟨w.heap.size, 0, none⟩) n n) ∧ RdAt w' B g (many (fun r : Rd => r.num 2) n r).2 ∧ w'.heap[w.heap.size]? = some (.cells ((many (fun r : Rd => r.num 2) n r).1.map (Value.int .i64)).toArray 3) ∧ w'.heap.size = w.heap.size + 1 ∧ Only g (w.alloc (.cells ((many (fun r : Rd => r.num 2) n r).1.map (Value.int .i64)).toArray 3)) w' := by
  obtain ⟨i, hi, hz, hs, hb⟩ := info_of inInt
  have hmk := make_wide (P := Tryd.prog) 26 3 i _ Tryd.underlying26 hi hz n (by rw [hb]; omega) (by omega) w
  rw [hs, li_made] at hmk
  have HM : Hid _ := hmk
  have HR : Hid (RdAt w B g r) := h
  have hgl := h.lt
  have HGE : Hid (B ≤ g) := h.ge
  clear hmk h
  go_enter Tryd.func81, Tryd.ntmps81
  go_wp2_with (first | (at_make; refine wpList_make_run _ rfl (.tmp 7) (.tmp 7) 26 rfl _ _ rfl rfl HM.out ?_))
  go_loopw [11] (fun u wr => ∃ j : Nat, j ≤ n ∧ u = .int .i64 (j : Int) ∧ Hid (RdAt wr B g (many (fun r : Rd => r.num 2) j r).2) ∧ Hid (wr.heap[w.heap.size]? = some (.cells (liRow (many (fun r : Rd => r.num 2) j r).1 n).toArray 3)) ∧ Hid (∀ k, k ≠ g → k ≠ w.heap.size → wr.heap[k]? = w.heap[k]?) ∧ Hid (wr.heap.size = w.heap.size + 1) ∧ Hid (wr.os = w.os ∧ wr.tape = w.tape ∧ wr.output = w.output)) (fun u _ => (n - intOf u).toNat)
  case atStart =>
    refine ⟨0, by omega, rfl, ?_, ?_, ?_, ?_, ⟨rfl, rfl, rfl⟩⟩
    · exact HR.out.up ((Below.refl _ _).alloc (Nat.le_refl _) _)
    · show (w.heap.push _)[w.heap.size]? = _; simp; rfl
    · intro k _ hk
      show (w.heap.push _)[k]? = _
      rw [Array.getElem?_push]; simp [hk]
    · show _ = _; simp
  case round =>
    obtain ⟨j, j1, rfl, hrd, hrow, hoth, hsz, hw⟩ := hrel
    by_cases hj : j < n
    · have hp2 : wr.cell? ⟨gp, 0, none⟩ = some (.pointer (some ⟨g, 0, none⟩)) := (World.cell?_of_block (a := ⟨gp, 0, none⟩) (hoth.out gp hne (by omega))).trans hp
      have hjj : (j : Int) < (n : Int) := by omega
      go_wp2_with fail
      refine (num2_any B g gp _ wr hrd.out hp2).mono ?_
      rintro e w1 ⟨rfl, hr1, ho1⟩
      have hgne : g ≠ w.heap.size := by omega
      have hrow1 := (ho1.block w.heap.size (by omega)).trans hrow.out
      have hml := many_len (fun r : Rd => r.num 2) j r
      obtain ⟨xs, hxs⟩ : ∃ xs, (many (fun r : Rd => r.num 2) j r).1 = xs := ⟨_, rfl⟩
      rw [hxs] at hml hrow1
      subst hml
      obtain ⟨x, hx⟩ : ∃ x, ((many (fun r : Rd => r.num 2) xs.length r).2.num 2).1 = x := ⟨_, rfl⟩
      have hmn : (many (fun r : Rd => r.num 2) (xs.length + 1) r).1 = xs ++ [x] := by rw [many, hxs, ← hx]
      have hmr : (many (fun r : Rd => r.num 2) (xs.length + 1) r).2 = ((many (fun r : Rd => r.num 2) xs.length r).2.num 2).2 := rfl
      have hc1 : ∃ u, w1.cell? ⟨w.heap.size, xs.length, none⟩ = some u := by
        simp only [World.cell?, hrow1, List.getElem?_toArray]
        exact ⟨_, by rw [List.getElem?_eq_getElem (by simp [liRow]; omega)]; rfl⟩
      obtain ⟨u, hu⟩ := hc1
      have hf1 : w1.frozen? ⟨w.heap.size, xs.length, none⟩ = false := by simp [World.frozen?, hrow1]
      have hset := setCell_eq_setRow w1 w.heap.size xs.length _ _ _ (.int .i64 x) hrow1
      rw [liRow_set xs n x hj] at hset
      obtain ⟨W2, hW2⟩ : ∃ W2, w1.setCell ⟨w.heap.size, xs.length, none⟩ (.int .i64 x) = W2 := ⟨_, rfl⟩
      have hon : Only w.heap.size w1 W2 := by rw [← hW2]; exact (Only.refl _ _).set _ _
      have A1 : Hid (RdAt W2 B g (many (fun r : Rd => r.num 2) (xs.length + 1) r).2) := by rw [hmr]; exact hon.rd hr1 hgne (by have := HGE.out; omega)
      have A2 : Hid (W2.heap[w.heap.size]? = some (.cells (liRow (many (fun r : Rd => r.num 2) (xs.length + 1) r).1 n).toArray 3)) := by show _ = _; rw [hmn, ← hW2, hset]; exact setRow_heap _ _ _ _ _ _ hrow1
      have A3 : Hid (∀ k, k ≠ g → k ≠ w.heap.size → W2.heap[k]? = w.heap[k]?) := fun k h1 h2 => (hon.block k h2).trans ((ho1.block k h1).trans (hoth.out k h1 h2))
      have A4 : Hid (W2.heap.size = w.heap.size + 1) := by show _ = _; rw [hon.size, ho1.size]; exact hsz.out
      have A5 : Hid (W2.os = w.os ∧ W2.tape = w.tape ∧ W2.output = w.output) := ⟨hon.os.trans (ho1.os.trans hw.out.1), hon.tape.trans (ho1.tape.trans hw.out.2.1), hon.output.trans (ho1.output.trans hw.out.2.2)⟩
      have HW : Hid _ := hW2
      rw [hx]
      clear hset hon hr1 ho1 hrow1 hmn hmr hW2 hxs hrd hrow hoth hw hp2
      go_wp2
      go_roundw
      case rel => exact ⟨xs.length + 1, by omega, by go_num, by rw [HW.out]; exact A1.out, by rw [HW.out]; exact A2.out, by rw [HW.out]; exact A3.out, by rw [HW.out]; exact A4.out, by rw [HW.out]; exact A5.out⟩
      case measure => simp [intOf]; omega
    · have hjn : j = n := by omega
      subst hjn
      have hml := many_len (fun r : Rd => r.num 2) j r
      have hrw := hrow.out
      have e : liRow (many (fun r : Rd => r.num 2) j r).1 j = (many (fun r : Rd => r.num 2) j r).1.map (Value.int .i64) := by unfold liRow; rw [hml, Nat.sub_self, List.replicate_zero, List.append_nil]
      rw [e] at hrw
      have HRW : Hid _ := hrw
      clear e hml hrw
      go_wp2
      go_ret
      refine ⟨rfl, hrd.out, HRW.out, hsz.out, ⟨hw.out.1, hw.out.2.1, hw.out.2.2, by rw [hsz.out]; simp, fun k hk => ?_⟩⟩
      show _ = (w.heap.push _)[k]?
      by_cases hkk : k = w.heap.size
      · subst hkk; rw [HRW.out]; simp
      · rw [hoth.out k hk hkk, Array.getElem?_push]; simp [hkk]
set_option maxHeartbeats 2000000 in
theorem listOf8_any (B g gp : Nat) (r : Rd) (n : Nat) (w : World) (h : RdAt w B g r) (hn : n ≤ 65535) (hp : w.cell? ⟨gp, 0, none⟩ = some (.pointer (some ⟨g, 0, none⟩))) (hgp : gp < w.heap.size) (hne : gp ≠ g) :
    Calls Tryd.prog 81 #[.int .i64 n, .func (.func 83) #[] #[.pointer (some ⟨gp, 0, none⟩)]] w fun e w' =>
      e = .returned (.slice (some ⟨w.heap.size, 0, none⟩) n n) ∧ RdAt w' B g (many (fun r : Rd => r.num 8) n r).2 ∧ w'.heap[w.heap.size]? = some (.cells ((many (fun r : Rd => r.num 8) n r).1.map (Value.int .i64)).toArray 3) ∧ w'.heap.size = w.heap.size + 1 ∧ Only g (w.alloc (.cells ((many (fun r : Rd => r.num 8) n r).1.map (Value.int .i64)).toArray 3)) w' := by
  obtain ⟨i, hi, hz, hs, hb⟩ := info_of inInt
  have hmk := make_wide (P := Tryd.prog) 26 3 i _ Tryd.underlying26 hi hz n (by rw [hb]; omega) (by omega) w
  rw [hs, li_made] at hmk
  have HM : Hid _ := hmk
  have HR : Hid (RdAt w B g r) := h
  have hgl := h.lt
  have HGE : Hid (B ≤ g) := h.ge
  clear hmk h
  go_enter Tryd.func81, Tryd.ntmps81
  go_wp2_with (first | (at_make; refine wpList_make_run _ rfl (.tmp 7) (.tmp 7) 26 rfl _ _ rfl rfl HM.out ?_))
  go_loopw [11] (fun u wr => ∃ j : Nat, j ≤ n ∧ u = .int .i64 (j : Int) ∧ Hid (RdAt wr B g (many (fun r : Rd => r.num 8) j r).2) ∧ Hid (wr.heap[w.heap.size]? = some (.cells (liRow (many (fun r : Rd => r.num 8) j r).1 n).toArray 3)) ∧ Hid (∀ k, k ≠ g → k ≠ w.heap.size → wr.heap[k]? = w.heap[k]?) ∧ Hid (wr.heap.size = w.heap.size + 1) ∧ Hid (wr.os = w.os ∧ wr.tape = w.tape ∧ wr.output = w.output)) (fun u _ => (n - intOf u).toNat)
  case atStart =>
    refine ⟨0, by omega, rfl, ?_, ?_, ?_, ?_, ⟨rfl, rfl, rfl⟩⟩
    · exact HR.out.up ((Below.refl _ _).alloc (Nat.le_refl _) _)
    · show (w.heap.push _)[w.heap.size]? = _; simp; rfl
    · intro k _ hk
      show (w.heap.push _)[k]? = _
      rw [Array.getElem?_push]; simp [hk]
    · show _ = _; simp
  case round =>
    obtain ⟨j, j1, rfl, hrd, hrow, hoth, hsz, hw⟩ := hrel
    by_cases hj : j < n
    · have hp2 : wr.cell? ⟨gp, 0, none⟩ = some (.pointer (some ⟨g, 0, none⟩)) := (World.cell?_of_block (a := ⟨gp, 0, none⟩) (hoth.out gp hne (by omega))).trans hp
      have hjj : (j : Int) < (n : Int) := by omega
      go_wp2_with fail
      refine (num8_any B g gp _ wr hrd.out hp2).mono ?_
      rintro e w1 ⟨rfl, hr1, ho1⟩
      have hgne : g ≠ w.heap.size := by omega
      have hrow1 := (ho1.block w.heap.size (by omega)).trans hrow.out
      have hml := many_len (fun r : Rd => r.num 8) j r
      obtain ⟨xs, hxs⟩ : ∃ xs, (many (fun r : Rd => r.num 8) j r).1 = xs := ⟨_, rfl⟩
      rw [hxs] at hml hrow1
      subst hml
      obtain ⟨x, hx⟩ : ∃ x, ((many (fun r : Rd => r.num 8) xs.length r).2.num 8).1 = x := ⟨_, rfl⟩
      have hmn : (many (fun r : Rd => r.num 8) (xs.length + 1) r).1 = xs ++ [x] := by rw [many, hxs, ← hx]
      have hmr : (many (fun r : Rd => r.num 8) (xs.length + 1) r).2 = ((many (fun r : Rd => r.num 8) xs.length r).2.num 8).2 := rfl
      have hc1 : ∃ u, w1.cell? ⟨w.heap.size, xs.length, none⟩ = some u := by
        simp only [World.cell?, hrow1, List.getElem?_toArray]
        exact ⟨_, by rw [List.getElem?_eq_getElem (by simp [liRow]; omega)]; rfl⟩
      obtain ⟨u, hu⟩ := hc1
      have hf1 : w1.frozen? ⟨w.heap.size, xs.length, none⟩ = false := by simp [World.frozen?, hrow1]
      have hset := setCell_eq_setRow w1 w.heap.size xs.length _ _ _ (.int .i64 x) hrow1
      rw [liRow_set xs n x hj] at hset
      obtain ⟨W2, hW2⟩ : ∃ W2, w1.setCell ⟨w.heap.size, xs.length, none⟩ (.int .i64 x) = W2 := ⟨_, rfl⟩
      have hon : Only w.heap.size w1 W2 := by rw [← hW2]; exact (Only.refl _ _).set _ _
      have A1 : Hid (RdAt W2 B g (many (fun r : Rd => r.num 8) (xs.length + 1) r).2) := by rw [hmr]; exact hon.rd hr1 hgne (by have := HGE.out; omega)
      have A2 : Hid (W2.heap[w.heap.size]? = some (.cells (liRow (many (fun r : Rd => r.num 8) (xs.length + 1) r).1 n).toArray 3)) := by show _ = _; rw [hmn, ← hW2, hset]; exact setRow_heap _ _ _ _ _ _ hrow1
      have A3 : Hid (∀ k, k ≠ g → k ≠ w.heap.size → W2.heap[k]? = w.heap[k]?) := fun k h1 h2 => (hon.block k h2).trans ((ho1.block k h1).trans (hoth.out k h1 h2))
      have A4 : Hid (W2.heap.size = w.heap.size + 1) := by show _ = _; rw [hon.size, ho1.size]; exact hsz.out
      have A5 : Hid (W2.os = w.os ∧ W2.tape = w.tape ∧ W2.output = w.output) := ⟨hon.os.trans (ho1.os.trans hw.out.1), hon.tape.trans (ho1.tape.trans hw.out.2.1), hon.output.trans (ho1.output.trans hw.out.2.2)⟩
      have HW : Hid _ := hW2
      rw [hx]
      clear hset hon hr1 ho1 hrow1 hmn hmr hW2 hxs hrd hrow hoth hw hp2
      go_wp2
      go_roundw
      case rel => exact ⟨xs.length + 1, by omega, by go_num, by rw [HW.out]; exact A1.out, by rw [HW.out]; exact A2.out, by rw [HW.out]; exact A3.out, by rw [HW.out]; exact A4.out, by rw [HW.out]; exact A5.out⟩
      case measure => simp [intOf]; omega
    · have hjn : j = n := by omega
      subst hjn
      have hml := many_len (fun r : Rd => r.num 8) j r
      have hrw := hrow.out
      have e : liRow (many (fun r : Rd => r.num 8) j r).1 j = (many (fun r : Rd => r.num 8) j r).1.map (Value.int .i64) := by unfold liRow; rw [hml, Nat.sub_self, List.replicate_zero, List.append_nil]
      rw [e] at hrw
      have HRW : Hid _ := hrw
      clear e hml hrw
      go_wp2
      go_ret
      refine ⟨rfl, hrd.out, HRW.out, hsz.out, ⟨hw.out.1, hw.out.2.1, hw.out.2.2, by rw [hsz.out]; simp, fun k hk => ?_⟩⟩
      show _ = (w.heap.push _)[k]?
      by_cases hkk : k = w.heap.size
      · subst hkk; rw [HRW.out]; simp
      · rw [hoth.out k hk hkk, Array.getElem?_push]; simp [hkk]
end Go.Proofs.YtechpdfcgimkkaaDoor
/-
  The reader's tables: its closure that takes a table, and image.listOf at []int.
-/
namespace Go.Proofs.YtechpdfcgimkkaaDoor
open Go.RowKit Go.Joins
/-- All that was there is as it was, but for the block g. -/
structure FrG (g : Nat) (w w' : World) : Prop where
  os : w'.os = w.os
  tape : w'.tape = w.tape
  output : w'.output = w.output
  size : w.heap.size ≤ w'.heap.size
  block : ∀ k, k < w.heap.size → k ≠ g → w'.heap[k]? = w.heap[k]?
theorem FrG.refl (g : Nat) (w : World) : FrG g w w := ⟨rfl, rfl, rfl, Nat.le_refl _, fun _ _ _ => rfl⟩
theorem FrG.trans {g : Nat} {w w1 w2 : World} (h1 : FrG g w w1) (h2 : FrG g w1 w2) : FrG g w w2 :=
  ⟨h2.os.trans h1.os, h2.tape.trans h1.tape, h2.output.trans h1.output, Nat.le_trans h1.size h2.size, fun k hk hg => (h2.block k (Nat.lt_of_lt_of_le hk h1.size) hg).trans (h1.block k hk hg)⟩
theorem Only.fr {g : Nat} {w w' : World} (h : Only g w w') : FrG g w w' := ⟨h.os, h.tape, h.output, Nat.le_of_eq h.size.symm, fun k _ hg => h.block k hg⟩
theorem FrG.alloc {g : Nat} {w w1 : World} (h : FrG g w w1) (o : Obj) : FrG g w (w1.alloc o) :=
  ⟨h.os, h.tape, h.output, by have := h.size; simp; omega, fun k hk hg => by
    have hlt : k < w1.heap.size := Nat.lt_of_lt_of_le hk h.size
    show (w1.heap.push _)[k]? = _
    rw [Array.getElem?_push_lt hlt, ← Array.getElem?_eq_getElem hlt]; exact h.block k hk hg⟩
theorem FrG.drew {g : Nat} {w w1 : World} (h : FrG g w w1) : FrG g w w1.drew := ⟨h.os, h.tape, h.output, h.size, h.block⟩
/-- A store into a block that was made since. -/
theorem FrG.set {g : Nat} {w w1 : World} (h : FrG g w w1) {k o : Nat} (hk : w.heap.size ≤ k) (u : Value) : FrG g w (w1.setCell ⟨k, o, none⟩ u) :=
  ⟨h.os, h.tape, h.output, by rw [World.size_setCell]; exact h.size, fun j hj hg => (heap_setCell_other _ _ _ _ (by simp; omega)).trans (h.block j hj hg)⟩
theorem FrG.cell {g : Nat} {w w' : World} (h : FrG g w w') {k o : Nat} (hk : k < w.heap.size) (hg : k ≠ g) : w'.cell? ⟨k, o, none⟩ = w.cell? ⟨k, o, none⟩ := World.cell?_of_block (a := ⟨k, o, none⟩) (h.block k hk hg)
/-- The reader stays where a new block is stored into. -/
theorem RdAt.set {w : World} {B g k o : Nat} {r : Rd} (h : RdAt w B g r) (hk : B ≤ k) (hg : k ≠ g) (u : Value) : RdAt (w.setCell ⟨k, o, none⟩ u) B g r :=
  ((Only.refl k w).set o u).rd h (fun e => hg e.symm) hk
theorem RdAt.alloc {w : World} {B g : Nat} {r : Rd} (h : RdAt w B g r) (o : Obj) : RdAt (w.alloc o) B g r := h.up ((Below.refl _ _).alloc (Nat.le_refl _) _)
theorem num_bd (r : Rd) (h : ∀ x ∈ r.left, 0 ≤ x ∧ x ≤ 255) : (0 ≤ (r.num 1).1 ∧ (r.num 1).1 ≤ 255) ∧ (0 ≤ (r.num 2).1 ∧ (r.num 2).1 ≤ 65535) := by
  have b1 := bval_bd _ (take_bytes r 1 h)
  have c1 := bval_64 _ (take_bytes r 1 h) 1 (take_len r 1)
  have b2 := bval_bd _ (take_bytes r 2 h)
  have c2 := bval_64 _ (take_bytes r 2 h) 2 (take_len r 2)
  have e1 : bval (r.take 1).1 < 256 := c1
  have e2 : bval (r.take 2).1 < 65536 := c2
  unfold Rd.num toI
  constructor
  · simp only []
    rw [if_pos (by omega)]
    omega
  · simp only []
    rw [if_pos (by omega)]
    omega
/-- A table of addresses. -/
def Rd.tab (r : Rd) : List Int × Rd := many (fun r : Rd => r.num 2) (r.num 1).1.toNat (r.num 1).2
set_option maxHeartbeats 1000000 in
theorem tab_any (B g gp : Nat) (r : Rd) (w : World) (h : RdAt w B g r) (hp : w.cell? ⟨gp, 0, none⟩ = some (.pointer (some ⟨g, 0, none⟩))) (hgp : gp < w.heap.size) (hne : gp ≠ g) :
    Calls Tryd.prog 80 #[.pointer (some ⟨gp, 0, none⟩)] w fun e w' =>
      e = .returned (.slice (some ⟨w.heap.size, 0, none⟩) r.tab.1.length r.tab.1.length) ∧ RdAt w' B g r.tab.2 ∧ w'.heap[w.heap.size]? = some (.cells (r.tab.1.map (Value.int .i64)).toArray 3) ∧ FrG g w w' := by
  have HR : Hid (RdAt w B g r) := h
  obtain ⟨⟨q1, q2⟩, _⟩ := num_bd r h.bytes
  obtain ⟨n, hn⟩ := Int.eq_ofNat_of_zero_le q1
  have hn2 : n ≤ 255 := by omega
  have hT : Hid (r.tab = many (fun r : Rd => r.num 2) n (r.num 1).2) := by show _ = _; unfold Rd.tab; rw [hn, Int.toNat_natCast]
  have hL : Hid (r.tab.1.length = n) := by show _ = _; rw [hT.out, many_len]
  have HN : Hid _ := hn
  clear h q1 q2 hn
  go_enter Tryd.func80, Tryd.ntmps80
  go_wp2_with fail
  refine (inumber_any B g r 1 w HR.out (by decide)).mono ?_
  rintro e w1 ⟨rfl, hr1, ho1⟩
  rw [HN.out]
  have hp1 : w1.cell? ⟨gp, 0, none⟩ = some (.pointer (some ⟨g, 0, none⟩)) := (World.cell?_of_block (a := ⟨gp, 0, none⟩) (ho1.block gp hne)).trans hp
  have hs1 := ho1.size
  have HR1 : Hid (RdAt w1 B g (r.num 1).2) := hr1
  have HO1 : Hid (Only g w w1) := ho1
  have HS1 : Hid (w1.heap.size = w.heap.size) := hs1
  have hgp1 : gp < w1.heap.size := by omega
  clear hr1 ho1 hs1
  go_wp2_with (go_at_call 81; refine (listOf2_any B g gp _ n w1 HR1.out (by omega) hp1 hgp1 hne).mono ?_; rintro e w2 ⟨rfl, hr2, hrow2, hsz2, ho2⟩)
  go_ret
  have hg1 : g < w.heap.size := HR.out.lt
  rw [hL.out, hT.out, ← HS1.out]
  refine ⟨rfl, hr2, hrow2, HO1.out.fr.trans (FrG.trans ((FrG.refl g w1).alloc _) ho2.fr)⟩
end Go.Proofs.YtechpdfcgimkkaaDoor
/-
  The reader's lines: its closure that takes one.
-/
namespace Go.Proofs.YtechpdfcgimkkaaDoor
open Go.RowKit Go.Joins
def Rd.line (r : Rd) : Ln × Rd := (⟨(r.num 2).1, ((r.num 2).2.num 2).1⟩, ((r.num 2).2.num 2).2)
set_option maxHeartbeats 1000000 in
theorem line_any (B g gp : Nat) (r : Rd) (w : World) (h : RdAt w B g r) (hp : w.cell? ⟨gp, 0, none⟩ = some (.pointer (some ⟨g, 0, none⟩))) (hgp : gp < w.heap.size) (hne : gp ≠ g) :
    Calls Tryd.prog 85 #[.pointer (some ⟨gp, 0, none⟩)] w fun e w' =>
      e = .returned (.agg #[.int .i64 r.line.1.a, .int .i64 r.line.1.n]) ∧ RdAt w' B g r.line.2 ∧ FrG g w w' := by
  have HR : Hid (RdAt w B g r) := h
  have hgl := h.lt
  have hge := h.ge
  clear h
  go_enter Tryd.func85, Tryd.ntmps85
  go_wp2_with fail
  refine (inumber_any B g r 2 _ (HR.out.alloc _) (by decide)).mono ?_
  rintro e w1 ⟨rfl, hr1, ho1⟩
  have hp1 : w1.cell? ⟨gp, 0, none⟩ = some (.pointer (some ⟨g, 0, none⟩)) := ((World.cell?_of_block (a := ⟨gp, 0, none⟩) (ho1.block gp hne)).trans (World.cell?_alloc_past _ _ _ hgp)).trans hp
  have hb1 : w1.heap[w.heap.size]? = some (.cells #[.int .i64 0, .int .i64 0] 43) := (ho1.block w.heap.size (by omega)).trans (by show (w.heap.push _)[w.heap.size]? = _; simp)
  have hs1 : w1.heap.size = w.heap.size + 1 := by rw [ho1.size]; simp
  have F1 : Hid (FrG g w w1) := ((FrG.refl g w).alloc _).trans ho1.fr
  obtain ⟨x, hx⟩ : ∃ x, (r.num 2).1 = x := ⟨_, rfl⟩
  have HX : Hid ((r.num 2).1 = x) := hx
  rw [hx]
  have HR1 : Hid (RdAt w1 B g (r.num 2).2) := hr1
  have HB1 : Hid _ := hb1
  have HS1 : Hid (w1.heap.size = w.heap.size + 1) := hs1
  clear hr1 ho1 hx hb1 hs1
  go_wp2_with fail
  refine (inumber_any B g _ 2 w1 HR1.out (by decide)).mono ?_
  rintro e w2 ⟨rfl, hr2, ho2⟩
  have hb2 := (ho2.block w.heap.size (by omega)).trans HB1.out
  have c0 : w2.cell? ⟨w.heap.size, 0, none⟩ = some (.int .i64 0) := by simp [World.cell?, hb2]
  have c1 : w2.cell? ⟨w.heap.size, 1, none⟩ = some (.int .i64 0) := by simp [World.cell?, hb2]
  have f0 : w2.frozen? ⟨w.heap.size, 0, none⟩ = false := by simp [World.frozen?, hb2]
  have f1 : w2.frozen? ⟨w.heap.size, 1, none⟩ = false := by simp [World.frozen?, hb2]
  obtain ⟨y, hy⟩ : ∃ y, ((r.num 2).2.num 2).1 = y := ⟨_, rfl⟩
  have HY : Hid (((r.num 2).2.num 2).1 = y) := hy
  rw [hy]
  have hgw : w.heap.size ≠ g := by omega
  have R2 : Hid (RdAt ((w2.setCell ⟨w.heap.size, 0, none⟩ (.int .i64 x)).setCell ⟨w.heap.size, 1, none⟩ (.int .i64 y)) B g r.line.2) := (hr2.set (by omega) hgw _).set (by omega) hgw _
  have F2 : Hid (FrG g w ((w2.setCell ⟨w.heap.size, 0, none⟩ (.int .i64 x)).setCell ⟨w.heap.size, 1, none⟩ (.int .i64 y))) := ((F1.out.trans ho2.fr).set (Nat.le_refl _) _).set (Nat.le_refl _) _
  have HL : Hid (r.line.1 = ⟨x, y⟩) := by show _ = _; unfold Rd.line; rw [HX.out, HY.out]
  clear hb2 hr2 ho2 hy
  go_wp2
  exact bodyPost_ret (v := .agg #[.int .i64 x, .int .i64 y]) (by simp [results, Tryd.results85, go_sem, c0, c1]) rfl ⟨by rw [HL.out], R2.out, F2.out⟩
end Go.Proofs.YtechpdfcgimkkaaDoor
