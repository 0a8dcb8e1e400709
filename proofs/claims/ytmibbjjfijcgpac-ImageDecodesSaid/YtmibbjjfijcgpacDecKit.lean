/-
  image's reader of bytes: take and number.
-/
import Derived.Test.YtmibbjjfijcgpacCopyKit
import Derived.Laws.Bits64b
namespace Go.Proofs.Ytmibbjjfijcgpac
open Go.RowKit Go.Joins
/-- The bytes that are left; whether more were asked for than there were. -/
structure Rd where
  left : List Int
  short : Bool
def Rd.take (r : Rd) (n : Nat) : List Int × Rd := if r.left.length < n then ([], ⟨[], true⟩) else (r.left.take n, ⟨r.left.drop n, r.short⟩)
def bval (bs : List Int) : Int := bs.foldl (fun n b => n * 256 + b) 0
def toI (x : Int) : Int := if x < 9223372036854775808 then x else x - 18446744073709551616
def Rd.num (r : Rd) (n : Nat) : Int × Rd := (toI (bval (r.take n).1), (r.take n).2)
/-- Only the block g has changed. -/
structure Only (g : Nat) (w w' : World) : Prop where
  os : w'.os = w.os
  tape : w'.tape = w.tape
  output : w'.output = w.output
  size : w'.heap.size = w.heap.size
  block : ∀ k, k ≠ g → w'.heap[k]? = w.heap[k]?
theorem Only.refl (g : Nat) (w : World) : Only g w w := ⟨rfl, rfl, rfl, rfl, fun _ _ => rfl⟩
theorem Only.trans {g : Nat} {w w1 w2 : World} (h1 : Only g w w1) (h2 : Only g w1 w2) : Only g w w2 :=
  ⟨h2.os.trans h1.os, h2.tape.trans h1.tape, h2.output.trans h1.output, h2.size.trans h1.size, fun k hk => (h2.block k hk).trans (h1.block k hk)⟩
theorem Only.set {g : Nat} {w w1 : World} (h : Only g w w1) (o : Nat) (u : Value) : Only g w (w1.setCell ⟨g, o, none⟩ u) :=
  ⟨h.os, h.tape, h.output, by rw [World.size_setCell]; exact h.size, fun k hk => (heap_setCell_other _ _ _ _ (by simpa using hk)).trans (h.block k hk)⟩
theorem Only.list {α : Type} {g : Nat} {w w' : World} {cells : α → List Value} {sz : Nat} {v : Value} {xs : List α} (h : Only g w w') (hl : ListAt w cells sz v xs) (hg : ∀ bb oo n c, v = .slice (some ⟨bb, oo, none⟩) n c → bb ≠ g ∨ n = 0) : ListAt w' cells sz v xs := by
  rcases hl with q | ⟨bb, oo, cap, rfl, h1, h2, h3, h4⟩
  · exact Or.inl q
  · rcases hg bb oo _ _ rfl with hb | h0
    · exact Or.inr ⟨bb, oo, cap, rfl, h1, h2, by rw [h.size]; exact h3, fun j x hj o u hu => (World.cell?_of_block (a := ⟨bb, _, none⟩) (h.block bb hb)).trans (h4 j x hj o u hu)⟩
    · exact Or.inl ⟨_, _, by rw [h0], List.length_eq_zero_iff.1 h0⟩
/-- The reader, in its box; its bytes lie below B. -/
structure RdAt (w : World) (B g : Nat) (r : Rd) : Prop where
  box : ∃ a c, w.heap[g]? = some (.cells #[.slice a r.left.length c, .bool r.short] 55) ∧ ListAt w ucell 1 (.slice a r.left.length c) r.left ∧ (0 < r.left.length → ∃ bb oo, a = some ⟨bb, oo, none⟩ ∧ bb < B)
  bytes : ∀ x ∈ r.left, 0 ≤ x ∧ x ≤ 255
  ge : B ≤ g
theorem ListAt.cut {w : World} {bb oo cap n : Nat} {xs : List Int} (h : ListAt w ucell 1 (.slice (some ⟨bb, oo, none⟩) xs.length cap) xs) (hn : n ≤ xs.length) (h0 : 0 < xs.length) :
    ListAt w ucell 1 (.slice (some ⟨bb, oo + n, none⟩) (xs.length - n) (cap - n)) (xs.drop n) ∧ ListAt w ucell 1 (.slice (some ⟨bb, oo, none⟩) n cap) (xs.take n) := by
  rcases h with ⟨_, _, hv, rfl⟩ | ⟨b2, o2, c2, hv, h1, h2, h3, h4⟩
  · simp at h0
  cases hv
  constructor
  · rcases Nat.eq_zero_or_pos (xs.length - n) with q | q
    · exact Or.inl ⟨_, _, by rw [q], List.drop_of_length_le (by omega)⟩
    · refine Or.inr ⟨bb, oo + n, cap - n, by rw [List.length_drop], by rw [List.length_drop]; omega, by omega, h3, fun j x hj o u hu => ?_⟩
      rw [List.getElem?_drop] at hj
      have := h4 (n + j) x hj o u hu
      rw [show oo + n + j * 1 + o = oo + (n + j) * 1 + o by omega]
      exact this
  · rcases Nat.eq_zero_or_pos n with rfl | q
    · exact Or.inl ⟨_, _, rfl, by simp⟩
    · refine Or.inr ⟨bb, oo, cap, by rw [List.length_take]; congr 1; omega, by rw [List.length_take]; omega, h2, h3, fun j x hj => h4 j x ?_⟩
      rw [List.getElem?_take] at hj
      split at hj
      · exact hj
      · cases hj
set_option maxHeartbeats 1000000 in
theorem take_any (B g : Nat) (r : Rd) (n : Nat) (w : World) (h : RdAt w B g r) (hn : n ≤ 100000) :
    Calls Try.prog 41 #[.pointer (some ⟨g, 0, none⟩), .int .i64 n] w fun e w' => ∃ v, e = .returned v ∧ RdAt w' B g (r.take n).2 ∧ ListAt w' ucell 1 v (r.take n).1 ∧ (∀ bb oo l c, v = .slice (some ⟨bb, oo, none⟩) l c → bb < B ∨ l = 0) ∧ Only g w w' := by
  obtain ⟨⟨a, c, hbox, hlist, hblk⟩, hbytes, hge⟩ := h
  have c0 : w.cell? ⟨g, 0, none⟩ = some (.slice a r.left.length c) := by simp [World.cell?, hbox]
  have c1 : w.cell? ⟨g, 1, none⟩ = some (.bool r.short) := by simp [World.cell?, hbox]
  have f0 : w.frozen? ⟨g, 0, none⟩ = false := by simp [World.frozen?, hbox]
  have f1 : w.frozen? ⟨g, 1, none⟩ = false := by simp [World.frozen?, hbox]
  obtain ⟨_, _, hv, hlen⟩ := hlist.form
  unfold maxLen at hlen
  have hlc : r.left.length ≤ c ∧ c ≤ 9223372036854775807 ∨ r.left.length = 0 := by
    rcases hlist with ⟨_, _, hv, h0⟩ | ⟨_, _, _, hv, h1, h2, _⟩
    · exact Or.inr (by rw [h0]; rfl)
    · cases hv; unfold maxLen at h2; exact Or.inl ⟨h1, by omega⟩
  have HBX : Hid _ := hbox
  have HL : Hid (ListAt w ucell 1 (.slice a r.left.length c) r.left) := hlist
  have HBK : Hid _ := hblk
  have HBY : Hid _ := hbytes
  clear hbox hlist hblk hbytes hv
  by_cases q : (r.left.length : Int) < n
  · have hr : Hid (r.take n = ([], ⟨[], true⟩)) := by show _ = _; unfold Rd.take; rw [if_pos (by omega)]
    go_enter Try.func41, Try.ntmps41
    go_wp2
    go_ret
    rw [hr.out]
    have b1 := heap_setCell_same w g 0 _ _ (.slice none 0 0) HBX.out
    have b2 := heap_setCell_same _ g 1 _ _ (.bool true) b1
    have hrd : RdAt ((w.setCell ⟨g, 0, none⟩ (.slice none 0 0)).setCell ⟨g, 1, none⟩ (.bool true)) B g ⟨[], true⟩ := ⟨⟨none, 0, b2, Or.inl ⟨_, _, rfl, rfl⟩, fun h => (by simp at h)⟩, fun x hx => (by simp at hx), hge⟩
    exact ⟨_, rfl, hrd, Or.inl ⟨_, _, rfl, rfl⟩, fun _ _ _ _ h => (by simp at h), ((Only.refl g w).set 0 _).set 1 _⟩
  · have hr : Hid (r.take n = (r.left.take n, ⟨r.left.drop n, r.short⟩)) := by show _ = _; unfold Rd.take; rw [if_neg (by omega)]
    by_cases h0 : r.left.length = 0
    · have hn0 : n = 0 := by omega
      subst hn0
      have he : r.left = [] := List.length_eq_zero_iff.1 h0
      have END : Hid (∀ (a' : Option Addr) (c' : Nat) (v : Value), v = .slice a' 0 c' → RdAt (w.setCell ⟨g, 0, none⟩ v) B g ⟨r.left.drop 0, r.short⟩) := fun a' c' v hv => by
        subst hv
        have b1 := heap_setCell_same w g 0 _ _ (.slice a' 0 c') HBX.out
        exact ⟨⟨a', c', by rw [List.drop_zero, h0]; exact b1, Or.inl ⟨_, _, by rw [List.drop_zero, h0], by rw [List.drop_zero, he]⟩, fun h => (by simp [he] at h)⟩, fun x hx => (by rw [List.drop_zero, he] at hx; cases hx), hge⟩
      have HE : Hid (r.left.take 0 = []) := by show _ = _; simp
      cases a with
      | none =>
        go_enter Try.func41, Try.ntmps41
        go_wp2
        all_goals go_ret
        all_goals rw [hr.out]
        all_goals exact ⟨_, rfl, END.out _ _ _ rfl, Or.inl ⟨_, _, rfl, HE.out⟩, fun _ _ _ _ h => (by cases h), (Only.refl g w).set 0 _⟩
      | some a =>
        go_enter Try.func41, Try.ntmps41
        go_wp2
        all_goals go_ret
        all_goals rw [hr.out]
        all_goals exact ⟨_, rfl, END.out _ _ _ rfl, Or.inl ⟨_, _, rfl, HE.out⟩, fun _ _ _ _ h => (by cases h; exact Or.inr rfl), (Only.refl g w).set 0 _⟩
    · obtain ⟨bb, oo, rfl, hbb⟩ := HBK.out (by omega)
      have hlc2 := hlc.resolve_right h0
      obtain ⟨k1, k2⟩ := hlc2
      obtain ⟨u1, u2⟩ := HL.out.cut (n := n) (by omega) (by omega)
      have END : Hid (∀ (o' c' : Nat) (v : Value), v = .slice (some ⟨bb, o', none⟩) (r.left.length - n) c' → ListAt w ucell 1 v (r.left.drop n) → RdAt (w.setCell ⟨g, 0, none⟩ v) B g ⟨r.left.drop n, r.short⟩) := fun o' c' v hv hl => by
        have b1 := heap_setCell_same w g 0 _ _ v HBX.out
        have hl2 := ((Only.refl g w).set 0 v).list hl (fun b2 o2 n2 c2 he => by rw [hv] at he; cases he; exact Or.inl (by omega))
        subst hv
        exact ⟨⟨some ⟨bb, o', none⟩, c', by rw [List.length_drop]; exact b1, by rw [List.length_drop]; exact hl2, fun _ => ⟨bb, o', rfl, hbb⟩⟩, fun x hx => HBY.out x (List.mem_of_mem_drop hx), hge⟩
      have TK : Hid (∀ v, ListAt (w.setCell ⟨g, 0, none⟩ v) ucell 1 (.slice (some ⟨bb, oo, none⟩) n c) (r.left.take n)) := fun v => ((Only.refl g w).set 0 v).list u2 (fun b2 o2 n2 c2 he => by cases he; exact Or.inl (by omega))
      have U1 : Hid _ := u1
      clear u1 u2
      by_cases hc : c = n
      · have hln : r.left.length = n := by omega
        have hd : r.left.drop n = [] := List.drop_of_length_le (by omega)
        have HD : Hid (∀ (a' : Option Addr) (l' c' : Nat), l' = 0 → ListAt w ucell 1 (.slice a' l' c') (r.left.drop n)) := fun a' l' c' hl => Or.inl ⟨a', c', by rw [hl], hd⟩
        have hz : r.left.length - n = 0 := by omega
        have HZ : Hid (r.left.length - n = 0) := hz
        subst hc
        clear hd
        go_enter Try.func41, Try.ntmps41
        go_wp2
        all_goals go_ret
        all_goals rw [hr.out]
        all_goals exact ⟨_, rfl, END.out oo 0 _ (by rw [HZ.out]) (HD.out _ _ _ (by omega)), TK.out _, fun _ _ _ _ h => (by cases h; exact Or.inl hbb), (Only.refl g w).set 0 _⟩
      · go_enter Try.func41, Try.ntmps41
        go_wp2
        all_goals go_ret
        all_goals rw [hr.out]
        all_goals exact ⟨_, rfl, END.out _ _ _ rfl U1.out, TK.out _, fun _ _ _ _ h => (by cases h; exact Or.inl hbb), (Only.refl g w).set 0 _⟩
end Go.Proofs.Ytmibbjjfijcgpac
