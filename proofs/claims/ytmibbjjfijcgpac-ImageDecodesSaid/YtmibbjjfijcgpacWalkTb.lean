/-
  The reader's tables: its closure that takes a table, and image.listOf at []int.
-/
import Derived.Test.YtmibbjjfijcgpacWalkLi
namespace Go.Proofs.Ytmibbjjfijcgpac
open Go.RowKit Go.Joins
/-- All that was there is as it was, but for the block g. -/
structure FrG (g : Nat) (w w' : World) : Prop where
  os : w'.os = w.os
  tape : w'.tape = w.tape
  output : w'.output = w.output
  size : w.heap.size ≤ w'.heap.size
  block : ∀ k, k < w.heap.size → k ≠ g → w'.heap[k]? = w.heap[k]?
theorem FrG.refl (g : Nat) (w : World) : FrG g w w := ⟨rfl, rfl, rfl, Nat.le_refl _, fun _ _ _ => rfl⟩
theorem FrG.trans {g : Nat} {w w1 w2 : World} (h1 : FrG g w w1) (h2 : FrG g w1 w2) : FrG g w w2 :=
  ⟨h2.os.trans h1.os, h2.tape.trans h1.tape, h2.output.trans h1.output, Nat.le_trans h1.size h2.size, fun k hk hg => (h2.block k (Nat.lt_of_lt_of_le hk h1.size) hg).trans (h1.block k hk hg)⟩
theorem Only.fr {g : Nat} {w w' : World} (h : Only g w w') : FrG g w w' := ⟨h.os, h.tape, h.output, Nat.le_of_eq h.size.symm, fun k _ hg => h.block k hg⟩
theorem FrG.alloc {g : Nat} {w w1 : World} (h : FrG g w w1) (o : Obj) : FrG g w (w1.alloc o) :=
  ⟨h.os, h.tape, h.output, by have := h.size; simp; omega, fun k hk hg => by
    have hlt : k < w1.heap.size := Nat.lt_of_lt_of_le hk h.size
    show (w1.heap.push _)[k]? = _
    rw [Array.getElem?_push_lt hlt, ← Array.getElem?_eq_getElem hlt]; exact h.block k hk hg⟩
theorem FrG.drew {g : Nat} {w w1 : World} (h : FrG g w w1) : FrG g w w1.drew := ⟨h.os, h.tape, h.output, h.size, h.block⟩
/-- A store into a block that was made since. -/
theorem FrG.set {g : Nat} {w w1 : World} (h : FrG g w w1) {k o : Nat} (hk : w.heap.size ≤ k) (u : Value) : FrG g w (w1.setCell ⟨k, o, none⟩ u) :=
  ⟨h.os, h.tape, h.output, by rw [World.size_setCell]; exact h.size, fun j hj hg => (heap_setCell_other _ _ _ _ (by simp; omega)).trans (h.block j hj hg)⟩
theorem FrG.cell {g : Nat} {w w' : World} (h : FrG g w w') {k o : Nat} (hk : k < w.heap.size) (hg : k ≠ g) : w'.cell? ⟨k, o, none⟩ = w.cell? ⟨k, o, none⟩ := World.cell?_of_block (a := ⟨k, o, none⟩) (h.block k hk hg)
/-- The reader stays where a new block is stored into. -/
theorem RdAt.set {w : World} {B g k o : Nat} {r : Rd} (h : RdAt w B g r) (hk : B ≤ k) (hg : k ≠ g) (u : Value) : RdAt (w.setCell ⟨k, o, none⟩ u) B g r :=
  ((Only.refl k w).set o u).rd h (fun e => hg e.symm) hk
theorem RdAt.alloc {w : World} {B g : Nat} {r : Rd} (h : RdAt w B g r) (o : Obj) : RdAt (w.alloc o) B g r := h.up ((Below.refl _ _).alloc (Nat.le_refl _) _)
theorem num_bd (r : Rd) (h : ∀ x ∈ r.left, 0 ≤ x ∧ x ≤ 255) : (0 ≤ (r.num 1).1 ∧ (r.num 1).1 ≤ 255) ∧ (0 ≤ (r.num 2).1 ∧ (r.num 2).1 ≤ 65535) := by
  have b1 := bval_bd _ (take_bytes r 1 h)
  have c1 := bval_64 _ (take_bytes r 1 h) 1 (take_len r 1)
  have b2 := bval_bd _ (take_bytes r 2 h)
  have c2 := bval_64 _ (take_bytes r 2 h) 2 (take_len r 2)
  have e1 : bval (r.take 1).1 < 256 := c1
  have e2 : bval (r.take 2).1 < 65536 := c2
  unfold Rd.num toI
  constructor
  · simp only []
    rw [if_pos (by omega)]
    omega
  · simp only []
    rw [if_pos (by omega)]
    omega
/-- A table of addresses. -/
def Rd.tab (r : Rd) : List Int × Rd := many (fun r : Rd => r.num 2) (r.num 1).1.toNat (r.num 1).2
set_option maxHeartbeats 1000000 in
theorem tab_any (B g gp : Nat) (r : Rd) (w : World) (h : RdAt w B g r) (hp : w.cell? ⟨gp, 0, none⟩ = some (.pointer (some ⟨g, 0, none⟩))) (hgp : gp < w.heap.size) (hne : gp ≠ g) :
    Calls Try.prog 46 #[.pointer (some ⟨gp, 0, none⟩)] w fun e w' =>
      e = .returned (.slice (some ⟨w.heap.size, 0, none⟩) r.tab.1.length r.tab.1.length) ∧ RdAt w' B g r.tab.2 ∧ w'.heap[w.heap.size]? = some (.cells (r.tab.1.map (Value.int .i64)).toArray 3) ∧ FrG g w w' := by
  have HR : Hid (RdAt w B g r) := h
  obtain ⟨⟨q1, q2⟩, _⟩ := num_bd r h.bytes
  obtain ⟨n, hn⟩ := Int.eq_ofNat_of_zero_le q1
  have hn2 : n ≤ 255 := by omega
  have hT : Hid (r.tab = many (fun r : Rd => r.num 2) n (r.num 1).2) := by show _ = _; unfold Rd.tab; rw [hn, Int.toNat_natCast]
  have hL : Hid (r.tab.1.length = n) := by show _ = _; rw [hT.out, many_len]
  have HN : Hid _ := hn
  clear h q1 q2 hn
  go_enter Try.func46, Try.ntmps46
  go_wp2_with fail
  refine (number_any B g r 1 w HR.out (by decide)).mono ?_
  rintro e w1 ⟨rfl, hr1, ho1⟩
  rw [HN.out]
  have hp1 : w1.cell? ⟨gp, 0, none⟩ = some (.pointer (some ⟨g, 0, none⟩)) := (World.cell?_of_block (a := ⟨gp, 0, none⟩) (ho1.block gp hne)).trans hp
  have hs1 := ho1.size
  have HR1 : Hid (RdAt w1 B g (r.num 1).2) := hr1
  have HO1 : Hid (Only g w w1) := ho1
  have HS1 : Hid (w1.heap.size = w.heap.size) := hs1
  have hgp1 : gp < w1.heap.size := by omega
  clear hr1 ho1 hs1
  go_wp2_with (go_at_call 47; refine (listOf2_any B g gp _ n w1 HR1.out (by omega) hp1 hgp1 hne).mono ?_; rintro e w2 ⟨rfl, hr2, hrow2, hsz2, ho2⟩)
  go_ret
  have hg1 : g < w.heap.size := HR.out.lt
  rw [hL.out, hT.out, ← HS1.out]
  refine ⟨rfl, hr2, hrow2, HO1.out.fr.trans (FrG.trans ((FrG.refl g w1).alloc _) ho2.fr)⟩
end Go.Proofs.Ytmibbjjfijcgpac
