/-
  The call of boltholekeep.InstrTorn returns true at every Raw and cut.
-/
import Derived.Test.YtkofnmeononlaabDoorPureEnc
import Derived.Test.YtkofnmeononlaabDoorWalkAny2
namespace Go.Proofs.YtkofnmeononlaabDoor
open Go.RowKit Go.Joins Isa
set_option maxHeartbeats 2000000 in
theorem torn_law (K A B C : Int) (long : Bool) (cut : Int) (w : World) (ht : Tabs w) (_k1 : -9223372036854775808 ≤ K) (_k2 : K ≤ 9223372036854775807) (_a1 : -9223372036854775808 ≤ A) (_a2 : A ≤ 9223372036854775807) (_b1 : -9223372036854775808 ≤ B) (_b2 : B ≤ 9223372036854775807) (_c1 : -9223372036854775808 ≤ C) (_c2 : C ≤ 9223372036854775807) (_u1 : -9223372036854775808 ≤ cut) (_u2 : cut ≤ 9223372036854775807) :
    Calls Tryd.prog 3 #[.agg #[.int .i64 K, .int .i64 A, .int .i64 B, .int .i64 C], .bool long, .int .i64 cut] w fun e w' => e = .returned (.bool true) ∧ Below w.heap.size w w' := by
  have o1 : Isa.chk (anyF K A B C long).k (anyF K A B C long).d (anyF K A B C long).a (anyF K A B C long).b (anyF K A B C long).n (anyF K A B C long).l = 0 := any_ok K A B C long
  have ai := any_any K A B C long
  generalize anyF K A B C long = i at *
  obtain ⟨ik, id, ia, ib, inn, il⟩ := i
  simp only at o1 ai
  obtain ⟨h1, h2, _⟩ := chk_zero o1
  have hlen := encL_len (d := id) (a := ia) (b := ib) (n := inn) (l := il) h1 h2
  have hs : 1 ≤ siz ik il ∧ siz ik il ≤ 5 := by have := wid_bd ik il h1 h2; unfold siz; constructor <;> split <;> split <;> omega
  have hby := enc_bytes o1
  obtain ⟨N, hN⟩ : ∃ N, (encL ik id ia ib inn il).length = N := ⟨_, rfl⟩
  have n1 : 1 ≤ N := by omega
  have n2 : N ≤ 5 := by omega
  obtain ⟨q1, q2⟩ := pk_bd cut N (by omega)
  obtain ⟨m, hm⟩ := Int.eq_ofNat_of_zero_le q1
  have hmN : m < N := by omega
  have hdec := dec_torn o1 m (by omega)
  have AI : Hid _ := ai
  have O1 : Hid _ := o1
  have HN : Hid _ := hN
  have HM : Hid _ := hm
  have HB : Hid _ := hby
  have HD : Hid _ := hdec
  clear ai o1 hN hm hby hdec hlen hs q1 q2
  have hNb : (N : Int) < 1 ∨ 1 ≤ (N : Int) := by omega
  go_enter Tryd.func3, Tryd.ntmps3
  go_wp2_with fail
  refine (AI.out _ (by assumption) (by assumption) (by assumption) (by assumption) (by assumption) (by assumption) (by assumption) (by assumption)).mono ?_
  rintro e w1 ⟨rfl, hb1⟩
  have hz1 : w.heap.size < w1.heap.size := (by have := hb1.size; simp at this; omega)
  have B1 : Below w.heap.size w w1 := (Below.alloc (Below.refl _ _) (Nat.le_refl _) _).trans (hb1.mono (by simp))
  clear hb1
  go_wp2_with fail
  refine (encode_any ik id ia ib inn il _ (ht.below ht.sz B1)).mono ?_
  rintro e w2 (⟨hc, _⟩ | ⟨hc, g, cap, rfl, own, hb2⟩)
  · exact absurd O1.out hc
  have hT := text_own own HB.out m (by rw [HN.out]; omega)
  have hcap : N ≤ cap := by
    rcases own.2 with ⟨hv, _⟩ | ⟨g', cap', cur, hv, _, _, hle, _⟩
    · cases hv
    · simp at hv; rw [HN.out] at hle; omega
  have hmx : cap ≤ maxLen := by
    rcases own.2 with ⟨hv, _⟩ | ⟨g', cap', cur, hv, _, _, hle, hmx, _⟩
    · cases hv
    · simp at hv; omega
  unfold maxLen at hmx
  rw [HN.out]
  have B2 : Below w.heap.size w w2 := B1.trans (hb2.mono (by omega))
  have HT : Hid _ := hT
  clear hb2 own hc hT
  go_wp2_with fail
  refine (picked_any cut N _ (by omega) (by assumption) (by assumption)).mono ?_
  rw [HM.out]
  rintro e w3 ⟨rfl, hw3⟩
  obtain rfl := hw3.symm
  have f1 : (m : Int) ≤ (cap : Int) := by omega
  go_wp2_with fail
  refine (decode_any _ _ 0 _ (ht.below ht.sz B2) HT.out).mono ?_
  rw [HD.out]
  rintro e w4 ⟨rfl, hb4⟩
  have B4 : Below w.heap.size w w4 := B2.trans (hb4.mono B2.size)
  have z4 : w.heap.size ≤ w4.heap.size := B4.size
  clear hb4
  by_cases h0 : m = 0
  · subst h0
    go_wp2
    go_ret
    exact ⟨rfl, B4.alloc z4 _⟩
  · have h0b : ((m : Int) == 0) = false := by simp [h0]
    rw [if_neg h0]
    go_wp2
    go_ret
    exact ⟨rfl, B4.alloc z4 _⟩
end Go.Proofs.YtkofnmeononlaabDoor
