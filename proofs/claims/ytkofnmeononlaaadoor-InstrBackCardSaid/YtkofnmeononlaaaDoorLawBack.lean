/-
  The call of boltholekeep.InstrBack returns true at every Raw, long or not, and text ahead.
-/
import Derived.Test.YtkofnmeononlaaaDoorPureEnc
import Derived.Test.YtkofnmeononlaaaDoorWalkAny2
import Derived.Test.YtkofnmeononlaaaDoorAppText
namespace Go.Proofs.YtkofnmeononlaaaDoor
open Go.RowKit Go.Joins Isa
theorem keep_cells {B Bi : Nat} {W W' : World} {I : Array Value} (h : ∀ j, W.cell? ⟨Bi, j, none⟩ = I[j]?) (hb : Below B W W') (hB : Bi < B) : ∀ j, W'.cell? ⟨Bi, j, none⟩ = I[j]? :=
  fun j => (hb.cell (p := ⟨Bi, j, none⟩) hB).trans (h j)
theorem new_cells (W : World) (I : Array Value) (t : TypeId) : ∀ j, (W.alloc (.cells I t)).cell? ⟨W.heap.size, j, none⟩ = I[j]? := fun j => World.cell?_alloc_new _ _ _ j
set_option maxHeartbeats 4000000 in
theorem back_law (K A B C : Int) (long : Bool) (s : ByteArray) (w : World) (ht : Tabs w) (_k1 : -9223372036854775808 ≤ K) (_k2 : K ≤ 9223372036854775807) (_a1 : -9223372036854775808 ≤ A) (_a2 : A ≤ 9223372036854775807) (_b1 : -9223372036854775808 ≤ B) (_b2 : B ≤ 9223372036854775807) (_c1 : -9223372036854775808 ≤ C) (_c2 : C ≤ 9223372036854775807) (hs : s.size ≤ 140737488351232) :
    Calls Tryd.prog 7 #[.agg #[.int .i64 K, .int .i64 A, .int .i64 B, .int .i64 C], .bool long, .string s] w fun e w' => e = .returned (.bool true) ∧ Below w.heap.size w w' := by
  have o1 : Isa.chk (anyF K A B C long).k (anyF K A B C long).d (anyF K A B C long).a (anyF K A B C long).b (anyF K A B C long).n (anyF K A B C long).l = 0 := any_ok K A B C long
  have ai := any_any K A B C long
  generalize anyF K A B C long = i at *
  obtain ⟨ik, id, ia, ib, inn, il⟩ := i
  simp only at o1 ai
  obtain ⟨h1, h2, _⟩ := chk_zero o1
  have hlen := encL_len (d := id) (a := ia) (b := ib) (n := inn) (l := il) h1 h2
  have hs5 : 1 ≤ siz ik il ∧ siz ik il ≤ 5 := by have := wid_bd ik il h1 h2; unfold siz; constructor <;> split <;> split <;> omega
  have hby := enc_bytes o1
  obtain ⟨N, hN⟩ : ∃ N, (encL ik id ia ib inn il).length = N := ⟨_, rfl⟩
  have n2 : N ≤ 5 := by omega
  have hsiz : siz ik il = (N : Int) := by omega
  have hsn : sizeNum ik id ia ib inn il = (N : Int) := by unfold sizeNum; rw [if_pos o1, hsiz]
  have hd1 : decOut (bytesOf s ++ encL ik id ia ib inn il) s.size = (⟨ik, id, ia, ib, inn, il⟩, (N : Int), 0) := by
    have := dec_back o1 (bytesOf s) []
    rw [List.append_nil, bytesOf_len, hsiz] at this; exact this
  have hd2 : decOut (bytesOf s ++ encL ik id ia ib inn il) ((s.size + N : Nat) : Int) = (zeroI, 0, 2) := by
    unfold decOut; rw [if_pos]; right; rw [List.length_append, bytesOf_len, hN]; exact Int.le_refl _
  have AI : Hid _ := ai
  have O1 : Hid _ := o1
  have HN : Hid _ := hN
  have HB : Hid _ := hby
  have HS : Hid _ := hsn
  have D1 : Hid _ := hd1
  have D2 : Hid _ := hd2
  clear ai o1 hN hby hsn hd1 hd2 hlen hs5 hsiz
  go_enter Tryd.func7, Tryd.ntmps7
  go_wp2_with fail
  refine (AI.out _ (by assumption) (by assumption) (by assumption) (by assumption) (by assumption) (by assumption) (by assumption) (by assumption)).mono ?_
  rintro e w1 ⟨rfl, hb1⟩
  have hz1 : w.heap.size < w1.heap.size := (by have := hb1.size; simp at this; omega)
  have B1 : Below w.heap.size w w1 := (Below.alloc (Below.refl _ _) (Nat.le_refl _) _).trans (hb1.mono (by simp))
  clear hb1
  go_wp2_with fail
  refine (encode_any ik id ia ib inn il _ (ht.below ht.sz (B1.alloc (by omega) _))).mono ?_
  rintro e w2 (⟨hc, _⟩ | ⟨hc, g, cap, rfl, own, hb2⟩)
  · exact absurd O1.out hc
  rw [HN.out] at own ⊢
  have ci2 := keep_cells (new_cells w1 #[.int .i64 ik, .int .i64 id, .int .i64 ia, .int .i64 ib, .int .i64 inn, .bool il] 23) hb2 (by simp)
  have hz2 : w1.heap.size < w2.heap.size := (by have := hb2.size; simp at this; omega)
  have B2 : Below w.heap.size w w2 := (B1.alloc (by omega) _).trans (hb2.mono (by simp; omega))
  clear hb2 hc
  go_wp2_with fail
  refine (sizes_any ik id ia ib inn il _ (ht.below ht.sz B2)).mono ?_
  rw [HS.out, O1.out]
  rintro e w3 ⟨rfl, hb3⟩
  have ci3 := keep_cells ci2 hb3 hz2
  have own3 := own_below own hb3
  have B3 : Below w.heap.size w w3 := B2.trans (hb3.mono (by omega))
  have hz3 : w1.heap.size < w3.heap.size := by have := hb3.size; omega
  clear hb3 ci2 own
  obtain ⟨v, W, hrun, hT, hbW, g', cap', hv⟩ := app_text w3 s hs g N cap _ (encL ik id ia ib inn il) HN.out.symm n2 HB.out own3 29
  subst hv
  have kc := run_convert_sb w3 s
  have ciW := keep_cells ci3 hbW hz3
  have BW : Below w.heap.size w W := B3.trans (hbW.mono (by omega))
  have hzW : w1.heap.size < W.heap.size := by have := hbW.size; omega
  have HT : Hid _ := hT
  have HR : Hid _ := hrun
  clear hT hrun ci3 own3 hbW
  have hs' : s.size ≤ 9223372036854775807 := by omega
  go_wp2_with (at_builtin; refine wpList_append_run rfl (.tmp 33) (.tmp 34) 29 rfl _ _ _ rfl rfl HR.out ?_)
  refine (decode_any _ _ _ _ (ht.below ht.sz BW) HT.out).mono ?_
  rw [D1.out]
  rintro e w5 ⟨rfl, hb5⟩
  have ci5 := keep_cells ciW hb5 hzW
  have B5 : Below w.heap.size w w5 := BW.trans (hb5.mono BW.size)
  have hz5 : w1.heap.size < w5.heap.size := by have := hb5.size; omega
  have HT5 : Hid _ := text_below' HT.out hb5
  clear hb5 ciW kc HR HT
  go_wp2_with fail
  refine (decode_any _ _ _ _ (ht.below ht.sz (B5.alloc (by omega) _)) (text_below' HT5.out ((Below.refl _ _).alloc (Nat.le_refl _) _))).mono ?_
  rw [show ((s.size : Int) + (N : Int)) = ((s.size + N : Nat) : Int) from by omega, D2.out]
  rintro e w6 ⟨rfl, hb6⟩
  have cx6 := keep_cells (new_cells w5 #[.int .i64 ik, .int .i64 id, .int .i64 ia, .int .i64 ib, .int .i64 inn, .bool il] 23) hb6 (by simp)
  have ci6 := keep_cells ci5 ((((Below.refl _ w5).alloc (Nat.le_refl _) _)).trans (hb6.mono (by simp))) hz5
  have B6 : Below w.heap.size w w6 := (B5.alloc (by omega) _).trans (hb6.mono (by simp; omega))
  have hz6 : w5.heap.size < w6.heap.size := (by have := hb6.size; simp at this; omega)
  have hz7 : w1.heap.size < w6.heap.size := by omega
  clear hb6 ci5 HT5
  go_wp2_with fail
  refine (check_any ik id ia ib inn il _ (ht.below ht.sz (B6.alloc (by omega) _))).mono ?_
  rw [O1.out]
  rintro e w7 ⟨rfl, hb7⟩
  have cx7 := keep_cells cx6 ((((Below.refl _ w6).alloc (Nat.le_refl _) _)).trans (hb7.mono (by simp))) hz6
  have ci7 := keep_cells ci6 ((((Below.refl _ w6).alloc (Nat.le_refl _) _)).trans (hb7.mono (by simp))) hz7
  have B7 : Below w.heap.size w w7 := (B6.alloc (by omega) _).trans (hb7.mono (by simp; omega))
  clear hb7 cx6 ci6
  go_wp2
  go_ret
  exact ⟨by simp, B7⟩
end Go.Proofs.YtkofnmeononlaaaDoor
