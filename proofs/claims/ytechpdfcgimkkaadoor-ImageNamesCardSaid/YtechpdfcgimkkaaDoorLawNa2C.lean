/-
  boltholekeep.ImageNames at the name number 2 (written by genna.py).
-/
import Derived.Test.YtechpdfcgimkkaaDoorMNFC
namespace Go.Proofs.YtechpdfcgimkkaaDoor
open Go.RowKit Go.Joins Isa
set_option maxRecDepth 100000 in
set_option maxHeartbeats 4000000 in
theorem imageNames_2 (v : Value) (l : List Rw) (a : Int) (w : World) (ht : Tabs w) (hR : RawsAt w v l) (a1 : -9223372036854775808 ≤ a) (a2 : a ≤ 9223372036854775807) (hp : pk a 6 = 2) :
    Calls Tryd.prog 5 #[v, .int .i64 a] w fun e w' => e = .returned (.bool true) ∧ Below w.heap.size w w' := by
  have PR := hid (program_img v l w hR ht)
  have PK : Hid (∀ W, Calls Tryd.prog 19 #[.int .i64 a, .int .i64 6] W fun e w' => e = .returned (.int .i64 2) ∧ w' = W) := fun W => by
    have := picked_any a 6 W (by decide) a1 a2
    rwa [hp] at this
  clear hR ht hp
  go_enter Tryd.func5, Tryd.ntmps5
  go_upto_region 1 with fail
  go_wp2_with fail
  refine Calls.mono PR.out ?_
  rintro e w1 ⟨vT, vF, vB, vD, vL, m, rfl, hm, hO, hb⟩
  obtain ⟨hc, hok, h1, h2⟩ := hm.chk
  have hen := hm.entry
  obtain ⟨n1, n2⟩ := hm.names
  have HNM := hid (names_chk hc h2 n1 n2 ⟨#[]⟩ ⟨name_far (by decide), name_far (by decide), name_far (by decide)⟩)
  have HOK := hid hok
  have HO := hid hO
  have HB : Hid (Below w.heap.size w w1) := hb
  have hz : w.heap.size + 1 < w1.heap.size := own_size hO.text (by omega)
  obtain ⟨aT, cT, rfl⟩ := orow_form' hO.text
  obtain ⟨aF, cF, rfl⟩ := orow_form' hO.funcs
  obtain ⟨us, hus, -, -⟩ := hO.tables
  obtain ⟨aB, cB, rfl⟩ := orow_form' hus
  obtain ⟨aD, cD, rfl⟩ := orow_form' hO.data
  obtain ⟨aL, cL, rfl⟩ := orow_form' hO.lines
  clear hO hm hok hc hus hb PR n2
  go_upto_region 2 with fail
  obtain ⟨w2, hw2⟩ : ∃ w2, w1.alloc (.cells #[.slice aT m.text.length cT, .slice aF m.funcs.length cF, .slice aB us.length cB, .slice aD m.data.length cD, .slice aL m.lines.length cL, .int .i64 0] 29) = w2 := ⟨_, rfl⟩
  rw [hw2]
  have HI : Hid (w2.heap[w1.heap.size]? = some (.cells #[.slice aT m.text.length cT, .slice aF m.funcs.length cF, .slice aB us.length cB, .slice aD m.data.length cD, .slice aL m.lines.length cL, .int .i64 0] 29)) := by rw [← hw2]; exact heap_alloc_new _ _
  have HB2 : Hid (Below w1.heap.size w1 w2) := by rw [← hw2]; exact (Below.refl _ _).alloc (Nat.le_refl _) _
  have HO2 : Hid (OwnImg w2 (w.heap.size + 1) (.slice aT m.text.length cT) (.slice aF m.funcs.length cF) (.slice aB us.length cB) (.slice aD m.data.length cD) (.slice aL m.lines.length cL) m) := by rw [← hw2]; exact HO.out.up ((Below.refl _ _).alloc (Nat.le_refl _) _)
  have x0 : w2.cell? ⟨w1.heap.size, 0, none⟩ = some (.slice aT m.text.length cT) := by simp [World.cell?, HI.out]
  have hgl : w1.heap.size < w2.heap.size := (Array.getElem?_eq_some_iff.1 HI.out).1
  have hgn : ¬ w1.heap.size = w2.heap.size := by omega
  clear hw2
  obtain ⟨a3, c3, W3, r1, r2, ⟨u3, r3⟩, r4, r5, r6, r7⟩ := OwnImg.addT (W := w2.alloc (.cells #[.int .u8 0, .int .u8 0] 5)) (HO2.out.up ((Below.refl _ _).alloc (Nat.le_refl _) _)) ((heap_alloc_old _ _ hgl).trans HI.out) (by simp; omega) w.heap.size (by omega) (by omega) w2.heap.size 2 2 [0, 0] rfl (flat_two 0 0 w2 _) (by simp; omega)
  rw [show ([0, 0] : List Int).length = 2 from rfl] at r1 r5 r6 r7
  have HR1 := hid r1
  obtain ⟨w4, hw4⟩ : ∃ w4, W3.setCell ⟨w1.heap.size, 0, none⟩ (.slice a3 (m.text.length + 2) c3) = w4 := ⟨_, rfl⟩
  rw [hw4] at r5 r6 r7
  have HW4 := hid hw4
  have HI4 := hid r5
  have HO4 := hid r6
  have HB4 : Hid (Below w.heap.size w w4) := HB.out.trans ((HB2.out.mono (by omega)).trans ((((Below.refl _ _).alloc (Nat.le_refl _) _).mono (by omega)).trans r7))
  have hg4 : w1.heap.size < w4.heap.size := (Array.getElem?_eq_some_iff.1 r5).1
  have hw24 : w.heap.size + 1 ≤ w4.heap.size := by omega
  clear r1 r5 r6 r7 hw4
  go_wp2_with (first | (at_builtin; refine wpList_append_pair _ rfl (.tmp 14) (.tmp 15) 23 23 rfl _ _ rfl rfl HR1.out ?_))
  go_upto_region 4 with fail
  rw [HW4.out]
  clear HW4 HR1 r2 r3 r4 x0
  have z1 : w4.cell? ⟨w1.heap.size, 1, none⟩ = some (.slice aF m.funcs.length cF) := by simp [World.cell?, HI4.out]
  have hgn4 : ¬ w1.heap.size = w4.heap.size := by omega
  obtain ⟨a5, c5, W5, r1, r2, ⟨u5, r3⟩, r4, r5, r6, r7⟩ := OwnImg.addF (W := w4) HO4.out HI4.out hw24 w.heap.size (by omega) (by omega) (w4.heap.size + 1) 2 2 [⟨⟨#[120]⟩, (m.text.length : Int), 1⟩, ⟨⟨#[]⟩, (m.text.length : Int) + 1, 1⟩] rfl
    (((w4.alloc (.cells #[.string ⟨#[120]⟩, .string ⟨#[121]⟩, .string ⟨#[]⟩, .string ⟨#[120, 32, 121]⟩, .string ⟨#[97, 98, 99, 100, 101, 102, 103, 104, 105, 106, 107, 108, 109, 110, 111, 112]⟩, .string ⟨#[97, 98, 99, 100, 101, 102, 103, 104, 105, 106, 107, 108, 109, 110, 111, 112, 113]⟩] 9)).alloc (.cells #[.string ⟨#[120]⟩, .int .i64 (m.text.length : Int), .int .i64 1, .string ⟨#[]⟩, .int .i64 ((m.text.length : Int) + 1), .int .i64 1] 47)).drew)
    ((((Below.refl _ _).alloc (Nat.le_refl _) _).alloc (by simp) _).drew) (flat_fns _ _ _ _ _ _ (by simp) _) (by simp; omega)
  rw [show ([(⟨⟨#[120]⟩, (m.text.length : Int), 1⟩ : Fn), ⟨⟨#[]⟩, (m.text.length : Int) + 1, 1⟩]).length = 2 from rfl] at r1 r5 r6 r7
  have HR1 := hid r1
  obtain ⟨w6, hw6⟩ : ∃ w6, W5.setCell ⟨w1.heap.size, 1, none⟩ (.slice a5 (m.funcs.length + 2) c5) = w6 := ⟨_, rfl⟩
  rw [hw6] at r5 r6 r7
  have HW6 := hid hw6
  have HI6 := hid r5
  have HO6 := hid r6
  have HB6 : Hid (Below w.heap.size w w6) := HB4.out.trans r7
  have hz6 : w.heap.size ≤ w6.heap.size := HB6.out.size
  have hg6 : w1.heap.size < w6.heap.size := (Array.getElem?_eq_some_iff.1 r5).1
  have hg6n : ¬ w1.heap.size = w6.heap.size := by omega
  have hW1 : IntKind.i64.wrap ((m.text.length : Int) + 1) = (m.text.length : Int) + 1 := by rw [IntKind.wrap_i64]; omega
  have t0 : w6.cell? ⟨w1.heap.size, 0, none⟩ = some (.slice a3 (m.text.length + 2) c3) := by simp [World.cell?, HI6.out]
  have t1 : w6.cell? ⟨w1.heap.size, 1, none⟩ = some (.slice a5 (m.funcs.length + 2) c5) := by simp [World.cell?, HI6.out]
  have t2 : w6.cell? ⟨w1.heap.size, 2, none⟩ = some (.slice aB us.length cB) := by simp [World.cell?, HI6.out]
  have t3 : w6.cell? ⟨w1.heap.size, 3, none⟩ = some (.slice aD m.data.length cD) := by simp [World.cell?, HI6.out]
  have t4 : w6.cell? ⟨w1.heap.size, 4, none⟩ = some (.slice aL m.lines.length cL) := by simp [World.cell?, HI6.out]
  have t5 : w6.cell? ⟨w1.heap.size, 5, none⟩ = some (.int .i64 0) := by simp [World.cell?, HI6.out]
  have CK : Hid (∀ W, Below w6.heap.size w6 W → Calls Tryd.prog 21 #[.agg #[.slice a3 (m.text.length + 2) c3, .slice a5 (m.funcs.length + 2) c5, .slice aB us.length cB, .slice aD m.data.length cD, .slice aL m.lines.length cL, .int .i64 0]] W fun e w' => e = .returned (.int .i64 4) ∧ Below W.heap.size W w') := fun W hW => by
    have := icheck_any _ _ _ _ _ (imgMore m ⟨#[]⟩) W (HO6.out.at.stays (Nat.le_refl _) hW) (more_ok HOK.out h2 _ (by decide))
    rw [show (imgMore m ⟨#[]⟩).entry = 0 from hen, HNM.out] at this
    exact this
  clear r1 r5 r6 r7 hw6 HNM
  go_cut [] (fun wx => wx = w6)
  case first =>
    go_region_law (first
      | refine step_call_same2 rfl 19 (.tmp 23) (.const (.int .i64 6)) 3 3 rfl (.int .i64 a) (.int .i64 6) _ rfl rfl (picked_enter _ _ _) (PK.out _) ?_
      | refine step_append_two rfl (.tmp 19) (.tmp 30) 24 24 rfl (.slice aF m.funcs.length cF) (.slice (some ⟨w4.heap.size + 1, 0, none⟩) 2 2) rfl rfl HR1.out ?_)
    all_goals (try go_wp2)
    all_goals go_meet
    all_goals exact HW6.out
  case rest =>
    rw [hcut]
    clear hcut HW6 HR1 r2 r3 r4
    go_wp2_with (first
      | (go_at_call 19; refine (PK.out _).mono ?_; rintro e w' ⟨rfl, rfl⟩)
      | (go_at_call 21; refine (CK.out _ (by go_grown)).mono ?_; rintro e w' ⟨rfl, hb7⟩))
    go_ret
    exact ⟨rfl, HB6.out.trans (((by go_grown : Below w6.heap.size w6 (w6.alloc (.cells #[.int .i64 7, .int .i64 0, .int .i64 4, .int .i64 4, .int .i64 0, .int .i64 4] 31))).trans (hb7.mono (by simp))).mono hz6)⟩
end Go.Proofs.YtechpdfcgimkkaaDoor
