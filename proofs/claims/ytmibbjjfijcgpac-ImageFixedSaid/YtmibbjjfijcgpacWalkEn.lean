/-
  image.Encode: what P2.3 says.
-/
import Derived.Test.YtmibbjjfijcgpacWalkPut
import Derived.Test.YtmibbjjfijcgpacPureEn
import Derived.Test.YtmibbjjfijcgpacWalkCk2
namespace Go.Proofs.Ytmibbjjfijcgpac
open Go.RowKit Go.Joins
/-- Where Encode stands: the bytes so far, the image's box, what was there. -/
structure St (w2 : World) (B gb g0 : Nat) (img : List Value) (w : World) (v : Value) (ns : List Int) : Prop where
  buf : Buf w B gb v ns
  kp : Keep B gb w2 w
  box : ∀ (o : Nat) (u : Value), img[o]? = some u → w.cell? ⟨g0, o, none⟩ = some u
  lt : g0 < B
theorem St.next {w2 : World} {B gb g0 : Nat} {img : List Value} {w w' : World} {v v' : Value} {ns ns' : List Int} (h : St w2 B gb g0 img w v ns) (hb : Buf w' B gb v' ns') (hk : Keep B gb w w') : St w2 B gb g0 img w' v' ns' :=
  ⟨hb, h.kp.trans hk, fun o u hu => (hk.bel.cell (p := ⟨g0, o, none⟩) h.lt).trans (h.box o u hu), h.lt⟩
theorem St.alloc {w2 : World} {B gb g0 : Nat} {img : List Value} {w : World} {v : Value} {ns : List Int} (h : St w2 B gb g0 img w v ns) (o : Obj) : St w2 B gb g0 img (w.alloc o) v ns :=
  h.next (h.buf.kept ((Below.refl _ _).alloc (Nat.le_refl _) o)) ((Keep.refl _ _ _).alloc (by have := h.buf.ge; have := h.buf.lt; omega) o)
theorem six_box {w2 : World} {B gb g0 : Nat} {a b c d e f : Value} {w : World} {v : Value} {ns : List Int} (h : St w2 B gb g0 [a, b, c, d, e, f] w v ns) :
    w.cell? ⟨g0, 0, none⟩ = some a ∧ w.cell? ⟨g0, 1, none⟩ = some b ∧ w.cell? ⟨g0, 2, none⟩ = some c ∧ w.cell? ⟨g0, 3, none⟩ = some d ∧ w.cell? ⟨g0, 4, none⟩ = some e ∧ w.cell? ⟨g0, 5, none⟩ = some f :=
  ⟨h.box 0 a rfl, h.box 1 b rfl, h.box 2 c rfl, h.box 3 d rfl, h.box 4 e rfl, h.box 5 f rfl⟩
theorem six_img' {w2 : World} {B gb g0 : Nat} {a b c d e f : Value} {img : List Value} {w : World} {v : Value} {ns : List Int} (hi : [a, b, c, d, e, f] = img) (h : St w2 B gb g0 img w v ns) :
    w.cell? ⟨g0, 0, none⟩ = some a ∧ w.cell? ⟨g0, 1, none⟩ = some b ∧ w.cell? ⟨g0, 2, none⟩ = some c ∧ w.cell? ⟨g0, 3, none⟩ = some d ∧ w.cell? ⟨g0, 4, none⟩ = some e ∧ w.cell? ⟨g0, 5, none⟩ = some f := by
  subst hi; exact six_box h
theorem block_new (w : World) (o : Obj) : (w.alloc o).heap[w.heap.size]? = some o := by show (w.heap.push _)[w.heap.size]? = _; simp
set_option maxRecDepth 100000 in
set_option maxHeartbeats 16000000 in
theorem encode_img (vT vF vB vD vL : Value) (m : Img) (w : World) (hI : ImgAt w vT vF vB vD vL m) (hok : m.ok) :
    Calls Try.prog 13 #[.agg #[vT, vF, vB, vD, vL, .int .i64 m.entry]] w fun e w' =>
      (imgChk m ≠ 0 ∧ e = .returned (.tuple #[.slice none 0 0, .int .i64 (imgChk m)]) ∧ Below w.heap.size w w') ∨
      (imgChk m = 0 ∧ ∃ v, e = .returned (.tuple #[v, .int .i64 0]) ∧ (∃ B, w.heap.size ≤ B ∧ Own w' B v (encImg m)) ∧ Below w.heap.size w w') := by
  obtain ⟨aT, cT, rfl, lT⟩ := hI.text.form
  obtain ⟨aF, cF, rfl, lF⟩ := hI.funcs.form
  obtain ⟨aD, cD, rfl, lD⟩ := hI.data.form
  obtain ⟨aL, cL, rfl, lL⟩ := hI.lines.form
  obtain ⟨vs, hB, hBl, hBe⟩ := hI.tables
  obtain ⟨aB, cB, rfl, lB⟩ := hB.form
  unfold maxLen at lT lF lB lD lL
  have HO : Hid m.ok := hok
  have HT : Hid (ListAt w ucell 1 (.slice aT m.text.length cT) m.text) := hI.text
  have HF : Hid (ListAt w Fn.cells 3 (.slice aF m.funcs.length cF) m.funcs) := hI.funcs
  have HBa : Hid (ListAt w vcell 1 (.slice aB vs.length cB) vs) := hB
  have HBe : Hid (∀ (j : Nat) (u : Value) (t : List Int), vs[j]? = some u → m.tables[j]? = some t → ListAt w icell 1 u t) := hBe
  have HBl : Hid (vs.length = m.tables.length) := hBl
  have HD : Hid (ListAt w icell 1 (.slice aD m.data.length cD) m.data) := hI.data
  have HL : Hid (ListAt w Ln.cells 2 (.slice aL m.lines.length cL) m.lines) := hI.lines
  have HI : Hid (ImgAt w (.slice aT m.text.length cT) (.slice aF m.funcs.length cF) (.slice aB vs.length cB) (.slice aD m.data.length cD) (.slice aL m.lines.length cL) m) := hI
  clear hok hI hB hBl hBe
  go_enter Try.func13, Try.ntmps13
  go_wp2_with fail
  have b0 : Below w.heap.size w (w.alloc (.cells #[.slice aT m.text.length cT, .slice aF m.funcs.length cF, .slice aB vs.length cB, .slice aD m.data.length cD, .slice aL m.lines.length cL, .int .i64 m.entry] 28)) := (Below.refl _ _).alloc (Nat.le_refl _) _
  refine (check_any _ _ _ _ _ m _ (HI.out.stays (Nat.le_refl _) b0) HO.out).mono ?_
  rintro e w1 ⟨rfl, hb1⟩
  have x := belc hb1 w.heap.size
  have x0 := x 0 (by simp); have x1 := x 1 (by simp); have x2 := x 2 (by simp); have x3 := x 3 (by simp); have x4 := x 4 (by simp); have x5 := x 5 (by simp)
  simp at x0 x1 x2 x3 x4 x5
  have z1 : w.heap.size < w1.heap.size := (by have := hb1.size; simp at this; omega)
  have B1 : Hid (Below w.heap.size w w1) := b0.trans (hb1.mono (by simp))
  clear x hb1 b0
  by_cases q0 : imgChk m = 0
  rotate_left
  · have q0b : (imgChk m != 0) = true := by simp [q0]
    have Q0 : Hid (imgChk m ≠ 0) := q0
    clear q0
    go_wp2
    go_ret2
    exact Or.inl ⟨Q0.out, rfl, B1.out⟩
  obtain ⟨hM, _, _⟩ := may_of m q0
  obtain ⟨s1, s2, s3, s4⟩ := sums m hM
  have M1 : m.text.length ≤ 8000 := hM.text
  have HM : Hid (May m) := hM
  have S1 : Hid _ := s1
  have S2 : Hid _ := s2
  have S3 : Hid _ := s3
  have S4 : Hid _ := s4
  have Q0 : Hid (imgChk m = 0) := q0
  rw [q0]
  clear hM s1 s2 s3 s4 q0
  obtain ⟨w2, hw2⟩ : ∃ w2, (w1.alloc (.cells #[.int .u8 98, .int .u8 104, .int .u8 49, .int .u8 10] 5 (4, 5))).alloc (.cells #[.slice (some ⟨w1.heap.size, 0, none⟩) 4 4] 22) = w2 := ⟨_, rfl⟩
  have st : Hid (St w2 w1.heap.size (w1.heap.size + 1) w.heap.size [.slice aT m.text.length cT, .slice aF m.funcs.length cF, .slice aB vs.length cB, .slice aD m.data.length cD, .slice aL m.lines.length cL, .int .i64 m.entry] w2 (.slice (some ⟨w1.heap.size, 0, none⟩) 4 4) magic) := by
    have bb : Below w1.heap.size w1 w2 := by rw [← hw2]; exact ((Below.refl _ _).alloc (Nat.le_refl _) _).alloc (by simp) _
    refine ⟨⟨?_, Or.inr ⟨w1.heap.size, rfl, Nat.le_refl _, (4, 5), ?_⟩, by omega⟩, Keep.refl _ _ _, ?_, z1⟩
    · rw [← hw2]; have := block_new (w1.alloc (.cells #[.int .u8 98, .int .u8 104, .int .u8 49, .int .u8 10] 5 (4, 5))) (.cells #[.slice (some ⟨w1.heap.size, 0, none⟩) 4 4] 22); simpa using this
    · rw [← hw2]; show ((w1.heap.push _).push _)[w1.heap.size]? = _; rw [Array.getElem?_push_lt (by simp), Array.getElem_push_eq]; rfl
    · intro o u hu
      refine (bb.cell (p := ⟨w.heap.size, o, none⟩) z1).trans ?_
      match o, hu with
      | 0, hu => cases hu; exact x0
      | 1, hu => cases hu; exact x1
      | 2, hu => cases hu; exact x2
      | 3, hu => cases hu; exact x3
      | 4, hu => cases hu; exact x4
      | 5, hu => cases hu; exact x5
  have cv : (convert 22 22 (.slice (some ⟨w1.heap.size, 0, none⟩) 4 4)).run Try.prog (w1.alloc (.cells #[.int .u8 98, .int .u8 104, .int .u8 49, .int .u8 10] 5)) = .ok (.slice (some ⟨w1.heap.size, 0, none⟩) 4 4) (w1.alloc (.cells #[.int .u8 98, .int .u8 104, .int .u8 49, .int .u8 10] 5 (4, 5))) := Lib.run_convert_bytes_const w1 22 5 #[.int .u8 98, .int .u8 104, .int .u8 49, .int .u8 10] 4 4 Try.underlying22 Try.underlying5
  have B2 : Hid (Below w1.heap.size w1 w2) := by show Below _ _ _; rw [← hw2]; exact ((Below.refl _ _).alloc (Nat.le_refl _) _).alloc (by simp) _
  have HW2 : Hid _ := hw2
  clear hw2
  have FIN : Hid (∀ wz, Keep w1.heap.size (w1.heap.size + 1) w2 wz → Below w.heap.size w wz) := fun wz hk => B1.out.trans ((B2.out.trans hk.bel).mono (by omega))
  obtain ⟨img, himg⟩ : ∃ img, [Value.slice aT m.text.length cT, .slice aF m.funcs.length cF, .slice aB vs.length cB, .slice aD m.data.length cD, .slice aL m.lines.length cL, .int .i64 m.entry] = img := ⟨_, rfl⟩
  rw [himg] at st
  have HIMG : Hid _ := himg
  clear himg
  generalize hgb : w1.heap.size + 1 = gb at *
  generalize hBB : w1.heap.size = B at *
  have z2 : w.heap.size < gb := by omega
  have z3 : w.heap.size < B + 1 := by omega
  have LMAG : magic.length = 4 := rfl
  have L1 : (m.funcs.flatMap encF).length ≤ 760 := by have := S1.out m.funcs.length; rwa [List.take_length] at this
  have L2 : (m.tables.flatMap encT).length ≤ 820 := by have := S2.out m.tables.length; rwa [List.take_length] at this
  have L3 : (m.data.flatMap (be 8)).length ≤ 512 := by have := S3.out m.data.length; rwa [List.take_length] at this
  have L4 : (m.lines.flatMap encLn).length ≤ 16000 := by have := S4.out m.lines.length; rwa [List.take_length] at this
  have hc := st.out.buf.cell
  have hl := st.out.buf.lt
  go_wp2_with fail
  rw [HW2.out]
  clear cv
  refine (put_any 2 (m.text.length : Int) B gb _ (magic) _ (by decide) (by rw [LMAG]; decide) st.out.buf).mono ?_
  rintro e w3 ⟨rfl, v3, bf, kp⟩
  replace st := (show Hid (St w2 B gb w.heap.size img w3 v3 ((magic) ++ be 2 (m.text.length : Int))) from st.out.next bf kp)
  clear x0 x1 x2 x3 x4 x5 hc hl
  clear bf kp
  obtain ⟨vA, WA, hr, hbx, ⟨aA, nA, kA, rfl⟩, bf, kp⟩ := buf_app st.out.buf (.slice aT m.text.length cT) m.text (HT.out.stays (Nat.le_refl _) (FIN.out _ st.out.kp)) (by simp only [List.length_append, be_len, LMAG]; omega) 22
  have HR : Hid _ := hr
  have c1 : WA.cell? ⟨gb, 0, none⟩ = some v3 := by simp [World.cell?, hbx]
  have c2 : WA.frozen? ⟨gb, 0, none⟩ = false := by simp [World.frozen?, hbx]
  obtain ⟨x0, x1, x2, x3, x4, x5⟩ := six_img' HIMG.out st.out
  have hc := st.out.buf.cell
  replace st := (show Hid (St w2 B gb w.heap.size img (WA.setCell ⟨gb, 0, none⟩ (.slice aA nA kA)) (.slice aA nA kA) ((magic ++ be 2 (m.text.length : Int)) ++ m.text)) from st.out.next bf kp)
  obtain ⟨y0, y1, y2, y3, y4, y5⟩ := six_img' HIMG.out st.out
  have hne : ¬ w.heap.size = gb := by omega
  have ye : ∀ o, (WA.setCell ⟨gb, 0, none⟩ (.slice aA nA kA)).cell? ⟨w.heap.size, o, none⟩ = WA.cell? ⟨w.heap.size, o, none⟩ := fun o => World.cell?_of_block (a := ⟨w.heap.size, o, none⟩) (heap_setCell_other WA ⟨gb, 0, none⟩ w.heap.size _ (by simpa using hne))
  rw [ye] at y0 y1 y2 y3 y4 y5
  clear hr hbx bf kp ye
  go_wp2_with (first | (at_builtin; refine wpList_append_two _ rfl (.tmp 30) (.tmp 32) 22 22 rfl _ _ rfl rfl HR.out ?_))
  refine (put_any 1 (m.funcs.length : Int) B gb _ ((magic ++ be 2 (m.text.length : Int)) ++ m.text) _ (by decide) (by simp only [List.length_append, be_len, LMAG]; omega) st.out.buf).mono ?_
  rintro e w4 ⟨rfl, v4, bf, kp⟩
  replace st := (show Hid (St w2 B gb w.heap.size img w4 v4 (((magic ++ be 2 (m.text.length : Int)) ++ m.text) ++ be 1 (m.funcs.length : Int))) from st.out.next bf kp)
  clear x0 x1 x2 x3 x4 x5 hc y0 y1 y2 y3 y4 y5 c1 c2 HR
  clear bf kp
  obtain ⟨x0, x1, x2, x3, x4, x5⟩ := six_img' HIMG.out st.out
  have hc := st.out.buf.cell
  have hl := st.out.buf.lt
  go_wp2_with fail
  clear x0 x1 x2 x3 x4 x5 hc hl
  go_loopw [42] (fun u wr => ∃ (j : Nat) (v : Value), j ≤ m.funcs.length ∧ u = .int .i64 (j : Int) ∧ Hid (St w2 B gb w.heap.size img wr v ((((magic ++ be 2 (m.text.length : Int)) ++ m.text) ++ be 1 (m.funcs.length : Int)) ++ (m.funcs.take j).flatMap encF))) (fun u _ => (m.funcs.length - intOf u).toNat)
  case atStart => exact ⟨0, _, by omega, rfl, by simpa using st⟩
  case round =>
    clear st

    obtain ⟨j, v, j1, rfl, st⟩ := hrel
    have sj := S1.out j
    by_cases hj : j < m.funcs.length
    · obtain ⟨y, hy⟩ : ∃ y, m.funcs[j]? = some y := ⟨_, List.getElem?_eq_getElem (by omega)⟩
      obtain ⟨bb, oo, cap, hv, c1, c2, c3, c4⟩ := HF.out.resolve_left (by rintro ⟨_, _, _, h⟩; rw [h] at hj; simp at hj)
      cases hv
      have bw := FIN.out _ st.out.kp
      have d0 : wr.cell? ⟨bb, oo + j * 3, none⟩ = some (.string y.name) := (bw.cell (p := ⟨bb, _, none⟩) c3).trans (c4 j y hy 0 _ rfl)
      have d1 : wr.cell? ⟨bb, oo + j * 3 + 1, none⟩ = some (.int .i64 y.start) := (bw.cell (p := ⟨bb, _, none⟩) c3).trans (c4 j y hy 1 _ rfl)
      have d2 : wr.cell? ⟨bb, oo + j * 3 + 2, none⟩ = some (.int .i64 y.size) := (bw.cell (p := ⟨bb, _, none⟩) c3).trans (c4 j y hy 2 _ rfl)
      obtain ⟨k1, k2⟩ := HM.out.funcs y (List.mem_of_getElem? hy)
      have hjj : (j : Int) < (m.funcs.length : Int) := by omega
      have HY : Hid _ := flat_take encF hy
      have hlw := st.out.buf.lt
      have hwne : ¬ wr.heap.size = gb := by omega
      have st2 := st.out.alloc (.cells #[.string y.name, .int .i64 y.start, .int .i64 y.size] 46)
      have ST2 : Hid _ := st2
      clear c4 hy bw st2
      go_wp2_with fail
      refine (put_any 1 (y.name.size : Int) B gb _ ((((magic ++ be 2 (m.text.length : Int)) ++ m.text) ++ be 1 (m.funcs.length : Int)) ++ (m.funcs.take j).flatMap encF) _ (by decide) (by simp only [List.length_append, be_len, LMAG]; omega) ST2.out.buf).mono ?_
      rintro e w5 ⟨rfl, v5, bf, kp⟩
      have fb := kp.oth wr.heap.size _ _ _ (block_new wr _) (by decide) hwne
      replace st := (show Hid (St w2 B gb w.heap.size img w5 v5 (((((magic ++ be 2 (m.text.length : Int)) ++ m.text) ++ be 1 (m.funcs.length : Int)) ++ (m.funcs.take j).flatMap encF) ++ be 1 (y.name.size : Int))) from ST2.out.next bf kp)
      have g0 : w5.cell? ⟨wr.heap.size, 0, none⟩ = some (.string y.name) := by simp [World.cell?, fb]
      have g2 : w5.cell? ⟨wr.heap.size, 2, none⟩ = some (.int .i64 y.size) := by simp [World.cell?, fb]
      have hc := st.out.buf.cell
      obtain ⟨vN, WN, hr, hbx, ⟨aN, nN, kN, rfl⟩, bf2, kp2⟩ := buf_str st.out.buf y.name (by simp only [List.length_append, be_len, LMAG]; omega) (by omega) 22
      have HR : Hid _ := hr
      have c5 : WN.cell? ⟨gb, 0, none⟩ = some v5 := by simp [World.cell?, hbx]
      have c6 : WN.frozen? ⟨gb, 0, none⟩ = false := by simp [World.frozen?, hbx]
      have fb2 := kp2.oth wr.heap.size _ _ _ fb (by decide) hwne
      have fb3 : WN.heap[wr.heap.size]? = some (.cells #[.string y.name, .int .i64 y.start, .int .i64 y.size] 46) := (heap_setCell_other WN ⟨gb, 0, none⟩ wr.heap.size _ (by simpa using hwne)).symm.trans fb2
      have g3 : WN.cell? ⟨wr.heap.size, 2, none⟩ = some (.int .i64 y.size) := by simp [World.cell?, fb3]
      replace st := (show Hid (St w2 B gb w.heap.size img (WN.setCell ⟨gb, 0, none⟩ (.slice aN nN kN)) (.slice aN nN kN) ((((((magic ++ be 2 (m.text.length : Int)) ++ m.text) ++ be 1 (m.funcs.length : Int)) ++ (m.funcs.take j).flatMap encF) ++ be 1 (y.name.size : Int)) ++ nameB y.name)) from st.out.next bf2 kp2)
      clear hr hbx bf kp bf2 kp2 fb fb2 fb3
      go_wp2_with (first | (at_builtin; refine wpList_append_two _ rfl (.tmp 51) (.tmp 53) 22 9 rfl _ _ rfl rfl HR.out ?_))
      refine (put_any 2 y.size B gb _ ((((((magic ++ be 2 (m.text.length : Int)) ++ m.text) ++ be 1 (m.funcs.length : Int)) ++ (m.funcs.take j).flatMap encF) ++ be 1 (y.name.size : Int)) ++ nameB y.name) _ (by decide) (by simp only [List.length_append, be_len, nameB_len, LMAG]; omega) st.out.buf).mono ?_
      rintro e w7 ⟨rfl, v7, bf, kp⟩
      replace st := (show Hid (St w2 B gb w.heap.size img w7 v7 ((((magic ++ be 2 (m.text.length : Int)) ++ m.text) ++ be 1 (m.funcs.length : Int)) ++ (m.funcs.take (j + 1)).flatMap encF)) from by have := st.out.next bf kp; show St _ _ _ _ _ _ _ _; rw [HY.out]; simpa only [encF, List.append_assoc] using this)
      clear bf kp g0 g2 g3 c5 c6 hc d0 d1 d2 HR ST2
      go_wp2
      go_roundw
      case rel => exact ⟨j + 1, _, by omega, by go_num, st.out⟩
      case measure => simp [intOf]; omega
    · have hjl : j = m.funcs.length := by omega
      replace st := (show Hid (St w2 B gb w.heap.size img wr v ((((magic ++ be 2 (m.text.length : Int)) ++ m.text) ++ be 1 (m.funcs.length : Int)) ++ m.funcs.flatMap encF)) from by have := st.out; rwa [hjl, List.take_length] at this)
      subst hjl
      generalize wr = wa at *
      obtain ⟨x0, x1, x2, x3, x4, x5⟩ := six_img' HIMG.out st.out
      have hc := st.out.buf.cell
      have hl := st.out.buf.lt
      go_wp2_with fail
      refine (put_any 1 m.entry B gb _ ((((magic ++ be 2 (m.text.length : Int)) ++ m.text) ++ be 1 (m.funcs.length : Int)) ++ m.funcs.flatMap encF) _ (by decide) (by simp only [List.length_append, be_len, LMAG]; omega) st.out.buf).mono ?_
      rintro e w8 ⟨rfl, v8, bf, kp⟩
      replace st := (show Hid (St w2 B gb w.heap.size img w8 v8 (((((magic ++ be 2 (m.text.length : Int)) ++ m.text) ++ be 1 (m.funcs.length : Int)) ++ m.funcs.flatMap encF) ++ be 1 m.entry)) from st.out.next bf kp)
      clear x0 x1 x2 x3 x4 x5 hc hl
      clear bf kp
      obtain ⟨x0, x1, x2, x3, x4, x5⟩ := six_img' HIMG.out st.out
      have hc := st.out.buf.cell
      have hl := st.out.buf.lt
      go_wp2_with fail
      refine (put_any 1 (vs.length : Int) B gb _ (((((magic ++ be 2 (m.text.length : Int)) ++ m.text) ++ be 1 (m.funcs.length : Int)) ++ m.funcs.flatMap encF) ++ be 1 m.entry) _ (by decide) (by simp only [List.length_append, be_len, LMAG]; omega) st.out.buf).mono ?_
      rintro e w9 ⟨rfl, v9, bf, kp⟩
      replace st := (show Hid (St w2 B gb w.heap.size img w9 v9 ((((((magic ++ be 2 (m.text.length : Int)) ++ m.text) ++ be 1 (m.funcs.length : Int)) ++ m.funcs.flatMap encF) ++ be 1 m.entry) ++ be 1 (vs.length : Int))) from st.out.next bf kp)
      clear x0 x1 x2 x3 x4 x5 hc hl
      clear bf kp
      obtain ⟨x0, x1, x2, x3, x4, x5⟩ := six_img' HIMG.out st.out
      have hc := st.out.buf.cell
      have hl := st.out.buf.lt
      go_wp2_with fail
      clear x0 x1 x2 x3 x4 x5 hc hl
      go_loopw [72] (fun u wr => ∃ (j : Nat) (v : Value), j ≤ vs.length ∧ u = .int .i64 (j : Int) ∧ Hid (St w2 B gb w.heap.size img wr v (((((((magic ++ be 2 (m.text.length : Int)) ++ m.text) ++ be 1 (m.funcs.length : Int)) ++ m.funcs.flatMap encF) ++ be 1 m.entry) ++ be 1 (vs.length : Int)) ++ (m.tables.take j).flatMap encT))) (fun u _ => (vs.length - intOf u).toNat)
      case atStart => exact ⟨0, _, by omega, rfl, by simpa using st⟩
      case round =>
        clear st

        obtain ⟨j, v, j1, rfl, st⟩ := hrel
        have sj := S2.out j
        by_cases hj : j < vs.length
        · obtain ⟨y, hy⟩ : ∃ y, vs[j]? = some y := ⟨_, List.getElem?_eq_getElem (by omega)⟩
          obtain ⟨t, ht⟩ : ∃ t, m.tables[j]? = some t := ⟨_, List.getElem?_eq_getElem (by have := HBl.out; omega)⟩
          obtain ⟨bb, oo, cap, hv, c1, c2, c3, c4⟩ := HBa.out.resolve_left (by rintro ⟨_, _, _, h⟩; rw [h] at hj; simp at hj)
          cases hv
          have bw := FIN.out _ st.out.kp
          have d0 := (bw.cell (p := ⟨bb, oo + j * 1 + 0, none⟩) c3).trans (c4 j y hy 0 y rfl)
          rw [Nat.mul_one, Nat.add_zero] at d0
          have hT := HBe.out j y t hy ht
          obtain ⟨a1, n1, rfl, hlt⟩ := hT.form
          have HTt : Hid (ListAt w icell 1 (.slice a1 t.length n1) t) := hT
          unfold maxLen at hlt
          obtain ⟨k1, _⟩ := HM.out.tables t (List.mem_of_getElem? ht)
          have hjj : (j : Int) < (vs.length : Int) := by omega
          have HY : Hid _ := flat_take encT ht
          have hc := st.out.buf.cell
          have hl := st.out.buf.lt
          clear c4 hy ht hT bw
          go_wp2_with fail
          refine (put_any 1 (t.length : Int) B gb _ (((((((magic ++ be 2 (m.text.length : Int)) ++ m.text) ++ be 1 (m.funcs.length : Int)) ++ m.funcs.flatMap encF) ++ be 1 m.entry) ++ be 1 (vs.length : Int)) ++ (m.tables.take j).flatMap encT) _ (by decide) (by simp only [List.length_append, be_len, LMAG]; omega) st.out.buf).mono ?_
          rintro e w10 ⟨rfl, v10, bf, kp⟩
          replace st := (show Hid (St w2 B gb w.heap.size img w10 v10 ((((((((magic ++ be 2 (m.text.length : Int)) ++ m.text) ++ be 1 (m.funcs.length : Int)) ++ m.funcs.flatMap encF) ++ be 1 m.entry) ++ be 1 (vs.length : Int)) ++ (m.tables.take j).flatMap encT) ++ be 1 (t.length : Int))) from st.out.next bf kp)
          clear bf kp d0 hc hl
          go_wp2_with fail
          generalize wr = wo at *
          go_loopw [82] (fun u wr => ∃ (i : Nat) (v : Value), i ≤ t.length ∧ u = .int .i64 (i : Int) ∧ Hid (St w2 B gb w.heap.size img wr v (((((((((magic ++ be 2 (m.text.length : Int)) ++ m.text) ++ be 1 (m.funcs.length : Int)) ++ m.funcs.flatMap encF) ++ be 1 m.entry) ++ be 1 (vs.length : Int)) ++ (m.tables.take j).flatMap encT) ++ be 1 (t.length : Int)) ++ (t.take i).flatMap (be 2)))) (fun u _ => (t.length - intOf u).toNat)
          case atStart => exact ⟨0, _, by omega, rfl, by simpa using st⟩
          case round =>
            clear st
            obtain ⟨i, vi, i1, rfl, st⟩ := hrel
            have si : ((t.take i).flatMap (be 2)).length ≤ 40 := by
              have := flatMap_le (be 2) 2 (t.take i) fun x _ => by rw [be_len]; exact Nat.le_refl _
              rw [List.length_take] at this
              omega
            by_cases hi : i < t.length
            · obtain ⟨x, hx⟩ : ∃ x, t[i]? = some x := ⟨_, List.getElem?_eq_getElem (by omega)⟩
              obtain ⟨b2, o2, cap2, hv2, e1, e2, e3, e4⟩ := HTt.out.resolve_left (by rintro ⟨_, _, _, h⟩; rw [h] at hi; simp at hi)
              cases hv2
              have bw := FIN.out _ st.out.kp
              have d2 := (bw.cell (p := ⟨b2, o2 + i * 1 + 0, none⟩) e3).trans (e4 i x hx 0 (.int .i64 x) rfl)
              rw [Nat.mul_one, Nat.add_zero] at d2
              have hii : (i : Int) < (t.length : Int) := by omega
              have HX : Hid _ := flat_take (be 2) hx
              have hc := st.out.buf.cell
              have hl := st.out.buf.lt
              clear e4 hx bw
              go_wp2_with fail
              refine (put_any 2 x B gb _ (((((((((magic ++ be 2 (m.text.length : Int)) ++ m.text) ++ be 1 (m.funcs.length : Int)) ++ m.funcs.flatMap encF) ++ be 1 m.entry) ++ be 1 (vs.length : Int)) ++ (m.tables.take j).flatMap encT) ++ be 1 (t.length : Int)) ++ (t.take i).flatMap (be 2)) _ (by decide) (by simp only [List.length_append, be_len, LMAG]; omega) st.out.buf).mono ?_
              rintro e w11 ⟨rfl, v11, bf, kp⟩
              replace st := (show Hid (St w2 B gb w.heap.size img w11 v11 (((((((((magic ++ be 2 (m.text.length : Int)) ++ m.text) ++ be 1 (m.funcs.length : Int)) ++ m.funcs.flatMap encF) ++ be 1 m.entry) ++ be 1 (vs.length : Int)) ++ (m.tables.take j).flatMap encT) ++ be 1 (t.length : Int)) ++ (t.take (i + 1)).flatMap (be 2))) from by have := st.out.next bf kp; show St _ _ _ _ _ _ _ _; rw [HX.out, ← List.append_assoc]; exact this)
              clear bf kp hc hl d2
              go_wp2
              go_roundw
              case rel => exact ⟨i + 1, _, by omega, by go_num, st.out⟩
              case measure => simp [intOf]; omega
            · have hil : i = t.length := by omega
              replace st := (show Hid (St w2 B gb w.heap.size img wr vi (((((((magic ++ be 2 (m.text.length : Int)) ++ m.text) ++ be 1 (m.funcs.length : Int)) ++ m.funcs.flatMap encF) ++ be 1 m.entry) ++ be 1 (vs.length : Int)) ++ (m.tables.take (j + 1)).flatMap encT)) from by have := st.out; rw [hil, List.take_length] at this; show St _ _ _ _ _ _ _ _; rw [HY.out]; simpa only [encT, List.append_assoc] using this)
              have hl := st.out.buf.lt
              go_wp2
              go_roundw
              case rel => exact ⟨j + 1, _, by omega, by go_num, st.out⟩
              case measure => simp [intOf]; omega
        · have hjl : j = vs.length := by omega
          replace st := (show Hid (St w2 B gb w.heap.size img wr v (((((((magic ++ be 2 (m.text.length : Int)) ++ m.text) ++ be 1 (m.funcs.length : Int)) ++ m.funcs.flatMap encF) ++ be 1 m.entry) ++ be 1 (vs.length : Int)) ++ m.tables.flatMap encT)) from by have := st.out; rwa [hjl, HBl.out, List.take_length, ← HBl.out] at this)
          subst hjl
          generalize wr = wb at *
          obtain ⟨x0, x1, x2, x3, x4, x5⟩ := six_img' HIMG.out st.out
          have hc := st.out.buf.cell
          have hl := st.out.buf.lt
          go_wp2_with fail
          refine (put_any 1 (m.data.length : Int) B gb _ (((((((magic ++ be 2 (m.text.length : Int)) ++ m.text) ++ be 1 (m.funcs.length : Int)) ++ m.funcs.flatMap encF) ++ be 1 m.entry) ++ be 1 (vs.length : Int)) ++ m.tables.flatMap encT) _ (by decide) (by simp only [List.length_append, be_len, LMAG]; omega) st.out.buf).mono ?_
          rintro e w12 ⟨rfl, v12, bf, kp⟩
          replace st := (show Hid (St w2 B gb w.heap.size img w12 v12 ((((((((magic ++ be 2 (m.text.length : Int)) ++ m.text) ++ be 1 (m.funcs.length : Int)) ++ m.funcs.flatMap encF) ++ be 1 m.entry) ++ be 1 (vs.length : Int)) ++ m.tables.flatMap encT) ++ be 1 (m.data.length : Int))) from st.out.next bf kp)
          clear x0 x1 x2 x3 x4 x5 hc hl
          clear bf kp
          obtain ⟨x0, x1, x2, x3, x4, x5⟩ := six_img' HIMG.out st.out
          have hc := st.out.buf.cell
          have hl := st.out.buf.lt
          go_wp2_with fail
          clear x0 x1 x2 x3 x4 x5 hc hl
          go_loopw [99] (fun u wr => ∃ (j : Nat) (v : Value), j ≤ m.data.length ∧ u = .int .i64 (j : Int) ∧ Hid (St w2 B gb w.heap.size img wr v (((((((((magic ++ be 2 (m.text.length : Int)) ++ m.text) ++ be 1 (m.funcs.length : Int)) ++ m.funcs.flatMap encF) ++ be 1 m.entry) ++ be 1 (vs.length : Int)) ++ m.tables.flatMap encT) ++ be 1 (m.data.length : Int)) ++ (m.data.take j).flatMap (be 8)))) (fun u _ => (m.data.length - intOf u).toNat)
          case atStart => exact ⟨0, _, by omega, rfl, by simpa using st⟩
          case round =>
            clear st

            obtain ⟨j, v, j1, rfl, st⟩ := hrel
            have sj := S3.out j
            by_cases hj : j < m.data.length
            · obtain ⟨x, hx⟩ : ∃ x, m.data[j]? = some x := ⟨_, List.getElem?_eq_getElem (by omega)⟩
              obtain ⟨b2, o2, cap2, hv2, e1, e2, e3, e4⟩ := HD.out.resolve_left (by rintro ⟨_, _, _, h⟩; rw [h] at hj; simp at hj)
              cases hv2
              have bw := FIN.out _ st.out.kp
              have d2 := (bw.cell (p := ⟨b2, o2 + j * 1 + 0, none⟩) e3).trans (e4 j x hx 0 (.int .i64 x) rfl)
              rw [Nat.mul_one, Nat.add_zero] at d2
              have hii : (j : Int) < (m.data.length : Int) := by omega
              have HX : Hid _ := flat_take (be 8) hx
              have hc := st.out.buf.cell
              have hl := st.out.buf.lt
              clear e4 hx bw
              go_wp2_with fail
              refine (put_any 8 x B gb _ (((((((((magic ++ be 2 (m.text.length : Int)) ++ m.text) ++ be 1 (m.funcs.length : Int)) ++ m.funcs.flatMap encF) ++ be 1 m.entry) ++ be 1 (vs.length : Int)) ++ m.tables.flatMap encT) ++ be 1 (m.data.length : Int)) ++ (m.data.take j).flatMap (be 8)) _ (by decide) (by simp only [List.length_append, be_len, LMAG]; omega) st.out.buf).mono ?_
              rintro e w13 ⟨rfl, v13, bf, kp⟩
              replace st := (show Hid (St w2 B gb w.heap.size img w13 v13 (((((((((magic ++ be 2 (m.text.length : Int)) ++ m.text) ++ be 1 (m.funcs.length : Int)) ++ m.funcs.flatMap encF) ++ be 1 m.entry) ++ be 1 (vs.length : Int)) ++ m.tables.flatMap encT) ++ be 1 (m.data.length : Int)) ++ (m.data.take (j + 1)).flatMap (be 8))) from by have := st.out.next bf kp; show St _ _ _ _ _ _ _ _; rw [HX.out, ← List.append_assoc]; exact this)
              clear bf kp hc hl d2
              go_wp2
              go_roundw
              case rel => exact ⟨j + 1, _, by omega, by go_num, st.out⟩
              case measure => simp [intOf]; omega
            · have hjl : j = m.data.length := by omega
              replace st := (show Hid (St w2 B gb w.heap.size img wr v (((((((((magic ++ be 2 (m.text.length : Int)) ++ m.text) ++ be 1 (m.funcs.length : Int)) ++ m.funcs.flatMap encF) ++ be 1 m.entry) ++ be 1 (vs.length : Int)) ++ m.tables.flatMap encT) ++ be 1 (m.data.length : Int)) ++ m.data.flatMap (be 8))) from by have := st.out; rwa [hjl, List.take_length] at this)
              subst hjl
              generalize wr = wc at *
              obtain ⟨x0, x1, x2, x3, x4, x5⟩ := six_img' HIMG.out st.out
              have hc := st.out.buf.cell
              have hl := st.out.buf.lt
              go_wp2_with fail
              refine (put_any 2 (m.lines.length : Int) B gb _ (((((((((magic ++ be 2 (m.text.length : Int)) ++ m.text) ++ be 1 (m.funcs.length : Int)) ++ m.funcs.flatMap encF) ++ be 1 m.entry) ++ be 1 (vs.length : Int)) ++ m.tables.flatMap encT) ++ be 1 (m.data.length : Int)) ++ m.data.flatMap (be 8)) _ (by decide) (by simp only [List.length_append, be_len, LMAG]; omega) st.out.buf).mono ?_
              rintro e w14 ⟨rfl, v14, bf, kp⟩
              replace st := (show Hid (St w2 B gb w.heap.size img w14 v14 ((((((((((magic ++ be 2 (m.text.length : Int)) ++ m.text) ++ be 1 (m.funcs.length : Int)) ++ m.funcs.flatMap encF) ++ be 1 m.entry) ++ be 1 (vs.length : Int)) ++ m.tables.flatMap encT) ++ be 1 (m.data.length : Int)) ++ m.data.flatMap (be 8)) ++ be 2 (m.lines.length : Int))) from st.out.next bf kp)
              clear x0 x1 x2 x3 x4 x5 hc hl
              clear bf kp
              obtain ⟨x0, x1, x2, x3, x4, x5⟩ := six_img' HIMG.out st.out
              have hc := st.out.buf.cell
              have hl := st.out.buf.lt
              go_wp2_with fail
              clear x0 x1 x2 x3 x4 x5 hc hl
              go_loopw [115] (fun u wr => ∃ (j : Nat) (v : Value), j ≤ m.lines.length ∧ u = .int .i64 (j : Int) ∧ Hid (St w2 B gb w.heap.size img wr v (((((((((((magic ++ be 2 (m.text.length : Int)) ++ m.text) ++ be 1 (m.funcs.length : Int)) ++ m.funcs.flatMap encF) ++ be 1 m.entry) ++ be 1 (vs.length : Int)) ++ m.tables.flatMap encT) ++ be 1 (m.data.length : Int)) ++ m.data.flatMap (be 8)) ++ be 2 (m.lines.length : Int)) ++ (m.lines.take j).flatMap encLn))) (fun u _ => (m.lines.length - intOf u).toNat)
              case atStart => exact ⟨0, _, by omega, rfl, by simpa using st⟩
              case round =>
                clear st

                obtain ⟨j, v, j1, rfl, st⟩ := hrel
                have sj := S4.out j
                by_cases hj : j < m.lines.length
                · obtain ⟨y, hy⟩ : ∃ y, m.lines[j]? = some y := ⟨_, List.getElem?_eq_getElem (by omega)⟩
                  obtain ⟨bb, oo, cap, hv, c1, c2, c3, c4⟩ := HL.out.resolve_left (by rintro ⟨_, _, _, h⟩; rw [h] at hj; simp at hj)
                  cases hv
                  have bw := FIN.out _ st.out.kp
                  have d0 : wr.cell? ⟨bb, oo + j * 2, none⟩ = some (.int .i64 y.a) := (bw.cell (p := ⟨bb, _, none⟩) c3).trans (c4 j y hy 0 _ rfl)
                  have d1 : wr.cell? ⟨bb, oo + j * 2 + 1, none⟩ = some (.int .i64 y.n) := (bw.cell (p := ⟨bb, _, none⟩) c3).trans (c4 j y hy 1 _ rfl)
                  have hjj : (j : Int) < (m.lines.length : Int) := by omega
                  have HY : Hid _ := flat_take encLn hy
                  have hlw := st.out.buf.lt
                  have hwne : ¬ wr.heap.size = gb := by omega
                  have st2 := st.out.alloc (.cells #[.int .i64 y.a, .int .i64 y.n] 42)
                  have ST2 : Hid _ := st2
                  clear c4 hy bw st2
                  go_wp2_with fail
                  refine (put_any 2 y.a B gb _ (((((((((((magic ++ be 2 (m.text.length : Int)) ++ m.text) ++ be 1 (m.funcs.length : Int)) ++ m.funcs.flatMap encF) ++ be 1 m.entry) ++ be 1 (vs.length : Int)) ++ m.tables.flatMap encT) ++ be 1 (m.data.length : Int)) ++ m.data.flatMap (be 8)) ++ be 2 (m.lines.length : Int)) ++ (m.lines.take j).flatMap encLn) _ (by decide) (by simp only [List.length_append, be_len, LMAG]; omega) ST2.out.buf).mono ?_
                  rintro e w15 ⟨rfl, v15, bf, kp⟩
                  have fb := kp.oth wr.heap.size _ _ _ (block_new wr _) (by decide) hwne
                  replace st := (show Hid (St w2 B gb w.heap.size img w15 v15 ((((((((((((magic ++ be 2 (m.text.length : Int)) ++ m.text) ++ be 1 (m.funcs.length : Int)) ++ m.funcs.flatMap encF) ++ be 1 m.entry) ++ be 1 (vs.length : Int)) ++ m.tables.flatMap encT) ++ be 1 (m.data.length : Int)) ++ m.data.flatMap (be 8)) ++ be 2 (m.lines.length : Int)) ++ (m.lines.take j).flatMap encLn) ++ be 2 y.a)) from ST2.out.next bf kp)
                  have g1 : w15.cell? ⟨wr.heap.size, 1, none⟩ = some (.int .i64 y.n) := by simp [World.cell?, fb]
                  clear bf kp fb
                  go_wp2_with fail
                  refine (put_any 2 y.n B gb _ ((((((((((((magic ++ be 2 (m.text.length : Int)) ++ m.text) ++ be 1 (m.funcs.length : Int)) ++ m.funcs.flatMap encF) ++ be 1 m.entry) ++ be 1 (vs.length : Int)) ++ m.tables.flatMap encT) ++ be 1 (m.data.length : Int)) ++ m.data.flatMap (be 8)) ++ be 2 (m.lines.length : Int)) ++ (m.lines.take j).flatMap encLn) ++ be 2 y.a) _ (by decide) (by simp only [List.length_append, be_len, LMAG]; omega) st.out.buf).mono ?_
                  rintro e w16 ⟨rfl, v16, bf, kp⟩
                  replace st := (show Hid (St w2 B gb w.heap.size img w16 v16 (((((((((((magic ++ be 2 (m.text.length : Int)) ++ m.text) ++ be 1 (m.funcs.length : Int)) ++ m.funcs.flatMap encF) ++ be 1 m.entry) ++ be 1 (vs.length : Int)) ++ m.tables.flatMap encT) ++ be 1 (m.data.length : Int)) ++ m.data.flatMap (be 8)) ++ be 2 (m.lines.length : Int)) ++ (m.lines.take (j + 1)).flatMap encLn)) from by have := st.out.next bf kp; show St _ _ _ _ _ _ _ _; rw [HY.out]; simpa only [encLn, List.append_assoc] using this)
                  clear bf kp g1 d0 d1 ST2
                  go_wp2
                  go_roundw
                  case rel => exact ⟨j + 1, _, by omega, by go_num, st.out⟩
                  case measure => simp [intOf]; omega
                · have hjl : j = m.lines.length := by omega
                  have hfin := st.out
                  rw [hjl, List.take_length, HBl.out] at hfin
                  have HFI : Hid (St w2 B gb w.heap.size img wr v (encImg m)) := hfin
                  have hc := st.out.buf.cell
                  clear hfin
                  go_wp2
                  go_ret2
                  exact Or.inr ⟨Q0.out, _, rfl, ⟨B, by omega, HFI.out.buf.own⟩, FIN.out _ HFI.out.kp⟩
end Go.Proofs.Ytmibbjjfijcgpac
