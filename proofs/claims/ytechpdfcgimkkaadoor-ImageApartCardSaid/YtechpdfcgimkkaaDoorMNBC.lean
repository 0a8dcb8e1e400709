/-
  image.Encode's put.
-/
import Derived.Test.YtechpdfcgimkkaaDoorMCC
import Derived.Test.YtechpdfcgimkkaaDoorMQC
import Derived.Test.YtechpdfcgimkkaaDoorMZC
import Derived.Test.YtechpdfcgimkkaaDoorMNAC
namespace Go.Proofs.YtechpdfcgimkkaaDoor
open Go.RowKit Go.Joins
set_option maxRecDepth 100000
set_option maxHeartbeats 4000000 in
theorem put_any (wd : Nat) (n : Int) (B gb : Nat) (v : Value) (ns : List Int) (w : World) (hw : wd ≤ 8) (hn : ns.length ≤ 100000) (h : Buf w B gb v ns) :
    Calls Tryd.prog 40 #[.int .i64 wd, .int .i64 n, .pointer (some ⟨gb, 0, none⟩)] w fun e w' => e = .returned (.tuple #[]) ∧ ∃ v', Buf w' B gb v' (ns ++ be wd n) ∧ Keep B gb w w' := by
  obtain ⟨i0, hi, hz0, hz1, hz2⟩ := info_of inByte
  have HB : Hid (Buf w B gb v ns) := h
  clear h
  go_enter Tryd.func40, Tryd.ntmps40
  go_wp2_with fail
  go_loopw [5] (fun u wr => ∃ (j : Nat) (x : Int) (v' : Value), j ≤ wd ∧ u = .int .i64 x ∧ x = (j : Int) - 1 ∧ Hid (Buf wr B gb v' (ns ++ (be wd n).take (wd - j))) ∧ Hid (Keep B gb w wr)) (fun u _ => (intOf u + 1).toNat)
  case atStart => exact ⟨wd, _, v, by omega, rfl, by go_num, by show Buf _ _ _ _ _; rw [Nat.sub_self, List.take_zero, List.append_nil]; exact HB.out, Keep.refl _ _ _⟩
  case round =>
    obtain ⟨j, x, v', j1, rfl, hx, bf, kp⟩ := hrel
    by_cases hj : 1 ≤ j
    · obtain ⟨p, rfl⟩ : ∃ i, j = i + 1 := ⟨j - 1, by omega⟩
      obtain rfl : x = (p : Int) := by omega
      clear hx
      have hc := bf.out.cell
      have hf := bf.out.frozen
      have hlt := bf.out.lt
      have hbt := be_take wd n p (by omega)
      have hln : (ns ++ (be wd n).take (wd - (p + 1))).length ≤ 100008 := by rw [List.length_append, List.length_take, be_len]; omega
      obtain ⟨ms, hms⟩ : ∃ ms, ns ++ (be wd n).take (wd - (p + 1)) = ms := ⟨_, rfl⟩
      rw [hms] at bf hln
      have HT : Hid (ns ++ (be wd n).take (wd - p) = ms ++ [n / 2 ^ (8 * p) % 256]) := by show _ = _; rw [hbt, ← List.append_assoc, hms]
      clear hbt hms
      have hp : p ≤ 7 := by omega
      have hge := bf.out.ge
      have e0 : IntKind.i64.wrap (8 * (p : Int)) = 8 * (p : Int) := by rw [IntKind.wrap_i64]; omega
      have e1 : (8 * (p : Int)).toNat = 8 * p := by omega
      have e2 : (0 : Int) ≤ 8 * (p : Int) := by omega
      have e3 : 8 * (p : Int) ≤ 64 := by omega
      obtain ⟨v2, W2, hr, hbx, ⟨a2, l2, k2, rfl⟩, r1, r2⟩ := buf_one bf.out (IntKind.u8.wrap (n / 2 ^ (8 * p))) (by omega) 23
      have HR : Hid _ := hr
      have t0 : W2.cell? ⟨gb, 0, none⟩ = some v' := by simp [World.cell?, hbx]
      have t1 : W2.frozen? ⟨gb, 0, none⟩ = false := by simp [World.frozen?, hbx]
      have hwrap : IntKind.u8.wrap (n / 2 ^ (8 * p)) = n / 2 ^ (8 * p) % 256 := by rw [IntKind.wrap_u8]
      rw [hwrap, ← HT.out] at r1
      have R1 : Hid _ := r1
      have R2 : Hid _ := r2
      clear hr hbx r1 r2 hwrap
      go_wp2_with fail
      go_region_law (refine step_append_two rfl (.tmp 12) (.tmp 18) 23 23 rfl _ _ rfl rfl HR.out ?_)
      all_goals
        go_wp2
        go_roundw
        case rel => exact ⟨p, _, _, by omega, rfl, by go_num, R1.out, kp.out.trans R2.out⟩
        case measure => simp [intOf]
    · obtain rfl : j = 0 := by omega
      obtain rfl : x = -1 := by omega
      clear hx
      have hfin := bf.out
      rw [Nat.sub_zero, List.take_of_length_le (by rw [be_len]; exact Nat.le_refl _)] at hfin
      have HF : Hid _ := hfin
      clear hfin
      go_wp2
      go_end0
      exact ⟨rfl, _, HF.out, kp.out⟩
end Go.Proofs.YtechpdfcgimkkaaDoor
/-
  image.Encode: what P2.3 says.
-/
namespace Go.Proofs.YtechpdfcgimkkaaDoor
open Go.RowKit Go.Joins
/-- Where Encode stands: the bytes so far, the image's box, what was there. -/
structure ISt (w2 : World) (B gb g0 : Nat) (img : List Value) (w : World) (v : Value) (ns : List Int) : Prop where
  buf : Buf w B gb v ns
  kp : Keep B gb w2 w
  box : ∀ (o : Nat) (u : Value), img[o]? = some u → w.cell? ⟨g0, o, none⟩ = some u
  lt : g0 < B
theorem ISt.next {w2 : World} {B gb g0 : Nat} {img : List Value} {w w' : World} {v v' : Value} {ns ns' : List Int} (h : ISt w2 B gb g0 img w v ns) (hb : Buf w' B gb v' ns') (hk : Keep B gb w w') : ISt w2 B gb g0 img w' v' ns' :=
  ⟨hb, h.kp.trans hk, fun o u hu => (hk.bel.cell (p := ⟨g0, o, none⟩) h.lt).trans (h.box o u hu), h.lt⟩
theorem ISt.alloc {w2 : World} {B gb g0 : Nat} {img : List Value} {w : World} {v : Value} {ns : List Int} (h : ISt w2 B gb g0 img w v ns) (o : Obj) : ISt w2 B gb g0 img (w.alloc o) v ns :=
  h.next (h.buf.kept ((Below.refl _ _).alloc (Nat.le_refl _) o)) ((Keep.refl _ _ _).alloc (by have := h.buf.ge; have := h.buf.lt; omega) o)
theorem six_box {w2 : World} {B gb g0 : Nat} {a b c d e f : Value} {w : World} {v : Value} {ns : List Int} (h : ISt w2 B gb g0 [a, b, c, d, e, f] w v ns) :
    w.cell? ⟨g0, 0, none⟩ = some a ∧ w.cell? ⟨g0, 1, none⟩ = some b ∧ w.cell? ⟨g0, 2, none⟩ = some c ∧ w.cell? ⟨g0, 3, none⟩ = some d ∧ w.cell? ⟨g0, 4, none⟩ = some e ∧ w.cell? ⟨g0, 5, none⟩ = some f :=
  ⟨h.box 0 a rfl, h.box 1 b rfl, h.box 2 c rfl, h.box 3 d rfl, h.box 4 e rfl, h.box 5 f rfl⟩
theorem six_img' {w2 : World} {B gb g0 : Nat} {a b c d e f : Value} {img : List Value} {w : World} {v : Value} {ns : List Int} (hi : [a, b, c, d, e, f] = img) (h : ISt w2 B gb g0 img w v ns) :
    w.cell? ⟨g0, 0, none⟩ = some a ∧ w.cell? ⟨g0, 1, none⟩ = some b ∧ w.cell? ⟨g0, 2, none⟩ = some c ∧ w.cell? ⟨g0, 3, none⟩ = some d ∧ w.cell? ⟨g0, 4, none⟩ = some e ∧ w.cell? ⟨g0, 5, none⟩ = some f := by
  subst hi; exact six_box h
theorem block_new (w : World) (o : Obj) : (w.alloc o).heap[w.heap.size]? = some o := by show (w.heap.push _)[w.heap.size]? = _; simp
set_option maxRecDepth 100000 in
set_option maxHeartbeats 16000000 in
theorem encode_img (vT vF vB vD vL : Value) (m : Img) (w : World) (hI : ImgAt w vT vF vB vD vL m) (hok : m.ok) :
    Calls Tryd.prog 17 #[.agg #[vT, vF, vB, vD, vL, .int .i64 m.entry]] w fun e w' =>
      (imgChk m ≠ 0 ∧ e = .returned (.tuple #[.slice none 0 0, .int .i64 (imgChk m)]) ∧ Below w.heap.size w w') ∨
      (imgChk m = 0 ∧ ∃ v, e = .returned (.tuple #[v, .int .i64 0]) ∧ (∃ B, w.heap.size ≤ B ∧ Own w' B v (encImg m)) ∧ Below w.heap.size w w') := by
  obtain ⟨aT, cT, rfl, lT⟩ := hI.text.form
  obtain ⟨aF, cF, rfl, lF⟩ := hI.funcs.form
  obtain ⟨aD, cD, rfl, lD⟩ := hI.data.form
  obtain ⟨aL, cL, rfl, lL⟩ := hI.lines.form
  obtain ⟨vs, hB, hBl, hBe⟩ := hI.tables
  obtain ⟨aB, cB, rfl, lB⟩ := hB.form
  unfold maxLen at lT lF lB lD lL
  have HO : Hid m.ok := hok
  have HT : Hid (ListAt w ucell 1 (.slice aT m.text.length cT) m.text) := hI.text
  have HF : Hid (ListAt w Fn.cells 3 (.slice aF m.funcs.length cF) m.funcs) := hI.funcs
  have HBa : Hid (ListAt w vcell 1 (.slice aB vs.length cB) vs) := hB
  have HBe : Hid (∀ (j : Nat) (u : Value) (t : List Int), vs[j]? = some u → m.tables[j]? = some t → ListAt w icell 1 u t) := hBe
  have HBl : Hid (vs.length = m.tables.length) := hBl
  have HD : Hid (ListAt w icell 1 (.slice aD m.data.length cD) m.data) := hI.data
  have HL : Hid (ListAt w Ln.cells 2 (.slice aL m.lines.length cL) m.lines) := hI.lines
  have HI : Hid (ImgAt w (.slice aT m.text.length cT) (.slice aF m.funcs.length cF) (.slice aB vs.length cB) (.slice aD m.data.length cD) (.slice aL m.lines.length cL) m) := hI
  clear hok hI hB hBl hBe
  go_enter Tryd.func17, Tryd.ntmps17
  go_wp2_with fail
  have b0 : Below w.heap.size w (w.alloc (.cells #[.slice aT m.text.length cT, .slice aF m.funcs.length cF, .slice aB vs.length cB, .slice aD m.data.length cD, .slice aL m.lines.length cL, .int .i64 m.entry] 29)) := (Below.refl _ _).alloc (Nat.le_refl _) _
  refine (icheck_any _ _ _ _ _ m _ (HI.out.stays (Nat.le_refl _) b0) HO.out).mono ?_
  rintro e w1 ⟨rfl, hb1⟩
  have x := belc hb1 w.heap.size
  have x0 := x 0 (by simp); have x1 := x 1 (by simp); have x2 := x 2 (by simp); have x3 := x 3 (by simp); have x4 := x 4 (by simp); have x5 := x 5 (by simp)
  simp at x0 x1 x2 x3 x4 x5
  have z1 : w.heap.size < w1.heap.size := (by have := hb1.size; simp at this; omega)
  have B1 : Hid (Below w.heap.size w w1) := b0.trans (hb1.mono (by simp))
  clear x hb1 b0
  by_cases q0 : imgChk m = 0
  rotate_left
  · have q0b : (imgChk m != 0) = true := by simp [q0]
    have Q0 : Hid (imgChk m ≠ 0) := q0
    clear q0
    go_wp2
    go_ret2
    exact Or.inl ⟨Q0.out, rfl, B1.out⟩
  obtain ⟨hM, _, _⟩ := may_of m q0
  obtain ⟨s1, s2, s3, s4⟩ := sums m hM
  have M1 : m.text.length ≤ 8000 := hM.text
  have HM : Hid (May m) := hM
  have S1 : Hid _ := s1
  have S2 : Hid _ := s2
  have S3 : Hid _ := s3
  have S4 : Hid _ := s4
  have Q0 : Hid (imgChk m = 0) := q0
  rw [q0]
  clear hM s1 s2 s3 s4 q0
  obtain ⟨w2, hw2⟩ : ∃ w2, (w1.alloc (.cells #[.int .u8 98, .int .u8 104, .int .u8 49, .int .u8 10] 5 (4, 5))).alloc (.cells #[.slice (some ⟨w1.heap.size, 0, none⟩) 4 4] 23) = w2 := ⟨_, rfl⟩
  have st : Hid (ISt w2 w1.heap.size (w1.heap.size + 1) w.heap.size [.slice aT m.text.length cT, .slice aF m.funcs.length cF, .slice aB vs.length cB, .slice aD m.data.length cD, .slice aL m.lines.length cL, .int .i64 m.entry] w2 (.slice (some ⟨w1.heap.size, 0, none⟩) 4 4) magic) := by
    have bb : Below w1.heap.size w1 w2 := by rw [← hw2]; exact ((Below.refl _ _).alloc (Nat.le_refl _) _).alloc (by simp) _
    refine ⟨⟨?_, Or.inr ⟨w1.heap.size, rfl, Nat.le_refl _, (4, 5), ?_⟩, by omega⟩, Keep.refl _ _ _, ?_, z1⟩
    · rw [← hw2]; have := block_new (w1.alloc (.cells #[.int .u8 98, .int .u8 104, .int .u8 49, .int .u8 10] 5 (4, 5))) (.cells #[.slice (some ⟨w1.heap.size, 0, none⟩) 4 4] 23); simpa using this
    · rw [← hw2]; show ((w1.heap.push _).push _)[w1.heap.size]? = _; rw [Array.getElem?_push_lt (by simp), Array.getElem_push_eq]; rfl
    · intro o u hu
      refine (bb.cell (p := ⟨w.heap.size, o, none⟩) z1).trans ?_
      match o, hu with
      | 0, hu => cases hu; exact x0
      | 1, hu => cases hu; exact x1
      | 2, hu => cases hu; exact x2
      | 3, hu => cases hu; exact x3
      | 4, hu => cases hu; exact x4
      | 5, hu => cases hu; exact x5
  have cv : (convert 23 23 (.slice (some ⟨w1.heap.size, 0, none⟩) 4 4)).run Tryd.prog (w1.alloc (.cells #[.int .u8 98, .int .u8 104, .int .u8 49, .int .u8 10] 5)) = .ok (.slice (some ⟨w1.heap.size, 0, none⟩) 4 4) (w1.alloc (.cells #[.int .u8 98, .int .u8 104, .int .u8 49, .int .u8 10] 5 (4, 5))) := Lib.run_convert_bytes_const w1 23 5 #[.int .u8 98, .int .u8 104, .int .u8 49, .int .u8 10] 4 4 Tryd.underlying23 Tryd.underlying5
  have B2 : Hid (Below w1.heap.size w1 w2) := by show Below _ _ _; rw [← hw2]; exact ((Below.refl _ _).alloc (Nat.le_refl _) _).alloc (by simp) _
  have HW2 : Hid _ := hw2
  clear hw2
  have FIN : Hid (∀ wz, Keep w1.heap.size (w1.heap.size + 1) w2 wz → Below w.heap.size w wz) := fun wz hk => B1.out.trans ((B2.out.trans hk.bel).mono (by omega))
  obtain ⟨img, himg⟩ : ∃ img, [Value.slice aT m.text.length cT, .slice aF m.funcs.length cF, .slice aB vs.length cB, .slice aD m.data.length cD, .slice aL m.lines.length cL, .int .i64 m.entry] = img := ⟨_, rfl⟩
  rw [himg] at st
  have HIMG : Hid _ := himg
  clear himg
  generalize hgb : w1.heap.size + 1 = gb at *
  generalize hBB : w1.heap.size = B at *
  have z2 : w.heap.size < gb := by omega
  have z3 : w.heap.size < B + 1 := by omega
  have LMAG : magic.length = 4 := rfl
  have L1 : (m.funcs.flatMap encF).length ≤ 760 := by have := S1.out m.funcs.length; rwa [List.take_length] at this
  have L2 : (m.tables.flatMap encT).length ≤ 820 := by have := S2.out m.tables.length; rwa [List.take_length] at this
  have L3 : (m.data.flatMap (be 8)).length ≤ 512 := by have := S3.out m.data.length; rwa [List.take_length] at this
  have L4 : (m.lines.flatMap encLn).length ≤ 16000 := by have := S4.out m.lines.length; rwa [List.take_length] at this
  have hc := st.out.buf.cell
  have hl := st.out.buf.lt
  go_wp2_with fail
  rw [HW2.out]
  clear cv
  refine (put_any 2 (m.text.length : Int) B gb _ (magic) _ (by decide) (by rw [LMAG]; decide) st.out.buf).mono ?_
  rintro e w3 ⟨rfl, v3, bf, kp⟩
  replace st := (show Hid (ISt w2 B gb w.heap.size img w3 v3 ((magic) ++ be 2 (m.text.length : Int))) from st.out.next bf kp)
  clear x0 x1 x2 x3 x4 x5 hc hl
  clear bf kp
  obtain ⟨vA, WA, hr, hbx, ⟨aA, nA, kA, rfl⟩, bf, kp⟩ := buf_app st.out.buf (.slice aT m.text.length cT) m.text (HT.out.stays (Nat.le_refl _) (FIN.out _ st.out.kp)) (by simp only [List.length_append, be_len, LMAG]; omega) 23
  have HR : Hid _ := hr
  have c1 : WA.cell? ⟨gb, 0, none⟩ = some v3 := by simp [World.cell?, hbx]
  have c2 : WA.frozen? ⟨gb, 0, none⟩ = false := by simp [World.frozen?, hbx]
  obtain ⟨x0, x1, x2, x3, x4, x5⟩ := six_img' HIMG.out st.out
  have hc := st.out.buf.cell
  replace st := (show Hid (ISt w2 B gb w.heap.size img (WA.setCell ⟨gb, 0, none⟩ (.slice aA nA kA)) (.slice aA nA kA) ((magic ++ be 2 (m.text.length : Int)) ++ m.text)) from st.out.next bf kp)
  obtain ⟨y0, y1, y2, y3, y4, y5⟩ := six_img' HIMG.out st.out
  have hne : ¬ w.heap.size = gb := by omega
  have ye : ∀ o, (WA.setCell ⟨gb, 0, none⟩ (.slice aA nA kA)).cell? ⟨w.heap.size, o, none⟩ = WA.cell? ⟨w.heap.size, o, none⟩ := fun o => World.cell?_of_block (a := ⟨w.heap.size, o, none⟩) (heap_setCell_other WA ⟨gb, 0, none⟩ w.heap.size _ (by simpa using hne))
  rw [ye] at y0 y1 y2 y3 y4 y5
  clear hr hbx bf kp ye
  go_wp2_with (first | (at_builtin; refine wpList_append_two _ rfl (.tmp 30) (.tmp 32) 23 23 rfl _ _ rfl rfl HR.out ?_))
  refine (put_any 1 (m.funcs.length : Int) B gb _ ((magic ++ be 2 (m.text.length : Int)) ++ m.text) _ (by decide) (by simp only [List.length_append, be_len, LMAG]; omega) st.out.buf).mono ?_
  rintro e w4 ⟨rfl, v4, bf, kp⟩
  replace st := (show Hid (ISt w2 B gb w.heap.size img w4 v4 (((magic ++ be 2 (m.text.length : Int)) ++ m.text) ++ be 1 (m.funcs.length : Int))) from st.out.next bf kp)
  clear x0 x1 x2 x3 x4 x5 hc y0 y1 y2 y3 y4 y5 c1 c2 HR
  clear bf kp
  obtain ⟨x0, x1, x2, x3, x4, x5⟩ := six_img' HIMG.out st.out
  have hc := st.out.buf.cell
  have hl := st.out.buf.lt
  go_wp2_with fail
  clear x0 x1 x2 x3 x4 x5 hc hl
  go_loopw [42] (fun u wr => ∃ (j : Nat) (v : Value), j ≤ m.funcs.length ∧ u = .int .i64 (j : Int) ∧ Hid (ISt w2 B gb w.heap.size img wr v ((((magic ++ be 2 (m.text.length : Int)) ++ m.text) ++ be 1 (m.funcs.length : Int)) ++ (m.funcs.take j).flatMap encF))) (fun u _ => (m.funcs.length - intOf u).toNat)
  case atStart => exact ⟨0, _, by omega, rfl, by simpa using st⟩
  case round =>
    clear st

    obtain ⟨j, v, j1, rfl, st⟩ := hrel
    have sj := S1.out j
    by_cases hj : j < m.funcs.length
    · obtain ⟨y, hy⟩ : ∃ y, m.funcs[j]? = some y := ⟨_, List.getElem?_eq_getElem (by omega)⟩
      obtain ⟨bb, oo, cap, hv, c1, c2, c3, c4⟩ := HF.out.resolve_left (by rintro ⟨_, _, _, h⟩; rw [h] at hj; simp at hj)
      cases hv
      have bw := FIN.out _ st.out.kp
      have d0 : wr.cell? ⟨bb, oo + j * 3, none⟩ = some (.string y.name) := (bw.cell (p := ⟨bb, _, none⟩) c3).trans (c4 j y hy 0 _ rfl)
      have d1 : wr.cell? ⟨bb, oo + j * 3 + 1, none⟩ = some (.int .i64 y.start) := (bw.cell (p := ⟨bb, _, none⟩) c3).trans (c4 j y hy 1 _ rfl)
      have d2 : wr.cell? ⟨bb, oo + j * 3 + 2, none⟩ = some (.int .i64 y.size) := (bw.cell (p := ⟨bb, _, none⟩) c3).trans (c4 j y hy 2 _ rfl)
      obtain ⟨k1, k2⟩ := HM.out.funcs y (List.mem_of_getElem? hy)
      have hjj : (j : Int) < (m.funcs.length : Int) := by omega
      have HY : Hid _ := flat_take encF hy
      have hlw := st.out.buf.lt
      have hwne : ¬ wr.heap.size = gb := by omega
      have st2 := st.out.alloc (.cells #[.string y.name, .int .i64 y.start, .int .i64 y.size] 47)
      have ST2 : Hid _ := st2
      clear c4 hy bw st2
      go_wp2_with fail
      refine (put_any 1 (y.name.size : Int) B gb _ ((((magic ++ be 2 (m.text.length : Int)) ++ m.text) ++ be 1 (m.funcs.length : Int)) ++ (m.funcs.take j).flatMap encF) _ (by decide) (by simp only [List.length_append, be_len, LMAG]; omega) ST2.out.buf).mono ?_
      rintro e w5 ⟨rfl, v5, bf, kp⟩
      have fb := kp.oth wr.heap.size _ _ _ (block_new wr _) (by decide) hwne
      replace st := (show Hid (ISt w2 B gb w.heap.size img w5 v5 (((((magic ++ be 2 (m.text.length : Int)) ++ m.text) ++ be 1 (m.funcs.length : Int)) ++ (m.funcs.take j).flatMap encF) ++ be 1 (y.name.size : Int))) from ST2.out.next bf kp)
      have g0 : w5.cell? ⟨wr.heap.size, 0, none⟩ = some (.string y.name) := by simp [World.cell?, fb]
      have g2 : w5.cell? ⟨wr.heap.size, 2, none⟩ = some (.int .i64 y.size) := by simp [World.cell?, fb]
      have hc := st.out.buf.cell
      obtain ⟨vN, WN, hr, hbx, ⟨aN, nN, kN, rfl⟩, bf2, kp2⟩ := buf_str st.out.buf y.name (by simp only [List.length_append, be_len, LMAG]; omega) (by omega) 23
      have HR : Hid _ := hr
      have c5 : WN.cell? ⟨gb, 0, none⟩ = some v5 := by simp [World.cell?, hbx]
      have c6 : WN.frozen? ⟨gb, 0, none⟩ = false := by simp [World.frozen?, hbx]
      have fb2 := kp2.oth wr.heap.size _ _ _ fb (by decide) hwne
      have fb3 : WN.heap[wr.heap.size]? = some (.cells #[.string y.name, .int .i64 y.start, .int .i64 y.size] 47) := (heap_setCell_other WN ⟨gb, 0, none⟩ wr.heap.size _ (by simpa using hwne)).symm.trans fb2
      have g3 : WN.cell? ⟨wr.heap.size, 2, none⟩ = some (.int .i64 y.size) := by simp [World.cell?, fb3]
      replace st := (show Hid (ISt w2 B gb w.heap.size img (WN.setCell ⟨gb, 0, none⟩ (.slice aN nN kN)) (.slice aN nN kN) ((((((magic ++ be 2 (m.text.length : Int)) ++ m.text) ++ be 1 (m.funcs.length : Int)) ++ (m.funcs.take j).flatMap encF) ++ be 1 (y.name.size : Int)) ++ nameB y.name)) from st.out.next bf2 kp2)
      clear hr hbx bf kp bf2 kp2 fb fb2 fb3
      go_wp2_with (first | (at_builtin; refine wpList_append_two _ rfl (.tmp 51) (.tmp 53) 23 9 rfl _ _ rfl rfl HR.out ?_))
      refine (put_any 2 y.size B gb _ ((((((magic ++ be 2 (m.text.length : Int)) ++ m.text) ++ be 1 (m.funcs.length : Int)) ++ (m.funcs.take j).flatMap encF) ++ be 1 (y.name.size : Int)) ++ nameB y.name) _ (by decide) (by simp only [List.length_append, be_len, nameB_len, LMAG]; omega) st.out.buf).mono ?_
      rintro e w7 ⟨rfl, v7, bf, kp⟩
      replace st := (show Hid (ISt w2 B gb w.heap.size img w7 v7 ((((magic ++ be 2 (m.text.length : Int)) ++ m.text) ++ be 1 (m.funcs.length : Int)) ++ (m.funcs.take (j + 1)).flatMap encF)) from by have := st.out.next bf kp; show ISt _ _ _ _ _ _ _ _; rw [HY.out]; simpa only [encF, List.append_assoc] using this)
      clear bf kp g0 g2 g3 c5 c6 hc d0 d1 d2 HR ST2
      go_wp2
      go_roundw
      case rel => exact ⟨j + 1, _, by omega, by go_num, st.out⟩
      case measure => simp [intOf]; omega
    · have hjl : j = m.funcs.length := by omega
      replace st := (show Hid (ISt w2 B gb w.heap.size img wr v ((((magic ++ be 2 (m.text.length : Int)) ++ m.text) ++ be 1 (m.funcs.length : Int)) ++ m.funcs.flatMap encF)) from by have := st.out; rwa [hjl, List.take_length] at this)
      subst hjl
      generalize wr = wa at *
      obtain ⟨x0, x1, x2, x3, x4, x5⟩ := six_img' HIMG.out st.out
      have hc := st.out.buf.cell
      have hl := st.out.buf.lt
      go_wp2_with fail
      refine (put_any 1 m.entry B gb _ ((((magic ++ be 2 (m.text.length : Int)) ++ m.text) ++ be 1 (m.funcs.length : Int)) ++ m.funcs.flatMap encF) _ (by decide) (by simp only [List.length_append, be_len, LMAG]; omega) st.out.buf).mono ?_
      rintro e w8 ⟨rfl, v8, bf, kp⟩
      replace st := (show Hid (ISt w2 B gb w.heap.size img w8 v8 (((((magic ++ be 2 (m.text.length : Int)) ++ m.text) ++ be 1 (m.funcs.length : Int)) ++ m.funcs.flatMap encF) ++ be 1 m.entry)) from st.out.next bf kp)
      clear x0 x1 x2 x3 x4 x5 hc hl
      clear bf kp
      obtain ⟨x0, x1, x2, x3, x4, x5⟩ := six_img' HIMG.out st.out
      have hc := st.out.buf.cell
      have hl := st.out.buf.lt
      go_wp2_with fail
      refine (put_any 1 (vs.length : Int) B gb _ (((((magic ++ be 2 (m.text.length : Int)) ++ m.text) ++ be 1 (m.funcs.length : Int)) ++ m.funcs.flatMap encF) ++ be 1 m.entry) _ (by decide) (by simp only [List.length_append, be_len, LMAG]; omega) st.out.buf).mono ?_
      rintro e w9 ⟨rfl, v9, bf, kp⟩
      replace st := (show Hid (ISt w2 B gb w.heap.size img w9 v9 ((((((magic ++ be 2 (m.text.length : Int)) ++ m.text) ++ be 1 (m.funcs.length : Int)) ++ m.funcs.flatMap encF) ++ be 1 m.entry) ++ be 1 (vs.length : Int))) from st.out.next bf kp)
      clear x0 x1 x2 x3 x4 x5 hc hl
      clear bf kp
      obtain ⟨x0, x1, x2, x3, x4, x5⟩ := six_img' HIMG.out st.out
      have hc := st.out.buf.cell
      have hl := st.out.buf.lt
      go_wp2_with fail
      clear x0 x1 x2 x3 x4 x5 hc hl
      go_loopw [72] (fun u wr => ∃ (j : Nat) (v : Value), j ≤ vs.length ∧ u = .int .i64 (j : Int) ∧ Hid (ISt w2 B gb w.heap.size img wr v (((((((magic ++ be 2 (m.text.length : Int)) ++ m.text) ++ be 1 (m.funcs.length : Int)) ++ m.funcs.flatMap encF) ++ be 1 m.entry) ++ be 1 (vs.length : Int)) ++ (m.tables.take j).flatMap encT))) (fun u _ => (vs.length - intOf u).toNat)
      case atStart => exact ⟨0, _, by omega, rfl, by simpa using st⟩
      case round =>
        clear st

        obtain ⟨j, v, j1, rfl, st⟩ := hrel
        have sj := S2.out j
        by_cases hj : j < vs.length
        · obtain ⟨y, hy⟩ : ∃ y, vs[j]? = some y := ⟨_, List.getElem?_eq_getElem (by omega)⟩
          obtain ⟨t, ht⟩ : ∃ t, m.tables[j]? = some t := ⟨_, List.getElem?_eq_getElem (by have := HBl.out; omega)⟩
          obtain ⟨bb, oo, cap, hv, c1, c2, c3, c4⟩ := HBa.out.resolve_left (by rintro ⟨_, _, _, h⟩; rw [h] at hj; simp at hj)
          cases hv
          have bw := FIN.out _ st.out.kp
          have d0 := (bw.cell (p := ⟨bb, oo + j * 1 + 0, none⟩) c3).trans (c4 j y hy 0 y rfl)
          rw [Nat.mul_one, Nat.add_zero] at d0
          have hT := HBe.out j y t hy ht
          obtain ⟨a1, n1, rfl, hlt⟩ := hT.form
          have HTt : Hid (ListAt w icell 1 (.slice a1 t.length n1) t) := hT
          unfold maxLen at hlt
          obtain ⟨k1, _⟩ := HM.out.tables t (List.mem_of_getElem? ht)
          have hjj : (j : Int) < (vs.length : Int) := by omega
          have HY : Hid _ := flat_take encT ht
          have hc := st.out.buf.cell
          have hl := st.out.buf.lt
          clear c4 hy ht hT bw
          go_wp2_with fail
          refine (put_any 1 (t.length : Int) B gb _ (((((((magic ++ be 2 (m.text.length : Int)) ++ m.text) ++ be 1 (m.funcs.length : Int)) ++ m.funcs.flatMap encF) ++ be 1 m.entry) ++ be 1 (vs.length : Int)) ++ (m.tables.take j).flatMap encT) _ (by decide) (by simp only [List.length_append, be_len, LMAG]; omega) st.out.buf).mono ?_
          rintro e w10 ⟨rfl, v10, bf, kp⟩
          replace st := (show Hid (ISt w2 B gb w.heap.size img w10 v10 ((((((((magic ++ be 2 (m.text.length : Int)) ++ m.text) ++ be 1 (m.funcs.length : Int)) ++ m.funcs.flatMap encF) ++ be 1 m.entry) ++ be 1 (vs.length : Int)) ++ (m.tables.take j).flatMap encT) ++ be 1 (t.length : Int))) from st.out.next bf kp)
          clear bf kp d0 hc hl
          go_wp2_with fail
          generalize wr = wo at *
          go_loopw [82] (fun u wr => ∃ (i : Nat) (v : Value), i ≤ t.length ∧ u = .int .i64 (i : Int) ∧ Hid (ISt w2 B gb w.heap.size img wr v (((((((((magic ++ be 2 (m.text.length : Int)) ++ m.text) ++ be 1 (m.funcs.length : Int)) ++ m.funcs.flatMap encF) ++ be 1 m.entry) ++ be 1 (vs.length : Int)) ++ (m.tables.take j).flatMap encT) ++ be 1 (t.length : Int)) ++ (t.take i).flatMap (be 2)))) (fun u _ => (t.length - intOf u).toNat)
          case atStart => exact ⟨0, _, by omega, rfl, by simpa using st⟩
          case round =>
            clear st
            obtain ⟨i, vi, i1, rfl, st⟩ := hrel
            have si : ((t.take i).flatMap (be 2)).length ≤ 40 := by
              have := flatMap_le (be 2) 2 (t.take i) fun x _ => by rw [be_len]; exact Nat.le_refl _
              rw [List.length_take] at this
              omega
            by_cases hi : i < t.length
            · obtain ⟨x, hx⟩ : ∃ x, t[i]? = some x := ⟨_, List.getElem?_eq_getElem (by omega)⟩
              obtain ⟨b2, o2, cap2, hv2, e1, e2, e3, e4⟩ := HTt.out.resolve_left (by rintro ⟨_, _, _, h⟩; rw [h] at hi; simp at hi)
              cases hv2
              have bw := FIN.out _ st.out.kp
              have d2 := (bw.cell (p := ⟨b2, o2 + i * 1 + 0, none⟩) e3).trans (e4 i x hx 0 (.int .i64 x) rfl)
              rw [Nat.mul_one, Nat.add_zero] at d2
              have hii : (i : Int) < (t.length : Int) := by omega
              have HX : Hid _ := flat_take (be 2) hx
              have hc := st.out.buf.cell
              have hl := st.out.buf.lt
              clear e4 hx bw
              go_wp2_with fail
              refine (put_any 2 x B gb _ (((((((((magic ++ be 2 (m.text.length : Int)) ++ m.text) ++ be 1 (m.funcs.length : Int)) ++ m.funcs.flatMap encF) ++ be 1 m.entry) ++ be 1 (vs.length : Int)) ++ (m.tables.take j).flatMap encT) ++ be 1 (t.length : Int)) ++ (t.take i).flatMap (be 2)) _ (by decide) (by simp only [List.length_append, be_len, LMAG]; omega) st.out.buf).mono ?_
              rintro e w11 ⟨rfl, v11, bf, kp⟩
              replace st := (show Hid (ISt w2 B gb w.heap.size img w11 v11 (((((((((magic ++ be 2 (m.text.length : Int)) ++ m.text) ++ be 1 (m.funcs.length : Int)) ++ m.funcs.flatMap encF) ++ be 1 m.entry) ++ be 1 (vs.length : Int)) ++ (m.tables.take j).flatMap encT) ++ be 1 (t.length : Int)) ++ (t.take (i + 1)).flatMap (be 2))) from by have := st.out.next bf kp; show ISt _ _ _ _ _ _ _ _; rw [HX.out, ← List.append_assoc]; exact this)
              clear bf kp hc hl d2
              go_wp2
              go_roundw
              case rel => exact ⟨i + 1, _, by omega, by go_num, st.out⟩
              case measure => simp [intOf]; omega
            · have hil : i = t.length := by omega
              replace st := (show Hid (ISt w2 B gb w.heap.size img wr vi (((((((magic ++ be 2 (m.text.length : Int)) ++ m.text) ++ be 1 (m.funcs.length : Int)) ++ m.funcs.flatMap encF) ++ be 1 m.entry) ++ be 1 (vs.length : Int)) ++ (m.tables.take (j + 1)).flatMap encT)) from by have := st.out; rw [hil, List.take_length] at this; show ISt _ _ _ _ _ _ _ _; rw [HY.out]; simpa only [encT, List.append_assoc] using this)
              have hl := st.out.buf.lt
              go_wp2
              go_roundw
              case rel => exact ⟨j + 1, _, by omega, by go_num, st.out⟩
              case measure => simp [intOf]; omega
        · have hjl : j = vs.length := by omega
          replace st := (show Hid (ISt w2 B gb w.heap.size img wr v (((((((magic ++ be 2 (m.text.length : Int)) ++ m.text) ++ be 1 (m.funcs.length : Int)) ++ m.funcs.flatMap encF) ++ be 1 m.entry) ++ be 1 (vs.length : Int)) ++ m.tables.flatMap encT)) from by have := st.out; rwa [hjl, HBl.out, List.take_length, ← HBl.out] at this)
          subst hjl
          generalize wr = wb at *
          obtain ⟨x0, x1, x2, x3, x4, x5⟩ := six_img' HIMG.out st.out
          have hc := st.out.buf.cell
          have hl := st.out.buf.lt
          go_wp2_with fail
          refine (put_any 1 (m.data.length : Int) B gb _ (((((((magic ++ be 2 (m.text.length : Int)) ++ m.text) ++ be 1 (m.funcs.length : Int)) ++ m.funcs.flatMap encF) ++ be 1 m.entry) ++ be 1 (vs.length : Int)) ++ m.tables.flatMap encT) _ (by decide) (by simp only [List.length_append, be_len, LMAG]; omega) st.out.buf).mono ?_
          rintro e w12 ⟨rfl, v12, bf, kp⟩
          replace st := (show Hid (ISt w2 B gb w.heap.size img w12 v12 ((((((((magic ++ be 2 (m.text.length : Int)) ++ m.text) ++ be 1 (m.funcs.length : Int)) ++ m.funcs.flatMap encF) ++ be 1 m.entry) ++ be 1 (vs.length : Int)) ++ m.tables.flatMap encT) ++ be 1 (m.data.length : Int))) from st.out.next bf kp)
          clear x0 x1 x2 x3 x4 x5 hc hl
          clear bf kp
          obtain ⟨x0, x1, x2, x3, x4, x5⟩ := six_img' HIMG.out st.out
          have hc := st.out.buf.cell
          have hl := st.out.buf.lt
          go_wp2_with fail
          clear x0 x1 x2 x3 x4 x5 hc hl
          go_loopw [99] (fun u wr => ∃ (j : Nat) (v : Value), j ≤ m.data.length ∧ u = .int .i64 (j : Int) ∧ Hid (ISt w2 B gb w.heap.size img wr v (((((((((magic ++ be 2 (m.text.length : Int)) ++ m.text) ++ be 1 (m.funcs.length : Int)) ++ m.funcs.flatMap encF) ++ be 1 m.entry) ++ be 1 (vs.length : Int)) ++ m.tables.flatMap encT) ++ be 1 (m.data.length : Int)) ++ (m.data.take j).flatMap (be 8)))) (fun u _ => (m.data.length - intOf u).toNat)
          case atStart => exact ⟨0, _, by omega, rfl, by simpa using st⟩
          case round =>
            clear st

            obtain ⟨j, v, j1, rfl, st⟩ := hrel
            have sj := S3.out j
            by_cases hj : j < m.data.length
            · obtain ⟨x, hx⟩ : ∃ x, m.data[j]? = some x := ⟨_, List.getElem?_eq_getElem (by omega)⟩
              obtain ⟨b2, o2, cap2, hv2, e1, e2, e3, e4⟩ := HD.out.resolve_left (by rintro ⟨_, _, _, h⟩; rw [h] at hj; simp at hj)
              cases hv2
              have bw := FIN.out _ st.out.kp
              have d2 := (bw.cell (p := ⟨b2, o2 + j * 1 + 0, none⟩) e3).trans (e4 j x hx 0 (.int .i64 x) rfl)
              rw [Nat.mul_one, Nat.add_zero] at d2
              have hii : (j : Int) < (m.data.length : Int) := by omega
              have HX : Hid _ := flat_take (be 8) hx
              have hc := st.out.buf.cell
              have hl := st.out.buf.lt
              clear e4 hx bw
              go_wp2_with fail
              refine (put_any 8 x B gb _ (((((((((magic ++ be 2 (m.text.length : Int)) ++ m.text) ++ be 1 (m.funcs.length : Int)) ++ m.funcs.flatMap encF) ++ be 1 m.entry) ++ be 1 (vs.length : Int)) ++ m.tables.flatMap encT) ++ be 1 (m.data.length : Int)) ++ (m.data.take j).flatMap (be 8)) _ (by decide) (by simp only [List.length_append, be_len, LMAG]; omega) st.out.buf).mono ?_
              rintro e w13 ⟨rfl, v13, bf, kp⟩
              replace st := (show Hid (ISt w2 B gb w.heap.size img w13 v13 (((((((((magic ++ be 2 (m.text.length : Int)) ++ m.text) ++ be 1 (m.funcs.length : Int)) ++ m.funcs.flatMap encF) ++ be 1 m.entry) ++ be 1 (vs.length : Int)) ++ m.tables.flatMap encT) ++ be 1 (m.data.length : Int)) ++ (m.data.take (j + 1)).flatMap (be 8))) from by have := st.out.next bf kp; show ISt _ _ _ _ _ _ _ _; rw [HX.out, ← List.append_assoc]; exact this)
              clear bf kp hc hl d2
              go_wp2
              go_roundw
              case rel => exact ⟨j + 1, _, by omega, by go_num, st.out⟩
              case measure => simp [intOf]; omega
            · have hjl : j = m.data.length := by omega
              replace st := (show Hid (ISt w2 B gb w.heap.size img wr v (((((((((magic ++ be 2 (m.text.length : Int)) ++ m.text) ++ be 1 (m.funcs.length : Int)) ++ m.funcs.flatMap encF) ++ be 1 m.entry) ++ be 1 (vs.length : Int)) ++ m.tables.flatMap encT) ++ be 1 (m.data.length : Int)) ++ m.data.flatMap (be 8))) from by have := st.out; rwa [hjl, List.take_length] at this)
              subst hjl
              generalize wr = wc at *
              obtain ⟨x0, x1, x2, x3, x4, x5⟩ := six_img' HIMG.out st.out
              have hc := st.out.buf.cell
              have hl := st.out.buf.lt
              go_wp2_with fail
              refine (put_any 2 (m.lines.length : Int) B gb _ (((((((((magic ++ be 2 (m.text.length : Int)) ++ m.text) ++ be 1 (m.funcs.length : Int)) ++ m.funcs.flatMap encF) ++ be 1 m.entry) ++ be 1 (vs.length : Int)) ++ m.tables.flatMap encT) ++ be 1 (m.data.length : Int)) ++ m.data.flatMap (be 8)) _ (by decide) (by simp only [List.length_append, be_len, LMAG]; omega) st.out.buf).mono ?_
              rintro e w14 ⟨rfl, v14, bf, kp⟩
              replace st := (show Hid (ISt w2 B gb w.heap.size img w14 v14 ((((((((((magic ++ be 2 (m.text.length : Int)) ++ m.text) ++ be 1 (m.funcs.length : Int)) ++ m.funcs.flatMap encF) ++ be 1 m.entry) ++ be 1 (vs.length : Int)) ++ m.tables.flatMap encT) ++ be 1 (m.data.length : Int)) ++ m.data.flatMap (be 8)) ++ be 2 (m.lines.length : Int))) from st.out.next bf kp)
              clear x0 x1 x2 x3 x4 x5 hc hl
              clear bf kp
              obtain ⟨x0, x1, x2, x3, x4, x5⟩ := six_img' HIMG.out st.out
              have hc := st.out.buf.cell
              have hl := st.out.buf.lt
              go_wp2_with fail
              clear x0 x1 x2 x3 x4 x5 hc hl
              go_loopw [115] (fun u wr => ∃ (j : Nat) (v : Value), j ≤ m.lines.length ∧ u = .int .i64 (j : Int) ∧ Hid (ISt w2 B gb w.heap.size img wr v (((((((((((magic ++ be 2 (m.text.length : Int)) ++ m.text) ++ be 1 (m.funcs.length : Int)) ++ m.funcs.flatMap encF) ++ be 1 m.entry) ++ be 1 (vs.length : Int)) ++ m.tables.flatMap encT) ++ be 1 (m.data.length : Int)) ++ m.data.flatMap (be 8)) ++ be 2 (m.lines.length : Int)) ++ (m.lines.take j).flatMap encLn))) (fun u _ => (m.lines.length - intOf u).toNat)
              case atStart => exact ⟨0, _, by omega, rfl, by simpa using st⟩
              case round =>
                clear st

                obtain ⟨j, v, j1, rfl, st⟩ := hrel
                have sj := S4.out j
                by_cases hj : j < m.lines.length
                · obtain ⟨y, hy⟩ : ∃ y, m.lines[j]? = some y := ⟨_, List.getElem?_eq_getElem (by omega)⟩
                  obtain ⟨bb, oo, cap, hv, c1, c2, c3, c4⟩ := HL.out.resolve_left (by rintro ⟨_, _, _, h⟩; rw [h] at hj; simp at hj)
                  cases hv
                  have bw := FIN.out _ st.out.kp
                  have d0 : wr.cell? ⟨bb, oo + j * 2, none⟩ = some (.int .i64 y.a) := (bw.cell (p := ⟨bb, _, none⟩) c3).trans (c4 j y hy 0 _ rfl)
                  have d1 : wr.cell? ⟨bb, oo + j * 2 + 1, none⟩ = some (.int .i64 y.n) := (bw.cell (p := ⟨bb, _, none⟩) c3).trans (c4 j y hy 1 _ rfl)
                  have hjj : (j : Int) < (m.lines.length : Int) := by omega
                  have HY : Hid _ := flat_take encLn hy
                  have hlw := st.out.buf.lt
                  have hwne : ¬ wr.heap.size = gb := by omega
                  have st2 := st.out.alloc (.cells #[.int .i64 y.a, .int .i64 y.n] 43)
                  have ST2 : Hid _ := st2
                  clear c4 hy bw st2
                  go_wp2_with fail
                  refine (put_any 2 y.a B gb _ (((((((((((magic ++ be 2 (m.text.length : Int)) ++ m.text) ++ be 1 (m.funcs.length : Int)) ++ m.funcs.flatMap encF) ++ be 1 m.entry) ++ be 1 (vs.length : Int)) ++ m.tables.flatMap encT) ++ be 1 (m.data.length : Int)) ++ m.data.flatMap (be 8)) ++ be 2 (m.lines.length : Int)) ++ (m.lines.take j).flatMap encLn) _ (by decide) (by simp only [List.length_append, be_len, LMAG]; omega) ST2.out.buf).mono ?_
                  rintro e w15 ⟨rfl, v15, bf, kp⟩
                  have fb := kp.oth wr.heap.size _ _ _ (block_new wr _) (by decide) hwne
                  replace st := (show Hid (ISt w2 B gb w.heap.size img w15 v15 ((((((((((((magic ++ be 2 (m.text.length : Int)) ++ m.text) ++ be 1 (m.funcs.length : Int)) ++ m.funcs.flatMap encF) ++ be 1 m.entry) ++ be 1 (vs.length : Int)) ++ m.tables.flatMap encT) ++ be 1 (m.data.length : Int)) ++ m.data.flatMap (be 8)) ++ be 2 (m.lines.length : Int)) ++ (m.lines.take j).flatMap encLn) ++ be 2 y.a)) from ST2.out.next bf kp)
                  have g1 : w15.cell? ⟨wr.heap.size, 1, none⟩ = some (.int .i64 y.n) := by simp [World.cell?, fb]
                  clear bf kp fb
                  go_wp2_with fail
                  refine (put_any 2 y.n B gb _ ((((((((((((magic ++ be 2 (m.text.length : Int)) ++ m.text) ++ be 1 (m.funcs.length : Int)) ++ m.funcs.flatMap encF) ++ be 1 m.entry) ++ be 1 (vs.length : Int)) ++ m.tables.flatMap encT) ++ be 1 (m.data.length : Int)) ++ m.data.flatMap (be 8)) ++ be 2 (m.lines.length : Int)) ++ (m.lines.take j).flatMap encLn) ++ be 2 y.a) _ (by decide) (by simp only [List.length_append, be_len, LMAG]; omega) st.out.buf).mono ?_
                  rintro e w16 ⟨rfl, v16, bf, kp⟩
                  replace st := (show Hid (ISt w2 B gb w.heap.size img w16 v16 (((((((((((magic ++ be 2 (m.text.length : Int)) ++ m.text) ++ be 1 (m.funcs.length : Int)) ++ m.funcs.flatMap encF) ++ be 1 m.entry) ++ be 1 (vs.length : Int)) ++ m.tables.flatMap encT) ++ be 1 (m.data.length : Int)) ++ m.data.flatMap (be 8)) ++ be 2 (m.lines.length : Int)) ++ (m.lines.take (j + 1)).flatMap encLn)) from by have := st.out.next bf kp; show ISt _ _ _ _ _ _ _ _; rw [HY.out]; simpa only [encLn, List.append_assoc] using this)
                  clear bf kp g1 d0 d1 ST2
                  go_wp2
                  go_roundw
                  case rel => exact ⟨j + 1, _, by omega, by go_num, st.out⟩
                  case measure => simp [intOf]; omega
                · have hjl : j = m.lines.length := by omega
                  have hfin := st.out
                  rw [hjl, List.take_length, HBl.out] at hfin
                  have HFI : Hid (ISt w2 B gb w.heap.size img wr v (encImg m)) := hfin
                  have hc := st.out.buf.cell
                  clear hfin
                  go_wp2
                  go_ret2
                  exact Or.inr ⟨Q0.out, _, rfl, ⟨B, by omega, HFI.out.buf.own⟩, FIN.out _ HFI.out.kp⟩
end Go.Proofs.YtechpdfcgimkkaaDoor
/-
  The bytes of a program's image: how many; a box of an image, read and written.
-/
namespace Go.Proofs.YtechpdfcgimkkaaDoor
open Go.RowKit Go.Joins Isa
theorem encImg_le (m : Img) (h : May m) : (encImg m).length ≤ 90000 := by
  obtain ⟨s1, s2, s3, s4⟩ := sums m h
  have a1 := s1 m.funcs.length
  have a2 := s2 m.tables.length
  have a3 := s3 m.data.length
  have a4 := s4 m.lines.length
  rw [List.take_length] at a1 a2 a3 a4
  have a0 := h.text
  have e : magic.length = 4 := rfl
  unfold encImg
  simp only [List.length_append, be_len, e]
  omega
theorem ProgI.may {l : List Rw} {m : Img} (h : ProgI l m) : May m := (may_of m h.chk.1).1
theorem ProgI.small {l : List Rw} {m : Img} (h : ProgI l m) : m.small := by
  have hm := h.may
  have h1 := hm.text
  have h2 := hm.nf
  have h3 := hm.nt
  have h4 := hm.nd
  have h5 := hm.nl
  exact ⟨by omega, by omega, by omega, fun t ht => by have := (hm.tables t ht).1; omega, by omega, by omega⟩
theorem ProgI.data {l : List Rw} {m : Img} (h : ProgI l m) : m.data = [5, -3, 0, 7, 1, 2] := by
  obtain ⟨cs, _, _, _, rfl⟩ := h
  rfl
theorem ProgI.one {l : List Rw} {m : Img} (h : ProgI l m) : 1 ≤ m.funcs.length := by
  have := h.may.entry
  omega
theorem own_block {w : World} {B sz n g cap : Nat} {E : TypeId} {xs : List Value} (h : w.ownsRow B E sz (.slice (some ⟨g, 0, none⟩) n cap) n xs) : B ≤ g ∧ g < w.heap.size ∧ ∃ cur, w.heap[g]? = some (.cells cur E) := by
  obtain ⟨h1, cur, h2⟩ := row_block h rfl
  exact ⟨h1, (Array.getElem?_eq_some_iff.1 h2).1, cur, h2⟩
theorem enc_byt (m : Img) (h : m.ok) : ∀ x ∈ encImg m, 0 ≤ x ∧ x ≤ 255 := by
  intro x hx
  unfold encImg at hx
  simp only [List.mem_append, List.mem_flatMap] at hx
  have bd := fun k n => be_bd k n x
  have nb : ∀ s : ByteArray, x ∈ nameB s → 0 ≤ x ∧ x ≤ 255 := fun s hs => by
    obtain ⟨b, _, rfl⟩ := List.mem_map.1 (show x ∈ s.data.toList.map _ from hs)
    have := b.toNat_lt
    omega
  rcases hx with ((((((((((h1 | h1) | h1) | h1) | ⟨f, hf, h1⟩) | h1) | h1) | ⟨t, ht, h1⟩) | h1) | ⟨d, hd, h1⟩) | h1) | ⟨y, hy, h1⟩
  · simp only [magic, List.mem_cons, List.not_mem_nil, or_false] at h1
    omega
  · exact bd _ _ h1
  · exact h.text x h1
  · exact bd _ _ h1
  · unfold encF at h1
    rcases List.mem_append.1 h1 with h1 | h1
    · rcases List.mem_append.1 h1 with h1 | h1
      · exact bd _ _ h1
      · exact nb _ h1
    · exact bd _ _ h1
  · exact bd _ _ h1
  · exact bd _ _ h1
  · unfold encT at h1
    rcases List.mem_append.1 h1 with h1 | h1
    · exact bd _ _ h1
    · obtain ⟨z, _, h1⟩ := List.mem_flatMap.1 h1
      exact bd _ _ h1
  · exact bd _ _ h1
  · exact bd _ _ h1
  · exact bd _ _ h1
  · unfold encLn at h1
    rcases List.mem_append.1 h1 with h1 | h1
    · exact bd _ _ h1
    · exact bd _ _ h1
theorem own_zero {w : World} {B n g o c : Nat} {ns : List Int} (h : Own w B (.slice (some ⟨g, o, none⟩) n c) ns) : o = 0 := by
  rcases h with h | ⟨_, h, _⟩
  · rcases h.2 with ⟨h, _⟩ | ⟨_, _, _, h, _⟩
    · cases h
    · cases h; rfl
  · cases h; rfl
theorem list_frontU {w : World} {a : Option Addr} {n c : Nat} {xs : List Int} (h : ListAt w ucell 1 (.slice a n c) xs) (k : Nat) (hk : k ≤ xs.length) : ListAt w ucell 1 (.slice a k c) (xs.take k) ∧ k ≤ c := by
  rcases h with ⟨a', c', hv, rfl⟩ | ⟨bb, oo, cap, hv, h1, h2, h3, h4⟩
  · have hk0 : k = 0 := by simpa using hk
    subst hk0
    exact ⟨Or.inl ⟨_, _, rfl, rfl⟩, Nat.zero_le _⟩
  · obtain ⟨rfl, rfl, rfl⟩ : a = some ⟨bb, oo, none⟩ ∧ n = xs.length ∧ c = cap := by simpa using hv
    refine ⟨?_, by omega⟩
    rcases Nat.eq_zero_or_pos k with rfl | q
    · exact Or.inl ⟨_, _, rfl, by simp⟩
    · refine Or.inr ⟨bb, oo, c, by rw [List.length_take]; congr 1; omega, by rw [List.length_take]; omega, h2, h3, fun j x hj => h4 j x ?_⟩
      rw [List.getElem?_take] at hj
      split at hj
      · exact hj
      · cases hj
end Go.Proofs.YtechpdfcgimkkaaDoor
