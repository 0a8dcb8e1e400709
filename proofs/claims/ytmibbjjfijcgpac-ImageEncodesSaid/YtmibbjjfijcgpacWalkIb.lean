/-
  boltholeref.ImageBytes: what P2.3 says.
-/
import Derived.Test.YtmibbjjfijcgpacWalkBig
import Derived.Test.YtmibbjjfijcgpacPureEn
import Derived.Test.YtmibbjjfijcgpacWalkFt
namespace Go.Proofs.Ytmibbjjfijcgpac
open Go.RowKit Go.Joins
structure Sb (w1 : World) (B g0 : Nat) (img : List Value) (w : World) (v : Value) (ns : List Int) : Prop where
  own : Own w B v ns
  bel : Below B w1 w
  box : ∀ (o : Nat) (u : Value), img[o]? = some u → w.cell? ⟨g0, o, none⟩ = some u
  lt : g0 < B
  ge : B ≤ w.heap.size
theorem Sb.up {w1 : World} {B g0 : Nat} {img : List Value} {w w' : World} {v : Value} {ns : List Int} (h : Sb w1 B g0 img w v ns) (hb : Below w.heap.size w w') : Sb w1 B g0 img w' v ns :=
  ⟨h.own.same fun k hk => hb.block k (by obtain ⟨_, _, _, hg⟩ := h.own.block hk; exact (Array.getElem?_eq_some_iff.1 hg).1), h.bel.trans (hb.mono h.ge), fun o u hu => (hb.cell (p := ⟨g0, o, none⟩) (by have := h.lt; have := h.ge; simp; omega)).trans (h.box o u hu), h.lt, by have := hb.size; have := h.ge; omega⟩
theorem Sb.grow {w1 : World} {B g0 : Nat} {img : List Value} {w W : World} {v v' : Value} {ns ns' : List Int} (h : Sb w1 B g0 img w v ns) (gr : w.grownBy W v.ownBlock) (ho : Own W B v' ns') : Sb w1 B g0 img W v' ns' := by
  have hb : Below B w W := ⟨gr.os, gr.tape, gr.output, gr.size, fun k hk => gr.block k (by have := h.ge; omega) (by
    intro he
    have := (h.own.block he.symm).1
    omega)⟩
  exact ⟨ho, h.bel.trans hb, fun o u hu => (hb.cell (p := ⟨g0, o, none⟩) h.lt).trans (h.box o u hu), h.lt, by have := hb.size; have := h.ge; omega⟩
theorem sb_app {w1 : World} {B g0 : Nat} {img : List Value} {w : World} {v : Value} {ns : List Int} (h : Sb w1 B g0 img w v ns) (x : Value) (ms : List Int) (hx : ListAt w ucell 1 x ms) (hn : ns.length + ms.length ≤ 1000000) :
    ∃ v' W, (Builtin.append_ #[22, 22] 22 #[v, x]).run Try.prog w = .ok v' W ∧ Sb w1 B g0 img W v' (ns ++ ms) := by
  obtain ⟨v', W, hr, ho, gr⟩ := own_app h.own h.ge x ms hx hn 22
  exact ⟨v', W, hr, h.grow gr ho⟩
/-- .. of some bytes in a row that the statement makes, or that big has made. -/
theorem sb_row {w1 : World} {B g0 : Nat} {img : List Value} {w : World} {v : Value} {ns : List Int} (h : Sb w1 B g0 img w v ns) (ms : List Int) (k : Nat) (hk : ms.length = k) (hn : ns.length + ms.length ≤ 1000000) :
    ∃ v' W, (Builtin.append_ #[22, 22] 22 #[v, .slice (some ⟨w.heap.size, 0, none⟩) k k]).run Try.prog (w.alloc (.cells (ms.map (Value.int .u8)).toArray 5)) = .ok v' W ∧ Sb w1 B g0 img W v' (ns ++ ms) := by
  subst hk
  refine sb_app (h.up ((Below.refl _ _).alloc (Nat.le_refl _) _)) _ ms ?_ hn
  have := list_made w ucell 1 ms 5 ucell_len [] ms.length (Nat.le_refl _) (by unfold maxLen; omega)
  rw [List.append_nil] at this
  have e : flat ucell ms = ms.map (Value.int .u8) := by
    clear this hn h
    induction ms with
    | nil => rfl
    | cons x xs ih => show ucell x ++ flat ucell xs = _; rw [ih]; rfl
  rwa [e] at this
theorem sb_str {w1 : World} {B g0 : Nat} {img : List Value} {w : World} {v : Value} {ns : List Int} (h : Sb w1 B g0 img w v ns) (s : ByteArray) (hn : ns.length + s.size ≤ 1000000) (h0 : 0 < s.size) :
    ∃ v' W, (Builtin.append_ #[22, 9] 22 #[v, .string s]).run Try.prog w = .ok v' W ∧ Sb w1 B g0 img W v' (ns ++ nameB s) := by
  obtain ⟨v', W, hr, ho, gr⟩ := own_str h.own h.ge s hn h0 22
  exact ⟨v', W, hr, h.grow gr ho⟩
theorem six_sb {w1 : World} {B g0 : Nat} {a b c d e f : Value} {img : List Value} {w : World} {v : Value} {ns : List Int} (hi : [a, b, c, d, e, f] = img) (h : Sb w1 B g0 img w v ns) :
    w.cell? ⟨g0, 0, none⟩ = some a ∧ w.cell? ⟨g0, 1, none⟩ = some b ∧ w.cell? ⟨g0, 2, none⟩ = some c ∧ w.cell? ⟨g0, 3, none⟩ = some d ∧ w.cell? ⟨g0, 4, none⟩ = some e ∧ w.cell? ⟨g0, 5, none⟩ = some f := by
  subst hi
  exact ⟨h.box 0 a rfl, h.box 1 b rfl, h.box 2 c rfl, h.box 3 d rfl, h.box 4 e rfl, h.box 5 f rfl⟩
theorem be_small (n : Int) (h0 : 0 ≤ n) (h1 : n ≤ 255) : be 1 n = [n] := by simp [be]; omega
theorem be_one (n : Int) : be 1 n = [IntKind.u8.wrap n] := by rw [IntKind.wrap_u8]; simp [be]
set_option maxRecDepth 100000 in
set_option maxHeartbeats 16000000 in
theorem bytes_img (vT vF vB vD vL : Value) (m : Img) (w : World) (hI : ImgAt w vT vF vB vD vL m) (hok : m.ok) :
    Calls Try.prog 14 #[.agg #[vT, vF, vB, vD, vL, .int .i64 m.entry]] w fun e w' =>
      (imgChk m ≠ 0 ∧ e = .returned (.tuple #[.slice none 0 0, .int .i64 (imgChk m)]) ∧ Below w.heap.size w w') ∨
      (imgChk m = 0 ∧ ∃ v, e = .returned (.tuple #[v, .int .i64 0]) ∧ (∃ B, w.heap.size ≤ B ∧ Own w' B v (encImg m)) ∧ Below w.heap.size w w') := by
  obtain ⟨aT, cT, rfl, lT⟩ := hI.text.form
  obtain ⟨aF, cF, rfl, lF⟩ := hI.funcs.form
  obtain ⟨aD, cD, rfl, lD⟩ := hI.data.form
  obtain ⟨aL, cL, rfl, lL⟩ := hI.lines.form
  obtain ⟨vs, hB, hBl, hBe⟩ := hI.tables
  obtain ⟨aB, cB, rfl, lB⟩ := hB.form
  unfold maxLen at lT lF lB lD lL
  have HO : Hid m.ok := hok
  have HT : Hid (ListAt w ucell 1 (.slice aT m.text.length cT) m.text) := hI.text
  have HF : Hid (ListAt w Fn.cells 3 (.slice aF m.funcs.length cF) m.funcs) := hI.funcs
  have HBa : Hid (ListAt w vcell 1 (.slice aB vs.length cB) vs) := hB
  have HBe : Hid (∀ (j : Nat) (u : Value) (t : List Int), vs[j]? = some u → m.tables[j]? = some t → ListAt w icell 1 u t) := hBe
  have HBl : Hid (vs.length = m.tables.length) := hBl
  have HD : Hid (ListAt w icell 1 (.slice aD m.data.length cD) m.data) := hI.data
  have HL : Hid (ListAt w Ln.cells 2 (.slice aL m.lines.length cL) m.lines) := hI.lines
  have HI : Hid (ImgAt w (.slice aT m.text.length cT) (.slice aF m.funcs.length cF) (.slice aB vs.length cB) (.slice aD m.data.length cD) (.slice aL m.lines.length cL) m) := hI
  clear hok hI hB hBl hBe
  go_enter Try.func14, Try.ntmps14
  go_wp2_with fail
  have b0 : Below w.heap.size w (w.alloc (.cells #[.slice aT m.text.length cT, .slice aF m.funcs.length cF, .slice aB vs.length cB, .slice aD m.data.length cD, .slice aL m.lines.length cL, .int .i64 m.entry] 28)) := (Below.refl _ _).alloc (Nat.le_refl _) _
  refine (fault_any _ _ _ _ _ m _ (HI.out.stays (Nat.le_refl _) b0) HO.out).mono ?_
  rintro e w1 ⟨rfl, hb1⟩
  have x := belc hb1 w.heap.size
  have x0 := x 0 (by simp); have x1 := x 1 (by simp); have x2 := x 2 (by simp); have x3 := x 3 (by simp); have x4 := x 4 (by simp); have x5 := x 5 (by simp)
  simp at x0 x1 x2 x3 x4 x5
  have z1 : w.heap.size < w1.heap.size := (by have := hb1.size; simp at this; omega)
  have B1 : Hid (Below w.heap.size w w1) := b0.trans (hb1.mono (by simp))
  clear x hb1 b0
  by_cases q0 : imgChk m = 0
  rotate_left
  · have q0b : (imgChk m != 0) = true := by simp [q0]
    have Q0 : Hid (imgChk m ≠ 0) := q0
    clear q0
    go_wp2
    go_ret2
    exact Or.inl ⟨Q0.out, rfl, B1.out⟩
  obtain ⟨hM, _, _⟩ := may_of m q0
  obtain ⟨s1, s2, s3, s4⟩ := sums m hM
  have M1 : m.text.length ≤ 8000 := hM.text
  have HM : Hid (May m) := hM
  have S1 : Hid _ := s1
  have S2 : Hid _ := s2
  have S3 : Hid _ := s3
  have S4 : Hid _ := s4
  have Q0 : Hid (imgChk m = 0) := q0
  rw [q0]
  clear hM s1 s2 s3 s4 q0
  have cv : (convert 22 22 (.slice (some ⟨w1.heap.size, 0, none⟩) 4 4)).run Try.prog (w1.alloc (.cells #[.int .u8 98, .int .u8 104, .int .u8 49, .int .u8 10] 5)) = .ok (.slice (some ⟨w1.heap.size, 0, none⟩) 4 4) (w1.alloc (.cells #[.int .u8 98, .int .u8 104, .int .u8 49, .int .u8 10] 5 (4, 5))) := Lib.run_convert_bytes_const w1 22 5 #[.int .u8 98, .int .u8 104, .int .u8 49, .int .u8 10] 4 4 Try.underlying22 Try.underlying5
  obtain ⟨w2, hw2⟩ : ∃ w2, w1.alloc (.cells #[.int .u8 98, .int .u8 104, .int .u8 49, .int .u8 10] 5 (4, 5)) = w2 := ⟨_, rfl⟩
  obtain ⟨img, himg⟩ : ∃ img, [Value.slice aT m.text.length cT, .slice aF m.funcs.length cF, .slice aB vs.length cB, .slice aD m.data.length cD, .slice aL m.lines.length cL, .int .i64 m.entry] = img := ⟨_, rfl⟩
  have HIMG : Hid _ := himg
  have bb : Below w1.heap.size w1 w2 := by rw [← hw2]; exact (Below.refl _ _).alloc (Nat.le_refl _) _
  have sb : Hid (Sb w1 w1.heap.size w.heap.size img w2 (.slice (some ⟨w1.heap.size, 0, none⟩) 4 4) magic) := by
    refine ⟨Or.inr ⟨w1.heap.size, rfl, Nat.le_refl _, (4, 5), ?_⟩, bb, ?_, z1, bb.size⟩
    · rw [← hw2]; show (w1.heap.push _)[w1.heap.size]? = _; simp; rfl
    · intro o u hu
      rw [← himg] at hu
      refine (bb.cell (p := ⟨w.heap.size, o, none⟩) z1).trans ?_
      match o, hu with
      | 0, hu => cases hu; exact x0
      | 1, hu => cases hu; exact x1
      | 2, hu => cases hu; exact x2
      | 3, hu => cases hu; exact x3
      | 4, hu => cases hu; exact x4
      | 5, hu => cases hu; exact x5
  have FIN : Hid (∀ wz, Below w1.heap.size w1 wz → Below w.heap.size w wz) := fun wz hk => B1.out.trans (hk.mono (by omega))
  have HW2 : Hid _ := hw2
  have z4 : w.heap.size < w1.heap.size + 1 := by omega
  clear hw2 himg bb
  have LMAG : magic.length = 4 := rfl
  have L1 : (m.funcs.flatMap encF).length ≤ 760 := by have := S1.out m.funcs.length; rwa [List.take_length] at this
  have L2 : (m.tables.flatMap encT).length ≤ 820 := by have := S2.out m.tables.length; rwa [List.take_length] at this
  have L3 : (m.data.flatMap (be 8)).length ≤ 512 := by have := S3.out m.data.length; rwa [List.take_length] at this
  have L4 : (m.lines.flatMap encLn).length ≤ 16000 := by have := S4.out m.lines.length; rwa [List.take_length] at this
  generalize hBB : w1.heap.size = B at *
  have z5 : w.heap.size < B := by omega
  go_wp2_with fail
  rw [HW2.out]
  clear cv x0 x1 x2 x3 x4 x5
  refine (big_any (m.text.length : Int) 2 _ (by decide) (⟨by omega, by omega⟩)).mono ?_
  rintro e w4 ⟨rfl, hw4⟩
  obtain rfl := hw4.symm
  obtain ⟨v5, W5, hr, sb'⟩ := sb_row sb.out (be 2 (m.text.length : Int)) 2 (be_len 2 _) (by rw [LMAG, be_len]; decide)
  have HR5 : Hid _ := hr
  replace sb := (show Hid (Sb w1 B w.heap.size img W5 v5 ((magic) ++ be 2 (m.text.length : Int))) from sb')
  clear hr sb'
  obtain ⟨v6, W6, hr, sb'⟩ := sb_app sb.out (.slice aT m.text.length cT) m.text (HT.out.stays (Nat.le_refl _) (FIN.out _ sb.out.bel)) (by simp only [List.length_append, be_len, LMAG]; omega)
  have HR6 : Hid _ := hr
  obtain ⟨y0, y1, y2, y3, y4, y5⟩ := six_sb HIMG.out sb.out
  replace sb := (show Hid (Sb w1 B w.heap.size img W6 v6 ((magic ++ be 2 (m.text.length : Int)) ++ m.text)) from sb')
  clear hr sb'
  obtain ⟨k0, k1, k2, k3, k4, k5⟩ := six_sb HIMG.out sb.out
  obtain ⟨v7, W7, hr, sb'⟩ := sb_row sb.out (be 1 (m.funcs.length : Int)) 1 (be_len 1 _) (by simp only [List.length_append, be_len, LMAG]; omega)
  have HR7 : Hid _ := hr
  replace sb := (show Hid (Sb w1 B w.heap.size img W7 v7 (((magic ++ be 2 (m.text.length : Int)) ++ m.text) ++ be 1 (m.funcs.length : Int))) from sb')
  clear hr sb'
  rw [be_one] at HR7
  obtain ⟨x0, x1, x2, x3, x4, x5⟩ := six_sb HIMG.out sb.out
  go_wp2_with (first | (at_builtin; refine wpList_append_two _ rfl (.tmp 18) (.tmp 22) 22 22 rfl _ _ rfl rfl HR5.out ?_) | (at_builtin; refine wpList_append_two _ rfl (.tmp 24) (.tmp 26) 22 22 rfl _ _ rfl rfl HR6.out ?_) | (at_builtin; refine wpList_append_two _ rfl (.tmp 28) (.tmp 33) 22 22 rfl _ _ rfl rfl HR7.out ?_))
  clear y0 y1 y2 y3 y4 y5 k0 k1 k2 k3 k4 k5 HR5 HR6 HR7
  clear x0 x1 x2 x3 x4 x5
  go_loopw [5, 6] (fun v u wr => ∃ j : Nat, j ≤ m.funcs.length ∧ u = .int .i64 (j : Int) ∧ Hid (Sb w1 B w.heap.size img wr v ((((magic ++ be 2 (m.text.length : Int)) ++ m.text) ++ be 1 (m.funcs.length : Int)) ++ (m.funcs.take j).flatMap encF))) (fun _ u _ => (m.funcs.length - intOf u).toNat)
  case atStart => exact ⟨0, by omega, rfl, by simpa using sb⟩
  case round =>
    clear sb

    obtain ⟨j, j1, rfl, sb⟩ := hrel
    have sj := S1.out j
    by_cases hj : j < m.funcs.length
    · obtain ⟨y, hy⟩ : ∃ y, m.funcs[j]? = some y := ⟨_, List.getElem?_eq_getElem (by omega)⟩
      obtain ⟨bb, oo, cap, hv, c1, c2, c3, c4⟩ := HF.out.resolve_left (by rintro ⟨_, _, _, h⟩; rw [h] at hj; simp at hj)
      cases hv
      have fc : Hid (∀ wz, Below B w1 wz → wz.cell? ⟨bb, oo + j * 3, none⟩ = some (.string y.name) ∧ wz.cell? ⟨bb, oo + j * 3 + 2, none⟩ = some (.int .i64 y.size)) := fun wz hz => ⟨((FIN.out _ hz).cell (p := ⟨bb, _, none⟩) c3).trans (c4 j y hy 0 _ rfl), ((FIN.out _ hz).cell (p := ⟨bb, _, none⟩) c3).trans (c4 j y hy 2 _ rfl)⟩
      obtain ⟨k1, k2⟩ := HM.out.funcs y (List.mem_of_getElem? hy)
      have hjj : (j : Int) < (m.funcs.length : Int) := by omega
      have HY : Hid _ := flat_take encF hy
      have HI : Hid (i64 y.size) := (HO.out.funcs y (List.mem_of_getElem? hy)).2.2
      clear c4 hy
      obtain ⟨p0, p1, p2, p3, p4, p5⟩ := six_sb HIMG.out sb.out
      obtain ⟨d0, d2⟩ := fc.out _ sb.out.bel
      obtain ⟨v8, W8, hr, sb'⟩ := sb_row sb.out (be 1 (y.name.size : Int)) 1 (be_len 1 _) (by simp only [List.length_append, be_len, LMAG]; omega)
      have HR8 : Hid _ := hr
      replace sb := (show Hid (Sb w1 B w.heap.size img W8 v8 (((((magic ++ be 2 (m.text.length : Int)) ++ m.text) ++ be 1 (m.funcs.length : Int)) ++ (m.funcs.take j).flatMap encF) ++ be 1 (y.name.size : Int))) from sb')
      clear hr sb'
      rw [be_small _ (by omega) (by omega)] at HR8
      obtain ⟨q0, q1, q2, q3, q4, q5⟩ := six_sb HIMG.out sb.out
      obtain ⟨e0, e2⟩ := fc.out _ sb.out.bel
      obtain ⟨v9, W9, hr, sb'⟩ := sb_str sb.out y.name (by simp only [List.length_append, be_len, LMAG]; omega) (by omega)
      have HR9 : Hid _ := hr
      replace sb := (show Hid (Sb w1 B w.heap.size img W9 v9 ((((((magic ++ be 2 (m.text.length : Int)) ++ m.text) ++ be 1 (m.funcs.length : Int)) ++ (m.funcs.take j).flatMap encF) ++ be 1 (y.name.size : Int)) ++ nameB y.name)) from sb')
      clear hr sb'
      obtain ⟨x0, x1, x2, x3, x4, x5⟩ := six_sb HIMG.out sb.out
      obtain ⟨g0, g2⟩ := fc.out _ sb.out.bel
      go_wp2_with (first | (at_builtin; refine wpList_append_two _ rfl (.tmp 42) (.tmp 51) 22 22 rfl _ _ rfl rfl HR8.out ?_) | (at_builtin; refine wpList_append_two _ rfl (.tmp 53) (.tmp 59) 22 9 rfl _ _ rfl rfl HR9.out ?_))
      refine (big_any y.size 2 _ (by decide) (HI.out)).mono ?_
      rintro e w4 ⟨rfl, hw4⟩
      obtain rfl := hw4.symm
      obtain ⟨v10, W10, hr, sb'⟩ := sb_row sb.out (be 2 y.size) 2 (be_len 2 _) (by simp only [List.length_append, be_len, nameB_len, LMAG]; omega)
      have HR10 : Hid _ := hr
      replace sb := (show Hid (Sb w1 B w.heap.size img W10 v10 (((((((magic ++ be 2 (m.text.length : Int)) ++ m.text) ++ be 1 (m.funcs.length : Int)) ++ (m.funcs.take j).flatMap encF) ++ be 1 (y.name.size : Int)) ++ nameB y.name) ++ be 2 y.size)) from sb')
      clear hr sb'
      replace sb := (show Hid (Sb w1 B w.heap.size img W10 v10 ((((magic ++ be 2 (m.text.length : Int)) ++ m.text) ++ be 1 (m.funcs.length : Int)) ++ (m.funcs.take (j + 1)).flatMap encF)) from by have := sb.out; show Sb _ _ _ _ _ _ _; rw [HY.out]; simpa only [encF, List.append_assoc] using this)
      go_wp2_with (first | (at_builtin; refine wpList_append_two _ rfl (.tmp 61) (.tmp 68) 22 22 rfl _ _ rfl rfl HR10.out ?_))
      go_roundw
      case rel => exact ⟨j + 1, by omega, by go_num, sb.out⟩
      case measure => simp [intOf]; omega
    · have hjl : j = m.funcs.length := by omega
      replace sb := (show Hid (Sb w1 B w.heap.size img wr u5 ((((magic ++ be 2 (m.text.length : Int)) ++ m.text) ++ be 1 (m.funcs.length : Int)) ++ m.funcs.flatMap encF)) from by have := sb.out; rwa [hjl, List.take_length] at this)
      subst hjl
      generalize wr = wa at *

      obtain ⟨x0, x1, x2, x3, x4, x5⟩ := six_sb HIMG.out sb.out
      obtain ⟨v11, W11, hr, sb'⟩ := sb_row sb.out (be 1 m.entry ++ be 1 (vs.length : Int)) 2 (by simp [be_len]) (by simp only [List.length_append, be_len, LMAG]; omega)
      have HR11 : Hid _ := hr
      replace sb := (show Hid (Sb w1 B w.heap.size img W11 v11 (((((magic ++ be 2 (m.text.length : Int)) ++ m.text) ++ be 1 (m.funcs.length : Int)) ++ m.funcs.flatMap encF) ++ (be 1 m.entry ++ be 1 (vs.length : Int)))) from sb')
      clear hr sb'
      have eb : be 1 m.entry ++ be 1 (vs.length : Int) = [IntKind.u8.wrap m.entry, IntKind.u8.wrap (vs.length : Int)] := by rw [be_one, be_one]; rfl
      rw [eb] at HR11
      clear eb
      replace sb := (show Hid (Sb w1 B w.heap.size img W11 v11 ((((((magic ++ be 2 (m.text.length : Int)) ++ m.text) ++ be 1 (m.funcs.length : Int)) ++ m.funcs.flatMap encF) ++ be 1 m.entry) ++ be 1 (vs.length : Int))) from by have := sb.out; show Sb _ _ _ _ _ _ _; simpa only [List.append_assoc] using this)
      obtain ⟨k0, k1, k2, k3, k4, k5⟩ := six_sb HIMG.out sb.out
      go_wp2_with (first | (at_builtin; refine wpList_append_two _ rfl (.tmp 70) (.tmp 78) 22 22 rfl _ _ rfl rfl HR11.out ?_))
      clear x0 x1 x2 x3 x4 x5 k0 k1 k2 k3 k4 k5 HR11
      go_loopw [5, 7] (fun v u wr => ∃ j : Nat, j ≤ vs.length ∧ u = .int .i64 (j : Int) ∧ Hid (Sb w1 B w.heap.size img wr v (((((((magic ++ be 2 (m.text.length : Int)) ++ m.text) ++ be 1 (m.funcs.length : Int)) ++ m.funcs.flatMap encF) ++ be 1 m.entry) ++ be 1 (vs.length : Int)) ++ (m.tables.take j).flatMap encT))) (fun _ u _ => (vs.length - intOf u).toNat)
      case atStart => exact ⟨0, by omega, rfl, by simpa using sb⟩
      case round =>
        clear sb

        obtain ⟨j, j1, rfl, sb⟩ := hrel
        have sj := S2.out j
        by_cases hj : j < vs.length
        · obtain ⟨y, hy⟩ : ∃ y, vs[j]? = some y := ⟨_, List.getElem?_eq_getElem (by omega)⟩
          obtain ⟨t, ht⟩ : ∃ t, m.tables[j]? = some t := ⟨_, List.getElem?_eq_getElem (by have := HBl.out; omega)⟩
          obtain ⟨bb, oo, cap, hv, c1, c2, c3, c4⟩ := HBa.out.resolve_left (by rintro ⟨_, _, _, h⟩; rw [h] at hj; simp at hj)
          cases hv
          have dy := c4 j y hy 0 y rfl
          rw [Nat.mul_one, Nat.add_zero] at dy
          have hT := HBe.out j y t hy ht
          obtain ⟨a1, n1, rfl, hlt⟩ := hT.form
          have HTt : Hid (ListAt w icell 1 (.slice a1 t.length n1) t) := hT
          unfold maxLen at hlt
          have fc : Hid (∀ wz, Below B w1 wz → wz.cell? ⟨bb, oo + j, none⟩ = some (.slice a1 t.length n1)) := fun wz hz => ((FIN.out _ hz).cell (p := ⟨bb, _, none⟩) c3).trans dy
          obtain ⟨k1, k2⟩ := HM.out.tables t (List.mem_of_getElem? ht)
          have hjj : (j : Int) < (vs.length : Int) := by omega
          have HY : Hid _ := flat_take encT ht
          have HIt : Hid (∀ x ∈ t, i64 x) := HO.out.tables t (List.mem_of_getElem? ht)
          clear c4 hy ht hT k2 dy
          obtain ⟨p0, p1, p2, p3, p4, p5⟩ := six_sb HIMG.out sb.out
          have d0 := fc.out _ sb.out.bel
          obtain ⟨v12, W12, hr, sb'⟩ := sb_row sb.out (be 1 (t.length : Int)) 1 (be_len 1 _) (by simp only [List.length_append, be_len, LMAG]; omega)
          have HR12 : Hid _ := hr
          replace sb := (show Hid (Sb w1 B w.heap.size img W12 v12 ((((((((magic ++ be 2 (m.text.length : Int)) ++ m.text) ++ be 1 (m.funcs.length : Int)) ++ m.funcs.flatMap encF) ++ be 1 m.entry) ++ be 1 (vs.length : Int)) ++ (m.tables.take j).flatMap encT) ++ be 1 (t.length : Int))) from sb')
          clear hr sb'
          rw [be_small _ (by omega) (by omega)] at HR12
          obtain ⟨q0, q1, q2, q3, q4, q5⟩ := six_sb HIMG.out sb.out
          have d1 := fc.out _ sb.out.bel
          go_wp2_with (first | (at_builtin; refine wpList_append_two _ rfl (.tmp 87) (.tmp 95) 22 22 rfl _ _ rfl rfl HR12.out ?_))
          clear p0 p1 p2 p3 p4 p5 q0 q1 q2 q3 q4 q5 d0 d1 HR12
          generalize wr = wo at *
          go_loopw [5, 8] (fun v u wr => ∃ i : Nat, i ≤ t.length ∧ u = .int .i64 (i : Int) ∧ Hid (Sb w1 B w.heap.size img wr v (((((((((magic ++ be 2 (m.text.length : Int)) ++ m.text) ++ be 1 (m.funcs.length : Int)) ++ m.funcs.flatMap encF) ++ be 1 m.entry) ++ be 1 (vs.length : Int)) ++ (m.tables.take j).flatMap encT) ++ be 1 (t.length : Int)) ++ (t.take i).flatMap (be 2)))) (fun _ u _ => (t.length - intOf u).toNat)
          case atStart => exact ⟨0, by omega, rfl, by simpa using sb⟩
          case round =>
            clear sb
            obtain ⟨i, i1, rfl, sb⟩ := hrel
            have si : ((t.take i).flatMap (be 2)).length ≤ 40 := by
              have := flatMap_le (be 2) 2 (t.take i) fun x _ => by rw [be_len]; exact Nat.le_refl _
              rw [List.length_take] at this
              omega
            obtain ⟨p0, p1, p2, p3, p4, p5⟩ := six_sb HIMG.out sb.out
            have d0 := fc.out _ sb.out.bel
            by_cases hi : i < t.length
            · obtain ⟨x, hx⟩ : ∃ x, t[i]? = some x := ⟨_, List.getElem?_eq_getElem (by omega)⟩
              obtain ⟨b2, o2, cap2, hv2, e1, e2, e3, e4⟩ := HTt.out.resolve_left (by rintro ⟨_, _, _, h⟩; rw [h] at hi; simp at hi)
              cases hv2
              have d2 := ((FIN.out _ sb.out.bel).cell (p := ⟨b2, o2 + i * 1 + 0, none⟩) e3).trans (e4 i x hx 0 (.int .i64 x) rfl)
              rw [Nat.mul_one, Nat.add_zero] at d2
              have hii : (i : Int) < (t.length : Int) := by omega
              have HX : Hid _ := flat_take (be 2) hx
              have HI : Hid (i64 x) := HIt.out x (List.mem_of_getElem? hx)
              clear e4 hx
              go_wp2_with fail
              refine (big_any x 2 _ (by decide) (HI.out)).mono ?_
              rintro e w4 ⟨rfl, hw4⟩
              obtain rfl := hw4.symm
              obtain ⟨v13, W13, hr, sb'⟩ := sb_row sb.out (be 2 x) 2 (be_len 2 _) (by simp only [List.length_append, be_len, LMAG]; omega)
              have HR13 : Hid _ := hr
              replace sb := (show Hid (Sb w1 B w.heap.size img W13 v13 ((((((((((magic ++ be 2 (m.text.length : Int)) ++ m.text) ++ be 1 (m.funcs.length : Int)) ++ m.funcs.flatMap encF) ++ be 1 m.entry) ++ be 1 (vs.length : Int)) ++ (m.tables.take j).flatMap encT) ++ be 1 (t.length : Int)) ++ (t.take i).flatMap (be 2)) ++ be 2 x)) from sb')
              clear hr sb'
              replace sb := (show Hid (Sb w1 B w.heap.size img W13 v13 (((((((((magic ++ be 2 (m.text.length : Int)) ++ m.text) ++ be 1 (m.funcs.length : Int)) ++ m.funcs.flatMap encF) ++ be 1 m.entry) ++ be 1 (vs.length : Int)) ++ (m.tables.take j).flatMap encT) ++ be 1 (t.length : Int)) ++ (t.take (i + 1)).flatMap (be 2))) from by have := sb.out; show Sb _ _ _ _ _ _ _; rw [HX.out, ← List.append_assoc]; exact this)
              go_wp2_with (first | (at_builtin; refine wpList_append_two _ rfl (.tmp 107) (.tmp 116) 22 22 rfl _ _ rfl rfl HR13.out ?_))
              go_roundw
              case rel => exact ⟨i + 1, by omega, by go_num, sb.out⟩
              case measure => simp [intOf]; omega
            · have hil : i = t.length := by omega
              replace sb := (show Hid (Sb w1 B w.heap.size img wr u5 (((((((magic ++ be 2 (m.text.length : Int)) ++ m.text) ++ be 1 (m.funcs.length : Int)) ++ m.funcs.flatMap encF) ++ be 1 m.entry) ++ be 1 (vs.length : Int)) ++ (m.tables.take (j + 1)).flatMap encT)) from by have := sb.out; rw [hil, List.take_length] at this; show Sb _ _ _ _ _ _ _; rw [HY.out]; simpa only [encT, List.append_assoc] using this)
              go_wp2
              go_roundw
              case rel => exact ⟨j + 1, by omega, by go_num, sb.out⟩
              case measure => simp [intOf]; omega
        · have hjl : j = vs.length := by omega
          replace sb := (show Hid (Sb w1 B w.heap.size img wr u5 (((((((magic ++ be 2 (m.text.length : Int)) ++ m.text) ++ be 1 (m.funcs.length : Int)) ++ m.funcs.flatMap encF) ++ be 1 m.entry) ++ be 1 (vs.length : Int)) ++ m.tables.flatMap encT)) from by have := sb.out; rwa [hjl, HBl.out, List.take_length, ← HBl.out] at this)
          subst hjl
          generalize wr = wb at *

          obtain ⟨x0, x1, x2, x3, x4, x5⟩ := six_sb HIMG.out sb.out
          obtain ⟨v14, W14, hr, sb'⟩ := sb_row sb.out (be 1 (m.data.length : Int)) 1 (be_len 1 _) (by simp only [List.length_append, be_len, LMAG]; omega)
          have HR14 : Hid _ := hr
          replace sb := (show Hid (Sb w1 B w.heap.size img W14 v14 ((((((((magic ++ be 2 (m.text.length : Int)) ++ m.text) ++ be 1 (m.funcs.length : Int)) ++ m.funcs.flatMap encF) ++ be 1 m.entry) ++ be 1 (vs.length : Int)) ++ m.tables.flatMap encT) ++ be 1 (m.data.length : Int))) from sb')
          clear hr sb'
          rw [be_one] at HR14
          obtain ⟨k0, k1, k2, k3, k4, k5⟩ := six_sb HIMG.out sb.out
          go_wp2_with (first | (at_builtin; refine wpList_append_two _ rfl (.tmp 118) (.tmp 123) 22 22 rfl _ _ rfl rfl HR14.out ?_))
          clear x0 x1 x2 x3 x4 x5 k0 k1 k2 k3 k4 k5 HR14
          go_loopw [5, 9] (fun v u wr => ∃ j : Nat, j ≤ m.data.length ∧ u = .int .i64 (j : Int) ∧ Hid (Sb w1 B w.heap.size img wr v (((((((((magic ++ be 2 (m.text.length : Int)) ++ m.text) ++ be 1 (m.funcs.length : Int)) ++ m.funcs.flatMap encF) ++ be 1 m.entry) ++ be 1 (vs.length : Int)) ++ m.tables.flatMap encT) ++ be 1 (m.data.length : Int)) ++ (m.data.take j).flatMap (be 8)))) (fun _ u _ => (m.data.length - intOf u).toNat)
          case atStart => exact ⟨0, by omega, rfl, by simpa using sb⟩
          case round =>
            clear sb

            obtain ⟨j, j1, rfl, sb⟩ := hrel
            have sj := S3.out j
            obtain ⟨p0, p1, p2, p3, p4, p5⟩ := six_sb HIMG.out sb.out
            by_cases hj : j < m.data.length
            · obtain ⟨x, hx⟩ : ∃ x, m.data[j]? = some x := ⟨_, List.getElem?_eq_getElem (by omega)⟩
              obtain ⟨b2, o2, cap2, hv2, e1, e2, e3, e4⟩ := HD.out.resolve_left (by rintro ⟨_, _, _, h⟩; rw [h] at hj; simp at hj)
              cases hv2
              have d2 := ((FIN.out _ sb.out.bel).cell (p := ⟨b2, o2 + j * 1 + 0, none⟩) e3).trans (e4 j x hx 0 (.int .i64 x) rfl)
              rw [Nat.mul_one, Nat.add_zero] at d2
              have hii : (j : Int) < (m.data.length : Int) := by omega
              have HX : Hid _ := flat_take (be 8) hx
              have HI : Hid (i64 x) := HO.out.data x (List.mem_of_getElem? hx)
              clear e4 hx
              go_wp2_with fail
              refine (big_any x 8 _ (by decide) (HI.out)).mono ?_
              rintro e w4 ⟨rfl, hw4⟩
              obtain rfl := hw4.symm
              obtain ⟨v15, W15, hr, sb'⟩ := sb_row sb.out (be 8 x) 8 (be_len 8 _) (by simp only [List.length_append, be_len, LMAG]; omega)
              have HR15 : Hid _ := hr
              replace sb := (show Hid (Sb w1 B w.heap.size img W15 v15 ((((((((((magic ++ be 2 (m.text.length : Int)) ++ m.text) ++ be 1 (m.funcs.length : Int)) ++ m.funcs.flatMap encF) ++ be 1 m.entry) ++ be 1 (vs.length : Int)) ++ m.tables.flatMap encT) ++ be 1 (m.data.length : Int)) ++ (m.data.take j).flatMap (be 8)) ++ be 8 x)) from sb')
              clear hr sb'
              replace sb := (show Hid (Sb w1 B w.heap.size img W15 v15 (((((((((magic ++ be 2 (m.text.length : Int)) ++ m.text) ++ be 1 (m.funcs.length : Int)) ++ m.funcs.flatMap encF) ++ be 1 m.entry) ++ be 1 (vs.length : Int)) ++ m.tables.flatMap encT) ++ be 1 (m.data.length : Int)) ++ (m.data.take (j + 1)).flatMap (be 8))) from by have := sb.out; show Sb _ _ _ _ _ _ _; rw [HX.out, ← List.append_assoc]; exact this)
              go_wp2_with (first | (at_builtin; refine wpList_append_two _ rfl (.tmp 132) (.tmp 138) 22 22 rfl _ _ rfl rfl HR15.out ?_))
              go_roundw
              case rel => exact ⟨j + 1, by omega, by go_num, sb.out⟩
              case measure => simp [intOf]; omega
            · have hjl : j = m.data.length := by omega
              replace sb := (show Hid (Sb w1 B w.heap.size img wr u5 (((((((((magic ++ be 2 (m.text.length : Int)) ++ m.text) ++ be 1 (m.funcs.length : Int)) ++ m.funcs.flatMap encF) ++ be 1 m.entry) ++ be 1 (vs.length : Int)) ++ m.tables.flatMap encT) ++ be 1 (m.data.length : Int)) ++ m.data.flatMap (be 8))) from by have := sb.out; rwa [hjl, List.take_length] at this)
              subst hjl
              generalize wr = wc at *

              obtain ⟨x0, x1, x2, x3, x4, x5⟩ := six_sb HIMG.out sb.out
              go_wp2_with fail
              refine (big_any (m.lines.length : Int) 2 _ (by decide) (⟨by omega, by omega⟩)).mono ?_
              rintro e w4 ⟨rfl, hw4⟩
              obtain rfl := hw4.symm
              obtain ⟨v16, W16, hr, sb'⟩ := sb_row sb.out (be 2 (m.lines.length : Int)) 2 (be_len 2 _) (by simp only [List.length_append, be_len, LMAG]; omega)
              have HR16 : Hid _ := hr
              replace sb := (show Hid (Sb w1 B w.heap.size img W16 v16 ((((((((((magic ++ be 2 (m.text.length : Int)) ++ m.text) ++ be 1 (m.funcs.length : Int)) ++ m.funcs.flatMap encF) ++ be 1 m.entry) ++ be 1 (vs.length : Int)) ++ m.tables.flatMap encT) ++ be 1 (m.data.length : Int)) ++ m.data.flatMap (be 8)) ++ be 2 (m.lines.length : Int))) from sb')
              clear hr sb'
              go_wp2_with (first | (at_builtin; refine wpList_append_two _ rfl (.tmp 140) (.tmp 144) 22 22 rfl _ _ rfl rfl HR16.out ?_))
              clear x0 x1 x2 x3 x4 x5 HR16
              go_loopw [5, 10] (fun v u wr => ∃ j : Nat, j ≤ m.lines.length ∧ u = .int .i64 (j : Int) ∧ Hid (Sb w1 B w.heap.size img wr v (((((((((((magic ++ be 2 (m.text.length : Int)) ++ m.text) ++ be 1 (m.funcs.length : Int)) ++ m.funcs.flatMap encF) ++ be 1 m.entry) ++ be 1 (vs.length : Int)) ++ m.tables.flatMap encT) ++ be 1 (m.data.length : Int)) ++ m.data.flatMap (be 8)) ++ be 2 (m.lines.length : Int)) ++ (m.lines.take j).flatMap encLn))) (fun _ u _ => (m.lines.length - intOf u).toNat)
              case atStart => exact ⟨0, by omega, rfl, by simpa using sb⟩
              case round =>
                clear sb

                obtain ⟨j, j1, rfl, sb⟩ := hrel
                have sj := S4.out j
                obtain ⟨p0, p1, p2, p3, p4, p5⟩ := six_sb HIMG.out sb.out
                by_cases hj : j < m.lines.length
                · obtain ⟨y, hy⟩ : ∃ y, m.lines[j]? = some y := ⟨_, List.getElem?_eq_getElem (by omega)⟩
                  obtain ⟨bb, oo, cap, hv, c1, c2, c3, c4⟩ := HL.out.resolve_left (by rintro ⟨_, _, _, h⟩; rw [h] at hj; simp at hj)
                  cases hv
                  have fc : Hid (∀ wz, Below B w1 wz → wz.cell? ⟨bb, oo + j * 2, none⟩ = some (.int .i64 y.a) ∧ wz.cell? ⟨bb, oo + j * 2 + 1, none⟩ = some (.int .i64 y.n)) := fun wz hz => ⟨((FIN.out _ hz).cell (p := ⟨bb, _, none⟩) c3).trans (c4 j y hy 0 _ rfl), ((FIN.out _ hz).cell (p := ⟨bb, _, none⟩) c3).trans (c4 j y hy 1 _ rfl)⟩
                  have hjj : (j : Int) < (m.lines.length : Int) := by omega
                  have HY : Hid _ := flat_take encLn hy
                  have HI : Hid (i64 y.a ∧ i64 y.n) := HO.out.lines y (List.mem_of_getElem? hy)
                  clear c4 hy
                  obtain ⟨d0, d1⟩ := fc.out _ sb.out.bel
                  go_wp2_with fail
                  refine (big_any y.a 2 _ (by decide) (HI.out.1)).mono ?_
                  rintro e w4 ⟨rfl, hw4⟩
                  obtain rfl := hw4.symm
                  obtain ⟨v17, W17, hr, sb'⟩ := sb_row sb.out (be 2 y.a) 2 (be_len 2 _) (by simp only [List.length_append, be_len, LMAG]; omega)
                  have HR17 : Hid _ := hr
                  replace sb := (show Hid (Sb w1 B w.heap.size img W17 v17 ((((((((((((magic ++ be 2 (m.text.length : Int)) ++ m.text) ++ be 1 (m.funcs.length : Int)) ++ m.funcs.flatMap encF) ++ be 1 m.entry) ++ be 1 (vs.length : Int)) ++ m.tables.flatMap encT) ++ be 1 (m.data.length : Int)) ++ m.data.flatMap (be 8)) ++ be 2 (m.lines.length : Int)) ++ (m.lines.take j).flatMap encLn) ++ be 2 y.a)) from sb')
                  clear hr sb'
                  obtain ⟨q0, q1, q2, q3, q4, q5⟩ := six_sb HIMG.out sb.out
                  obtain ⟨e0, e1⟩ := fc.out _ sb.out.bel
                  go_wp2_with (first | (at_builtin; refine wpList_append_two _ rfl (.tmp 153) (.tmp 160) 22 22 rfl _ _ rfl rfl HR17.out ?_))
                  refine (big_any y.n 2 _ (by decide) (HI.out.2)).mono ?_
                  rintro e w4 ⟨rfl, hw4⟩
                  obtain rfl := hw4.symm
                  obtain ⟨v18, W18, hr, sb'⟩ := sb_row sb.out (be 2 y.n) 2 (be_len 2 _) (by simp only [List.length_append, be_len, LMAG]; omega)
                  have HR18 : Hid _ := hr
                  replace sb := (show Hid (Sb w1 B w.heap.size img W18 v18 (((((((((((((magic ++ be 2 (m.text.length : Int)) ++ m.text) ++ be 1 (m.funcs.length : Int)) ++ m.funcs.flatMap encF) ++ be 1 m.entry) ++ be 1 (vs.length : Int)) ++ m.tables.flatMap encT) ++ be 1 (m.data.length : Int)) ++ m.data.flatMap (be 8)) ++ be 2 (m.lines.length : Int)) ++ (m.lines.take j).flatMap encLn) ++ be 2 y.a) ++ be 2 y.n)) from sb')
                  clear hr sb'
                  replace sb := (show Hid (Sb w1 B w.heap.size img W18 v18 (((((((((((magic ++ be 2 (m.text.length : Int)) ++ m.text) ++ be 1 (m.funcs.length : Int)) ++ m.funcs.flatMap encF) ++ be 1 m.entry) ++ be 1 (vs.length : Int)) ++ m.tables.flatMap encT) ++ be 1 (m.data.length : Int)) ++ m.data.flatMap (be 8)) ++ be 2 (m.lines.length : Int)) ++ (m.lines.take (j + 1)).flatMap encLn)) from by have := sb.out; show Sb _ _ _ _ _ _ _; rw [HY.out]; simpa only [encLn, List.append_assoc] using this)
                  go_wp2_with (first | (at_builtin; refine wpList_append_two _ rfl (.tmp 162) (.tmp 169) 22 22 rfl _ _ rfl rfl HR18.out ?_))
                  go_roundw
                  case rel => exact ⟨j + 1, by omega, by go_num, sb.out⟩
                  case measure => simp [intOf]; omega
                · have hjl : j = m.lines.length := by omega
                  have hfin := sb.out
                  rw [hjl, List.take_length, HBl.out] at hfin
                  have HFI : Hid (Sb w1 B w.heap.size img wr u5 (encImg m)) := hfin
                  clear hfin
                  go_wp2
                  go_ret2
                  exact Or.inr ⟨Q0.out, _, rfl, ⟨B, by omega, HFI.out.own⟩, FIN.out _ HFI.out.bel⟩
end Go.Proofs.Ytmibbjjfijcgpac
