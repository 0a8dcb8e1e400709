/-
  boltholeref.InstrAt: what it answers.
-/
import Derived.Test.YtkofnmeononlaaaDoorWalkI
namespace Go.Proofs.YtkofnmeononlaaaDoor
open Go.RowKit Go.Joins Isa
set_option maxRecDepth 100000 in
set_option maxHeartbeats 2000000 in
theorem at_in3 (bb oo cap len t : Nat) (x : Int) (rs : List Int) (X : Ins × Int × Int) (w : World) (hb : bb < w.heap.size) (_hl : len ≤ cap) (_hm : cap ≤ maxLen) (_h47 : len ≤ 140737488351232) (htl : t < len) (hx : w.cell? ⟨bb, oo + t, none⟩ = some (.int .u8 x)) (_x0 : 0 ≤ x) (_x1 : x ≤ 255)
    (hk : kindB x = (3, false)) 
    (hX : X = if 3 = 0 then (zeroI, 0, 3) else if (len : Int) - t < siz 3 false then (zeroI, 0, 5) else if (opsD 3 false rs).chk = 0 then (opsD 3 false rs, siz 3 false, 0) else (zeroI, 0, 4))
    (hrs : 3 ≠ 0 → siz 3 false ≤ (len : Int) - t → (rs.length : Int) = siz 3 false - 1 ∧ (∀ j y, rs[j]? = some y → w.cell? ⟨bb, oo + (t + 1) + j, none⟩ = some (.int .u8 y)) ∧ ∀ y ∈ rs, 0 ≤ y ∧ y ≤ 255) :
    Calls Tryd.prog 17 #[.slice (some ⟨bb, oo, none⟩) len cap, .int .i64 t] w fun e w' => e = .returned (.tuple #[.agg #[.int .i64 X.1.k, .int .i64 X.1.d, .int .i64 X.1.a, .int .i64 X.1.b, .int .i64 X.1.n, .bool X.1.l], .int .i64 X.2.1, .int .i64 X.2.2]) ∧ Below w.heap.size w w' := by
  have hi : inB t 0 ((len : Int) - 1) = true := by unfold inB; simp; omega
  have hsc : scan x 24 = (3, false) := (scan_kind x _x0 _x1).trans hk
  unfold maxLen at _hm
  have HS : Hid _ := hsc
  have HX : Hid (X = if (len : Int) - t < siz 3 false then (zeroI, 0, 5) else if (opsD 3 false rs).chk = 0 then (opsD 3 false rs, siz 3 false, 0) else (zeroI, 0, 4)) := by show _ = _; rw [hX, if_neg (by decide)]
  have HR : Hid _ := hrs
  clear hsc hX hrs hk
  go_enter Tryd.func17, Tryd.ntmps17
  go_wp2_with (go_at_call 23; refine (rin_any t 0 ((len : Int) - 1) _).mono ?_; rw [hi]; rintro e w1 ⟨rfl, hw1⟩; obtain rfl := hw1.symm)
  go_loopw [8] (fun v wr => ∃ m : Nat, m ≤ 24 ∧ v = .int .i64 ((m : Int) + 1) ∧ wr = (w.alloc (.cells #[.int .i64 0, .int .i64 0, .int .i64 0, .int .i64 0, .int .i64 0, .bool false] 23)).alloc (.cells #[.int .i64 (scan x m).1, .int .i64 0, .int .i64 0, .int .i64 0, .int .i64 0, .bool (scan x m).2] 23)) (fun v _ => (25 - intOf v).toNat)
  case atStart => exact ⟨0, by omega, rfl, rfl⟩
  case round =>
    obtain ⟨m, m2, rfl, rfl⟩ := hrel
    have hb2 : bb < w.heap.size + 1 := by omega
    have hb3 : bb < w.heap.size + 1 + 1 := by omega
    by_cases hm : m < 24
    · have hs : Hid (scan x (m + 1) = if 0 < opL ((m : Int) + 1) ∧ opL ((m : Int) + 1) = x then ((m : Int) + 1, true) else if opF ((m : Int) + 1) = x then ((m : Int) + 1, (scan x m).2) else scan x m) := rfl
      clear HX HR HS
      by_cases e1 : opF ((m : Int) + 1) = x
      · have e1b : (opF ((m : Int) + 1) == x) = true := by simp [e1]
        by_cases e2 : 0 < opL ((m : Int) + 1)
        · by_cases e3 : opL ((m : Int) + 1) = x
          · have e3b : (opL ((m : Int) + 1) == x) = true := by simp [e3]
            have hs2 : Hid (scan x (m + 1) = ((m : Int) + 1, true)) := by show _ = _; rw [hs.out, if_pos ⟨e2, e3⟩]
            clear hs e1 e3
            go_wp2_with (go_at_call 25; refine (rop_any ((m : Int) + 1) _ (by omega) (by omega)).mono ?_; rintro e w1 ⟨rfl, hw1⟩; obtain rfl := hw1.symm)
            go_roundw
            case rel => exact ⟨m + 1, by omega, by go_num, by rw [hs2.out]⟩
            case measure => simp [intOf]; omega
          · have e3b : (opL ((m : Int) + 1) == x) = false := by simp [e3]
            have hs2 : Hid (scan x (m + 1) = ((m : Int) + 1, (scan x m).2)) := by show _ = _; rw [hs.out, if_neg (by omega), if_pos e1]
            clear hs e1 e3
            go_wp2_with (go_at_call 25; refine (rop_any ((m : Int) + 1) _ (by omega) (by omega)).mono ?_; rintro e w1 ⟨rfl, hw1⟩; obtain rfl := hw1.symm)
            go_roundw
            case rel => exact ⟨m + 1, by omega, by go_num, by rw [hs2.out]⟩
            case measure => simp [intOf]; omega
        · have hs2 : Hid (scan x (m + 1) = ((m : Int) + 1, (scan x m).2)) := by show _ = _; rw [hs.out, if_neg (by omega), if_pos e1]
          clear hs e1
          go_wp2_with (go_at_call 25; refine (rop_any ((m : Int) + 1) _ (by omega) (by omega)).mono ?_; rintro e w1 ⟨rfl, hw1⟩; obtain rfl := hw1.symm)
          go_roundw
          case rel => exact ⟨m + 1, by omega, by go_num, by rw [hs2.out]⟩
          case measure => simp [intOf]; omega
      · have e1b : (opF ((m : Int) + 1) == x) = false := by simp [e1]
        by_cases e2 : 0 < opL ((m : Int) + 1)
        · by_cases e3 : opL ((m : Int) + 1) = x
          · have e3b : (opL ((m : Int) + 1) == x) = true := by simp [e3]
            have hs2 : Hid (scan x (m + 1) = ((m : Int) + 1, true)) := by show _ = _; rw [hs.out, if_pos ⟨e2, e3⟩]
            clear hs e1 e3
            go_wp2_with (go_at_call 25; refine (rop_any ((m : Int) + 1) _ (by omega) (by omega)).mono ?_; rintro e w1 ⟨rfl, hw1⟩; obtain rfl := hw1.symm)
            go_roundw
            case rel => exact ⟨m + 1, by omega, by go_num, by rw [hs2.out]⟩
            case measure => simp [intOf]; omega
          · have e3b : (opL ((m : Int) + 1) == x) = false := by simp [e3]
            have hs2 : Hid (scan x (m + 1) = scan x m) := by show _ = _; rw [hs.out, if_neg (by omega), if_neg e1]
            clear hs e1 e3
            go_wp2_with (go_at_call 25; refine (rop_any ((m : Int) + 1) _ (by omega) (by omega)).mono ?_; rintro e w1 ⟨rfl, hw1⟩; obtain rfl := hw1.symm)
            go_roundw
            case rel => exact ⟨m + 1, by omega, by go_num, by rw [hs2.out]⟩
            case measure => simp [intOf]; omega
        · have hs2 : Hid (scan x (m + 1) = scan x m) := by show _ = _; rw [hs.out, if_neg (by omega), if_neg e1]
          clear hs e1
          go_wp2_with (go_at_call 25; refine (rop_any ((m : Int) + 1) _ (by omega) (by omega)).mono ?_; rintro e w1 ⟨rfl, hw1⟩; obtain rfl := hw1.symm)
          go_roundw
          case rel => exact ⟨m + 1, by omega, by go_num, by rw [hs2.out]⟩
          case measure => simp [intOf]; omega
    · obtain rfl : m = 24 := by omega
      rw [HS.out]
      clear HS
      have hs : siz 3 false = 1 := rfl
      rw [hs] at HX HR
      by_cases hsh : (len : Int) - t < 1
      · exact absurd hsh (by omega)
      rw [if_neg hsh] at HX
      obtain ⟨R1, R2, R3⟩ := HR.out (by decide) (by omega)
      obtain rfl : rs = [] := List.length_eq_zero_iff.1 (by omega)
      have hD : opsD 3 false [] = ⟨3, 0, 0, 0, 0, false⟩ := rfl
      rw [hD] at HX
      clear R1 R2 R3 HR hD
      have hch : (⟨3, 0, 0, 0, 0, false⟩ : Ins).chk = Isa.chk 3 0 0 0 0 false := rfl
      rw [hch] at HX
      clear hch
      go_wp2_with (first | (go_at_call 27; refine (rsizeX 3 0 0 0 0 false _ (by decide) (by decide) (by decide)).mono ?_; rw [hs]; rintro e w1 ⟨rfl, hw1⟩; obtain rfl := hw1.symm))
      refine (fault_any 3 0 0 0 0 false _).mono ?_
      rintro e w2 ⟨rfl, hb2'⟩
      obtain ⟨hc2, hf2⟩ := bcell hb2'
      have hz2 : w.heap.size < w2.heap.size := (by have := hb2'.size; simp at this; omega)
      have hz3 : w.heap.size + 1 < w2.heap.size := (by have := hb2'.size; simp at this; omega)
      have B2 : Below w.heap.size w w2 := (show Below w.heap.size w _ from by go_grown).trans (hb2'.mono (by simp; omega))
      have cr2 : ∀ j, w2.cell? ⟨w.heap.size, j, none⟩ = (#[.int .i64 0, .int .i64 0, .int .i64 0, .int .i64 0, .int .i64 0, .bool false] : Array Value)[j]? := fun j => (hc2 w.heap.size j (by simp; omega)).trans (by simp [go_sem])
      clear hb2'
      generalize Isa.chk 3 0 0 0 0 false = ch at *
      by_cases hf : ch = 0
      · subst hf
        rw [if_pos rfl] at HX
        go_wp2
        exact bodyPost_ret (v := .tuple #[.agg #[.int .i64 3, .int .i64 0, .int .i64 0, .int .i64 0, .int .i64 0, .bool false], .int .i64 1, .int .i64 0]) (by simp [results, Tryd.results17, go_sem, cr2]) rfl ⟨by rw [HX.out], by go_grown⟩
      · have hfb : (ch == 0) = false := by simp [hf]
        rw [if_neg hf] at HX
        go_wp2
        exact bodyPost_ret (v := .tuple #[.agg #[.int .i64 0, .int .i64 0, .int .i64 0, .int .i64 0, .int .i64 0, .bool false], .int .i64 0, .int .i64 4]) (by simp [results, Tryd.results17, go_sem, cr2]) rfl ⟨by rw [HX.out]; rfl, by go_grown⟩
set_option maxRecDepth 100000 in
set_option maxHeartbeats 2000000 in
theorem at_in11 (bb oo cap len t : Nat) (x : Int) (rs : List Int) (X : Ins × Int × Int) (w : World) (hb : bb < w.heap.size) (_hl : len ≤ cap) (_hm : cap ≤ maxLen) (_h47 : len ≤ 140737488351232) (htl : t < len) (hx : w.cell? ⟨bb, oo + t, none⟩ = some (.int .u8 x)) (_x0 : 0 ≤ x) (_x1 : x ≤ 255)
    (hk : kindB x = (11, false)) 
    (hX : X = if 11 = 0 then (zeroI, 0, 3) else if (len : Int) - t < siz 11 false then (zeroI, 0, 5) else if (opsD 11 false rs).chk = 0 then (opsD 11 false rs, siz 11 false, 0) else (zeroI, 0, 4))
    (hrs : 11 ≠ 0 → siz 11 false ≤ (len : Int) - t → (rs.length : Int) = siz 11 false - 1 ∧ (∀ j y, rs[j]? = some y → w.cell? ⟨bb, oo + (t + 1) + j, none⟩ = some (.int .u8 y)) ∧ ∀ y ∈ rs, 0 ≤ y ∧ y ≤ 255) :
    Calls Tryd.prog 17 #[.slice (some ⟨bb, oo, none⟩) len cap, .int .i64 t] w fun e w' => e = .returned (.tuple #[.agg #[.int .i64 X.1.k, .int .i64 X.1.d, .int .i64 X.1.a, .int .i64 X.1.b, .int .i64 X.1.n, .bool X.1.l], .int .i64 X.2.1, .int .i64 X.2.2]) ∧ Below w.heap.size w w' := by
  have hi : inB t 0 ((len : Int) - 1) = true := by unfold inB; simp; omega
  have hsc : scan x 24 = (11, false) := (scan_kind x _x0 _x1).trans hk
  unfold maxLen at _hm
  have HS : Hid _ := hsc
  have HX : Hid (X = if (len : Int) - t < siz 11 false then (zeroI, 0, 5) else if (opsD 11 false rs).chk = 0 then (opsD 11 false rs, siz 11 false, 0) else (zeroI, 0, 4)) := by show _ = _; rw [hX, if_neg (by decide)]
  have HR : Hid _ := hrs
  clear hsc hX hrs hk
  go_enter Tryd.func17, Tryd.ntmps17
  go_wp2_with (go_at_call 23; refine (rin_any t 0 ((len : Int) - 1) _).mono ?_; rw [hi]; rintro e w1 ⟨rfl, hw1⟩; obtain rfl := hw1.symm)
  go_loopw [8] (fun v wr => ∃ m : Nat, m ≤ 24 ∧ v = .int .i64 ((m : Int) + 1) ∧ wr = (w.alloc (.cells #[.int .i64 0, .int .i64 0, .int .i64 0, .int .i64 0, .int .i64 0, .bool false] 23)).alloc (.cells #[.int .i64 (scan x m).1, .int .i64 0, .int .i64 0, .int .i64 0, .int .i64 0, .bool (scan x m).2] 23)) (fun v _ => (25 - intOf v).toNat)
  case atStart => exact ⟨0, by omega, rfl, rfl⟩
  case round =>
    obtain ⟨m, m2, rfl, rfl⟩ := hrel
    have hb2 : bb < w.heap.size + 1 := by omega
    have hb3 : bb < w.heap.size + 1 + 1 := by omega
    by_cases hm : m < 24
    · have hs : Hid (scan x (m + 1) = if 0 < opL ((m : Int) + 1) ∧ opL ((m : Int) + 1) = x then ((m : Int) + 1, true) else if opF ((m : Int) + 1) = x then ((m : Int) + 1, (scan x m).2) else scan x m) := rfl
      clear HX HR HS
      by_cases e1 : opF ((m : Int) + 1) = x
      · have e1b : (opF ((m : Int) + 1) == x) = true := by simp [e1]
        by_cases e2 : 0 < opL ((m : Int) + 1)
        · by_cases e3 : opL ((m : Int) + 1) = x
          · have e3b : (opL ((m : Int) + 1) == x) = true := by simp [e3]
            have hs2 : Hid (scan x (m + 1) = ((m : Int) + 1, true)) := by show _ = _; rw [hs.out, if_pos ⟨e2, e3⟩]
            clear hs e1 e3
            go_wp2_with (go_at_call 25; refine (rop_any ((m : Int) + 1) _ (by omega) (by omega)).mono ?_; rintro e w1 ⟨rfl, hw1⟩; obtain rfl := hw1.symm)
            go_roundw
            case rel => exact ⟨m + 1, by omega, by go_num, by rw [hs2.out]⟩
            case measure => simp [intOf]; omega
          · have e3b : (opL ((m : Int) + 1) == x) = false := by simp [e3]
            have hs2 : Hid (scan x (m + 1) = ((m : Int) + 1, (scan x m).2)) := by show _ = _; rw [hs.out, if_neg (by omega), if_pos e1]
            clear hs e1 e3
            go_wp2_with (go_at_call 25; refine (rop_any ((m : Int) + 1) _ (by omega) (by omega)).mono ?_; rintro e w1 ⟨rfl, hw1⟩; obtain rfl := hw1.symm)
            go_roundw
            case rel => exact ⟨m + 1, by omega, by go_num, by rw [hs2.out]⟩
            case measure => simp [intOf]; omega
        · have hs2 : Hid (scan x (m + 1) = ((m : Int) + 1, (scan x m).2)) := by show _ = _; rw [hs.out, if_neg (by omega), if_pos e1]
          clear hs e1
          go_wp2_with (go_at_call 25; refine (rop_any ((m : Int) + 1) _ (by omega) (by omega)).mono ?_; rintro e w1 ⟨rfl, hw1⟩; obtain rfl := hw1.symm)
          go_roundw
          case rel => exact ⟨m + 1, by omega, by go_num, by rw [hs2.out]⟩
          case measure => simp [intOf]; omega
      · have e1b : (opF ((m : Int) + 1) == x) = false := by simp [e1]
        by_cases e2 : 0 < opL ((m : Int) + 1)
        · by_cases e3 : opL ((m : Int) + 1) = x
          · have e3b : (opL ((m : Int) + 1) == x) = true := by simp [e3]
            have hs2 : Hid (scan x (m + 1) = ((m : Int) + 1, true)) := by show _ = _; rw [hs.out, if_pos ⟨e2, e3⟩]
            clear hs e1 e3
            go_wp2_with (go_at_call 25; refine (rop_any ((m : Int) + 1) _ (by omega) (by omega)).mono ?_; rintro e w1 ⟨rfl, hw1⟩; obtain rfl := hw1.symm)
            go_roundw
            case rel => exact ⟨m + 1, by omega, by go_num, by rw [hs2.out]⟩
            case measure => simp [intOf]; omega
          · have e3b : (opL ((m : Int) + 1) == x) = false := by simp [e3]
            have hs2 : Hid (scan x (m + 1) = scan x m) := by show _ = _; rw [hs.out, if_neg (by omega), if_neg e1]
            clear hs e1 e3
            go_wp2_with (go_at_call 25; refine (rop_any ((m : Int) + 1) _ (by omega) (by omega)).mono ?_; rintro e w1 ⟨rfl, hw1⟩; obtain rfl := hw1.symm)
            go_roundw
            case rel => exact ⟨m + 1, by omega, by go_num, by rw [hs2.out]⟩
            case measure => simp [intOf]; omega
        · have hs2 : Hid (scan x (m + 1) = scan x m) := by show _ = _; rw [hs.out, if_neg (by omega), if_neg e1]
          clear hs e1
          go_wp2_with (go_at_call 25; refine (rop_any ((m : Int) + 1) _ (by omega) (by omega)).mono ?_; rintro e w1 ⟨rfl, hw1⟩; obtain rfl := hw1.symm)
          go_roundw
          case rel => exact ⟨m + 1, by omega, by go_num, by rw [hs2.out]⟩
          case measure => simp [intOf]; omega
    · obtain rfl : m = 24 := by omega
      rw [HS.out]
      clear HS
      have hs : siz 11 false = 3 := rfl
      rw [hs] at HX HR
      by_cases hsh : (len : Int) - t < 3
      · rw [if_pos hsh] at HX
        clear HR
        go_wp2_with (go_at_call 27; refine (rsizeX 11 0 0 0 0 false _ (by decide) (by decide) (by decide)).mono ?_; rw [hs]; rintro e w1 ⟨rfl, hw1⟩; obtain rfl := hw1.symm)
        exact bodyPost_ret (v := .tuple #[.agg #[.int .i64 0, .int .i64 0, .int .i64 0, .int .i64 0, .int .i64 0, .bool false], .int .i64 0, .int .i64 5]) (by simp [results, Tryd.results17, go_sem]) rfl ⟨by rw [HX.out]; rfl, by go_grown⟩
      rw [if_neg hsh] at HX
      obtain ⟨R1, R2, R3⟩ := HR.out (by decide) (by omega)
      have hn : rs.length = 2 := by omega
      obtain ⟨p, q, rfl⟩ := two hn
      have cp : w.cell? ⟨bb, oo + t + 1, none⟩ = some (.int .u8 p) := by have := R2 0 p rfl; rwa [show oo + (t + 1) + 0 = oo + t + 1 by omega] at this
      obtain ⟨p0, p1⟩ := R3 p (by simp)
      have cq : w.cell? ⟨bb, oo + t + 2, none⟩ = some (.int .u8 q) := by have := R2 1 q rfl; rwa [show oo + (t + 1) + 1 = oo + t + 2 by omega] at this
      obtain ⟨q0, q1⟩ := R3 q (by simp)
      have hD : opsD 11 false [p, q] = ⟨11, (p / 16), (p % 16), q, 0, false⟩ := rfl
      rw [hD] at HX
      clear R1 R2 R3 HR hD hn
      have hch : (⟨11, (p / 16), (p % 16), q, 0, false⟩ : Ins).chk = Isa.chk 11 (p / 16) (p % 16) q 0 false := rfl
      rw [hch] at HX
      clear hch
      go_wp2_with (first | (go_at_call 27; refine (rsizeX 11 0 0 0 0 false _ (by decide) (by decide) (by decide)).mono ?_; rw [hs]; rintro e w1 ⟨rfl, hw1⟩; obtain rfl := hw1.symm))
      refine (fault_any 11 (p / 16) (p % 16) q 0 false _).mono ?_
      rintro e w2 ⟨rfl, hb2'⟩
      obtain ⟨hc2, hf2⟩ := bcell hb2'
      have hz2 : w.heap.size < w2.heap.size := (by have := hb2'.size; simp at this; omega)
      have hz3 : w.heap.size + 1 < w2.heap.size := (by have := hb2'.size; simp at this; omega)
      have B2 : Below w.heap.size w w2 := (show Below w.heap.size w _ from by go_grown).trans (hb2'.mono (by simp; omega))
      have cr2 : ∀ j, w2.cell? ⟨w.heap.size, j, none⟩ = (#[.int .i64 0, .int .i64 0, .int .i64 0, .int .i64 0, .int .i64 0, .bool false] : Array Value)[j]? := fun j => (hc2 w.heap.size j (by simp; omega)).trans (by simp [go_sem])
      clear hb2'
      generalize Isa.chk 11 (p / 16) (p % 16) q 0 false = ch at *
      by_cases hf : ch = 0
      · subst hf
        rw [if_pos rfl] at HX
        go_wp2
        exact bodyPost_ret (v := .tuple #[.agg #[.int .i64 11, .int .i64 (p / 16), .int .i64 (p % 16), .int .i64 q, .int .i64 0, .bool false], .int .i64 3, .int .i64 0]) (by simp [results, Tryd.results17, go_sem, cr2]) rfl ⟨by rw [HX.out], by go_grown⟩
      · have hfb : (ch == 0) = false := by simp [hf]
        rw [if_neg hf] at HX
        go_wp2
        exact bodyPost_ret (v := .tuple #[.agg #[.int .i64 0, .int .i64 0, .int .i64 0, .int .i64 0, .int .i64 0, .bool false], .int .i64 0, .int .i64 4]) (by simp [results, Tryd.results17, go_sem, cr2]) rfl ⟨by rw [HX.out]; rfl, by go_grown⟩
set_option maxRecDepth 100000 in
set_option maxHeartbeats 2000000 in
theorem at_in18L (bb oo cap len t : Nat) (x : Int) (rs : List Int) (X : Ins × Int × Int) (w : World) (hb : bb < w.heap.size) (_hl : len ≤ cap) (_hm : cap ≤ maxLen) (_h47 : len ≤ 140737488351232) (htl : t < len) (hx : w.cell? ⟨bb, oo + t, none⟩ = some (.int .u8 x)) (_x0 : 0 ≤ x) (_x1 : x ≤ 255)
    (hk : kindB x = (18, true)) 
    (hX : X = if 18 = 0 then (zeroI, 0, 3) else if (len : Int) - t < siz 18 true then (zeroI, 0, 5) else if (opsD 18 true rs).chk = 0 then (opsD 18 true rs, siz 18 true, 0) else (zeroI, 0, 4))
    (hrs : 18 ≠ 0 → siz 18 true ≤ (len : Int) - t → (rs.length : Int) = siz 18 true - 1 ∧ (∀ j y, rs[j]? = some y → w.cell? ⟨bb, oo + (t + 1) + j, none⟩ = some (.int .u8 y)) ∧ ∀ y ∈ rs, 0 ≤ y ∧ y ≤ 255) :
    Calls Tryd.prog 17 #[.slice (some ⟨bb, oo, none⟩) len cap, .int .i64 t] w fun e w' => e = .returned (.tuple #[.agg #[.int .i64 X.1.k, .int .i64 X.1.d, .int .i64 X.1.a, .int .i64 X.1.b, .int .i64 X.1.n, .bool X.1.l], .int .i64 X.2.1, .int .i64 X.2.2]) ∧ Below w.heap.size w w' := by
  have hi : inB t 0 ((len : Int) - 1) = true := by unfold inB; simp; omega
  have hsc : scan x 24 = (18, true) := (scan_kind x _x0 _x1).trans hk
  unfold maxLen at _hm
  have HS : Hid _ := hsc
  have HX : Hid (X = if (len : Int) - t < siz 18 true then (zeroI, 0, 5) else if (opsD 18 true rs).chk = 0 then (opsD 18 true rs, siz 18 true, 0) else (zeroI, 0, 4)) := by show _ = _; rw [hX, if_neg (by decide)]
  have HR : Hid _ := hrs
  clear hsc hX hrs hk
  go_enter Tryd.func17, Tryd.ntmps17
  go_wp2_with (go_at_call 23; refine (rin_any t 0 ((len : Int) - 1) _).mono ?_; rw [hi]; rintro e w1 ⟨rfl, hw1⟩; obtain rfl := hw1.symm)
  go_loopw [8] (fun v wr => ∃ m : Nat, m ≤ 24 ∧ v = .int .i64 ((m : Int) + 1) ∧ wr = (w.alloc (.cells #[.int .i64 0, .int .i64 0, .int .i64 0, .int .i64 0, .int .i64 0, .bool false] 23)).alloc (.cells #[.int .i64 (scan x m).1, .int .i64 0, .int .i64 0, .int .i64 0, .int .i64 0, .bool (scan x m).2] 23)) (fun v _ => (25 - intOf v).toNat)
  case atStart => exact ⟨0, by omega, rfl, rfl⟩
  case round =>
    obtain ⟨m, m2, rfl, rfl⟩ := hrel
    have hb2 : bb < w.heap.size + 1 := by omega
    have hb3 : bb < w.heap.size + 1 + 1 := by omega
    by_cases hm : m < 24
    · have hs : Hid (scan x (m + 1) = if 0 < opL ((m : Int) + 1) ∧ opL ((m : Int) + 1) = x then ((m : Int) + 1, true) else if opF ((m : Int) + 1) = x then ((m : Int) + 1, (scan x m).2) else scan x m) := rfl
      clear HX HR HS
      by_cases e1 : opF ((m : Int) + 1) = x
      · have e1b : (opF ((m : Int) + 1) == x) = true := by simp [e1]
        by_cases e2 : 0 < opL ((m : Int) + 1)
        · by_cases e3 : opL ((m : Int) + 1) = x
          · have e3b : (opL ((m : Int) + 1) == x) = true := by simp [e3]
            have hs2 : Hid (scan x (m + 1) = ((m : Int) + 1, true)) := by show _ = _; rw [hs.out, if_pos ⟨e2, e3⟩]
            clear hs e1 e3
            go_wp2_with (go_at_call 25; refine (rop_any ((m : Int) + 1) _ (by omega) (by omega)).mono ?_; rintro e w1 ⟨rfl, hw1⟩; obtain rfl := hw1.symm)
            go_roundw
            case rel => exact ⟨m + 1, by omega, by go_num, by rw [hs2.out]⟩
            case measure => simp [intOf]; omega
          · have e3b : (opL ((m : Int) + 1) == x) = false := by simp [e3]
            have hs2 : Hid (scan x (m + 1) = ((m : Int) + 1, (scan x m).2)) := by show _ = _; rw [hs.out, if_neg (by omega), if_pos e1]
            clear hs e1 e3
            go_wp2_with (go_at_call 25; refine (rop_any ((m : Int) + 1) _ (by omega) (by omega)).mono ?_; rintro e w1 ⟨rfl, hw1⟩; obtain rfl := hw1.symm)
            go_roundw
            case rel => exact ⟨m + 1, by omega, by go_num, by rw [hs2.out]⟩
            case measure => simp [intOf]; omega
        · have hs2 : Hid (scan x (m + 1) = ((m : Int) + 1, (scan x m).2)) := by show _ = _; rw [hs.out, if_neg (by omega), if_pos e1]
          clear hs e1
          go_wp2_with (go_at_call 25; refine (rop_any ((m : Int) + 1) _ (by omega) (by omega)).mono ?_; rintro e w1 ⟨rfl, hw1⟩; obtain rfl := hw1.symm)
          go_roundw
          case rel => exact ⟨m + 1, by omega, by go_num, by rw [hs2.out]⟩
          case measure => simp [intOf]; omega
      · have e1b : (opF ((m : Int) + 1) == x) = false := by simp [e1]
        by_cases e2 : 0 < opL ((m : Int) + 1)
        · by_cases e3 : opL ((m : Int) + 1) = x
          · have e3b : (opL ((m : Int) + 1) == x) = true := by simp [e3]
            have hs2 : Hid (scan x (m + 1) = ((m : Int) + 1, true)) := by show _ = _; rw [hs.out, if_pos ⟨e2, e3⟩]
            clear hs e1 e3
            go_wp2_with (go_at_call 25; refine (rop_any ((m : Int) + 1) _ (by omega) (by omega)).mono ?_; rintro e w1 ⟨rfl, hw1⟩; obtain rfl := hw1.symm)
            go_roundw
            case rel => exact ⟨m + 1, by omega, by go_num, by rw [hs2.out]⟩
            case measure => simp [intOf]; omega
          · have e3b : (opL ((m : Int) + 1) == x) = false := by simp [e3]
            have hs2 : Hid (scan x (m + 1) = scan x m) := by show _ = _; rw [hs.out, if_neg (by omega), if_neg e1]
            clear hs e1 e3
            go_wp2_with (go_at_call 25; refine (rop_any ((m : Int) + 1) _ (by omega) (by omega)).mono ?_; rintro e w1 ⟨rfl, hw1⟩; obtain rfl := hw1.symm)
            go_roundw
            case rel => exact ⟨m + 1, by omega, by go_num, by rw [hs2.out]⟩
            case measure => simp [intOf]; omega
        · have hs2 : Hid (scan x (m + 1) = scan x m) := by show _ = _; rw [hs.out, if_neg (by omega), if_neg e1]
          clear hs e1
          go_wp2_with (go_at_call 25; refine (rop_any ((m : Int) + 1) _ (by omega) (by omega)).mono ?_; rintro e w1 ⟨rfl, hw1⟩; obtain rfl := hw1.symm)
          go_roundw
          case rel => exact ⟨m + 1, by omega, by go_num, by rw [hs2.out]⟩
          case measure => simp [intOf]; omega
    · obtain rfl : m = 24 := by omega
      rw [HS.out]
      clear HS
      have hs : siz 18 true = 4 := rfl
      rw [hs] at HX HR
      by_cases hsh : (len : Int) - t < 4
      · rw [if_pos hsh] at HX
        clear HR
        go_wp2_with (go_at_call 27; refine (rsizeX 18 0 0 0 0 true _ (by decide) (by decide) (by decide)).mono ?_; rw [hs]; rintro e w1 ⟨rfl, hw1⟩; obtain rfl := hw1.symm)
        exact bodyPost_ret (v := .tuple #[.agg #[.int .i64 0, .int .i64 0, .int .i64 0, .int .i64 0, .int .i64 0, .bool false], .int .i64 0, .int .i64 5]) (by simp [results, Tryd.results17, go_sem]) rfl ⟨by rw [HX.out]; rfl, by go_grown⟩
      rw [if_neg hsh] at HX
      obtain ⟨R1, R2, R3⟩ := HR.out (by decide) (by omega)
      have hn : rs.length = 3 := by omega
      obtain ⟨p, q, r, rfl⟩ := three hn
      have cp : w.cell? ⟨bb, oo + t + 1, none⟩ = some (.int .u8 p) := by have := R2 0 p rfl; rwa [show oo + (t + 1) + 0 = oo + t + 1 by omega] at this
      obtain ⟨p0, p1⟩ := R3 p (by simp)
      have cq : w.cell? ⟨bb, oo + t + 2, none⟩ = some (.int .u8 q) := by have := R2 1 q rfl; rwa [show oo + (t + 1) + 1 = oo + t + 2 by omega] at this
      obtain ⟨q0, q1⟩ := R3 q (by simp)
      have cr : w.cell? ⟨bb, oo + t + 3, none⟩ = some (.int .u8 r) := by have := R2 2 r rfl; rwa [show oo + (t + 1) + 2 = oo + t + 3 by omega] at this
      obtain ⟨r0, r1⟩ := R3 r (by simp)
      have hD : opsD 18 true [p, q, r] = ⟨18, 0, (p / 16), (p % 16), (sgn (q + r * 256) 2), true⟩ := rfl
      rw [hD] at HX
      clear R1 R2 R3 HR hD hn
      have hch : (⟨18, 0, (p / 16), (p % 16), (sgn (q + r * 256) 2), true⟩ : Ins).chk = Isa.chk 18 0 (p / 16) (p % 16) (sgn (q + r * 256) 2) true := rfl
      rw [hch] at HX
      clear hch
      go_wp2_with (first | (go_at_call 27; refine (rsizeX 18 0 0 0 0 true _ (by decide) (by decide) (by decide)).mono ?_; rw [hs]; rintro e w1 ⟨rfl, hw1⟩; obtain rfl := hw1.symm) | (go_at_call 34; refine (rsigned2 bb (oo + t + 2) _ q r _ (by first | (simp [go_sem, *]; done) | (go_light; simp [go_sem, *]; done)) (by first | (simp [go_sem, *]; done) | (go_light; simp [go_sem, *]; done)) q0 q1 r0 r1).mono ?_; rintro e w1 ⟨rfl, hw1⟩; obtain rfl := hw1.symm))
      refine (fault_any 18 0 (p / 16) (p % 16) (sgn (q + r * 256) 2) true _).mono ?_
      rintro e w2 ⟨rfl, hb2'⟩
      obtain ⟨hc2, hf2⟩ := bcell hb2'
      have hz2 : w.heap.size < w2.heap.size := (by have := hb2'.size; simp at this; omega)
      have hz3 : w.heap.size + 1 < w2.heap.size := (by have := hb2'.size; simp at this; omega)
      have B2 : Below w.heap.size w w2 := (show Below w.heap.size w _ from by go_grown).trans (hb2'.mono (by simp; omega))
      have cr2 : ∀ j, w2.cell? ⟨w.heap.size, j, none⟩ = (#[.int .i64 0, .int .i64 0, .int .i64 0, .int .i64 0, .int .i64 0, .bool false] : Array Value)[j]? := fun j => (hc2 w.heap.size j (by simp; omega)).trans (by simp [go_sem])
      clear hb2'
      generalize Isa.chk 18 0 (p / 16) (p % 16) (sgn (q + r * 256) 2) true = ch at *
      by_cases hf : ch = 0
      · subst hf
        rw [if_pos rfl] at HX
        go_wp2
        exact bodyPost_ret (v := .tuple #[.agg #[.int .i64 18, .int .i64 0, .int .i64 (p / 16), .int .i64 (p % 16), .int .i64 (sgn (q + r * 256) 2), .bool true], .int .i64 4, .int .i64 0]) (by simp [results, Tryd.results17, go_sem, cr2]) rfl ⟨by rw [HX.out], by go_grown⟩
      · have hfb : (ch == 0) = false := by simp [hf]
        rw [if_neg hf] at HX
        go_wp2
        exact bodyPost_ret (v := .tuple #[.agg #[.int .i64 0, .int .i64 0, .int .i64 0, .int .i64 0, .int .i64 0, .bool false], .int .i64 0, .int .i64 4]) (by simp [results, Tryd.results17, go_sem, cr2]) rfl ⟨by rw [HX.out]; rfl, by go_grown⟩
set_option maxRecDepth 100000 in
set_option maxHeartbeats 2000000 in
theorem at_in22L (bb oo cap len t : Nat) (x : Int) (rs : List Int) (X : Ins × Int × Int) (w : World) (hb : bb < w.heap.size) (_hl : len ≤ cap) (_hm : cap ≤ maxLen) (_h47 : len ≤ 140737488351232) (htl : t < len) (hx : w.cell? ⟨bb, oo + t, none⟩ = some (.int .u8 x)) (_x0 : 0 ≤ x) (_x1 : x ≤ 255)
    (hk : kindB x = (22, true)) 
    (hX : X = if 22 = 0 then (zeroI, 0, 3) else if (len : Int) - t < siz 22 true then (zeroI, 0, 5) else if (opsD 22 true rs).chk = 0 then (opsD 22 true rs, siz 22 true, 0) else (zeroI, 0, 4))
    (hrs : 22 ≠ 0 → siz 22 true ≤ (len : Int) - t → (rs.length : Int) = siz 22 true - 1 ∧ (∀ j y, rs[j]? = some y → w.cell? ⟨bb, oo + (t + 1) + j, none⟩ = some (.int .u8 y)) ∧ ∀ y ∈ rs, 0 ≤ y ∧ y ≤ 255) :
    Calls Tryd.prog 17 #[.slice (some ⟨bb, oo, none⟩) len cap, .int .i64 t] w fun e w' => e = .returned (.tuple #[.agg #[.int .i64 X.1.k, .int .i64 X.1.d, .int .i64 X.1.a, .int .i64 X.1.b, .int .i64 X.1.n, .bool X.1.l], .int .i64 X.2.1, .int .i64 X.2.2]) ∧ Below w.heap.size w w' := by
  have hi : inB t 0 ((len : Int) - 1) = true := by unfold inB; simp; omega
  have hsc : scan x 24 = (22, true) := (scan_kind x _x0 _x1).trans hk
  unfold maxLen at _hm
  have HS : Hid _ := hsc
  have HX : Hid (X = if (len : Int) - t < siz 22 true then (zeroI, 0, 5) else if (opsD 22 true rs).chk = 0 then (opsD 22 true rs, siz 22 true, 0) else (zeroI, 0, 4)) := by show _ = _; rw [hX, if_neg (by decide)]
  have HR : Hid _ := hrs
  clear hsc hX hrs hk
  go_enter Tryd.func17, Tryd.ntmps17
  go_wp2_with (go_at_call 23; refine (rin_any t 0 ((len : Int) - 1) _).mono ?_; rw [hi]; rintro e w1 ⟨rfl, hw1⟩; obtain rfl := hw1.symm)
  go_loopw [8] (fun v wr => ∃ m : Nat, m ≤ 24 ∧ v = .int .i64 ((m : Int) + 1) ∧ wr = (w.alloc (.cells #[.int .i64 0, .int .i64 0, .int .i64 0, .int .i64 0, .int .i64 0, .bool false] 23)).alloc (.cells #[.int .i64 (scan x m).1, .int .i64 0, .int .i64 0, .int .i64 0, .int .i64 0, .bool (scan x m).2] 23)) (fun v _ => (25 - intOf v).toNat)
  case atStart => exact ⟨0, by omega, rfl, rfl⟩
  case round =>
    obtain ⟨m, m2, rfl, rfl⟩ := hrel
    have hb2 : bb < w.heap.size + 1 := by omega
    have hb3 : bb < w.heap.size + 1 + 1 := by omega
    by_cases hm : m < 24
    · have hs : Hid (scan x (m + 1) = if 0 < opL ((m : Int) + 1) ∧ opL ((m : Int) + 1) = x then ((m : Int) + 1, true) else if opF ((m : Int) + 1) = x then ((m : Int) + 1, (scan x m).2) else scan x m) := rfl
      clear HX HR HS
      by_cases e1 : opF ((m : Int) + 1) = x
      · have e1b : (opF ((m : Int) + 1) == x) = true := by simp [e1]
        by_cases e2 : 0 < opL ((m : Int) + 1)
        · by_cases e3 : opL ((m : Int) + 1) = x
          · have e3b : (opL ((m : Int) + 1) == x) = true := by simp [e3]
            have hs2 : Hid (scan x (m + 1) = ((m : Int) + 1, true)) := by show _ = _; rw [hs.out, if_pos ⟨e2, e3⟩]
            clear hs e1 e3
            go_wp2_with (go_at_call 25; refine (rop_any ((m : Int) + 1) _ (by omega) (by omega)).mono ?_; rintro e w1 ⟨rfl, hw1⟩; obtain rfl := hw1.symm)
            go_roundw
            case rel => exact ⟨m + 1, by omega, by go_num, by rw [hs2.out]⟩
            case measure => simp [intOf]; omega
          · have e3b : (opL ((m : Int) + 1) == x) = false := by simp [e3]
            have hs2 : Hid (scan x (m + 1) = ((m : Int) + 1, (scan x m).2)) := by show _ = _; rw [hs.out, if_neg (by omega), if_pos e1]
            clear hs e1 e3
            go_wp2_with (go_at_call 25; refine (rop_any ((m : Int) + 1) _ (by omega) (by omega)).mono ?_; rintro e w1 ⟨rfl, hw1⟩; obtain rfl := hw1.symm)
            go_roundw
            case rel => exact ⟨m + 1, by omega, by go_num, by rw [hs2.out]⟩
            case measure => simp [intOf]; omega
        · have hs2 : Hid (scan x (m + 1) = ((m : Int) + 1, (scan x m).2)) := by show _ = _; rw [hs.out, if_neg (by omega), if_pos e1]
          clear hs e1
          go_wp2_with (go_at_call 25; refine (rop_any ((m : Int) + 1) _ (by omega) (by omega)).mono ?_; rintro e w1 ⟨rfl, hw1⟩; obtain rfl := hw1.symm)
          go_roundw
          case rel => exact ⟨m + 1, by omega, by go_num, by rw [hs2.out]⟩
          case measure => simp [intOf]; omega
      · have e1b : (opF ((m : Int) + 1) == x) = false := by simp [e1]
        by_cases e2 : 0 < opL ((m : Int) + 1)
        · by_cases e3 : opL ((m : Int) + 1) = x
          · have e3b : (opL ((m : Int) + 1) == x) = true := by simp [e3]
            have hs2 : Hid (scan x (m + 1) = ((m : Int) + 1, true)) := by show _ = _; rw [hs.out, if_pos ⟨e2, e3⟩]
            clear hs e1 e3
            go_wp2_with (go_at_call 25; refine (rop_any ((m : Int) + 1) _ (by omega) (by omega)).mono ?_; rintro e w1 ⟨rfl, hw1⟩; obtain rfl := hw1.symm)
            go_roundw
            case rel => exact ⟨m + 1, by omega, by go_num, by rw [hs2.out]⟩
            case measure => simp [intOf]; omega
          · have e3b : (opL ((m : Int) + 1) == x) = false := by simp [e3]
            have hs2 : Hid (scan x (m + 1) = scan x m) := by show _ = _; rw [hs.out, if_neg (by omega), if_neg e1]
            clear hs e1 e3
            go_wp2_with (go_at_call 25; refine (rop_any ((m : Int) + 1) _ (by omega) (by omega)).mono ?_; rintro e w1 ⟨rfl, hw1⟩; obtain rfl := hw1.symm)
            go_roundw
            case rel => exact ⟨m + 1, by omega, by go_num, by rw [hs2.out]⟩
            case measure => simp [intOf]; omega
        · have hs2 : Hid (scan x (m + 1) = scan x m) := by show _ = _; rw [hs.out, if_neg (by omega), if_neg e1]
          clear hs e1
          go_wp2_with (go_at_call 25; refine (rop_any ((m : Int) + 1) _ (by omega) (by omega)).mono ?_; rintro e w1 ⟨rfl, hw1⟩; obtain rfl := hw1.symm)
          go_roundw
          case rel => exact ⟨m + 1, by omega, by go_num, by rw [hs2.out]⟩
          case measure => simp [intOf]; omega
    · obtain rfl : m = 24 := by omega
      rw [HS.out]
      clear HS
      have hs : siz 22 true = 3 := rfl
      rw [hs] at HX HR
      by_cases hsh : (len : Int) - t < 3
      · rw [if_pos hsh] at HX
        clear HR
        go_wp2_with (go_at_call 27; refine (rsizeX 22 0 0 0 0 true _ (by decide) (by decide) (by decide)).mono ?_; rw [hs]; rintro e w1 ⟨rfl, hw1⟩; obtain rfl := hw1.symm)
        exact bodyPost_ret (v := .tuple #[.agg #[.int .i64 0, .int .i64 0, .int .i64 0, .int .i64 0, .int .i64 0, .bool false], .int .i64 0, .int .i64 5]) (by simp [results, Tryd.results17, go_sem]) rfl ⟨by rw [HX.out]; rfl, by go_grown⟩
      rw [if_neg hsh] at HX
      obtain ⟨R1, R2, R3⟩ := HR.out (by decide) (by omega)
      have hn : rs.length = 2 := by omega
      obtain ⟨p, q, rfl⟩ := two hn
      have cp : w.cell? ⟨bb, oo + t + 1, none⟩ = some (.int .u8 p) := by have := R2 0 p rfl; rwa [show oo + (t + 1) + 0 = oo + t + 1 by omega] at this
      obtain ⟨p0, p1⟩ := R3 p (by simp)
      have cq : w.cell? ⟨bb, oo + t + 2, none⟩ = some (.int .u8 q) := by have := R2 1 q rfl; rwa [show oo + (t + 1) + 1 = oo + t + 2 by omega] at this
      obtain ⟨q0, q1⟩ := R3 q (by simp)
      have hD : opsD 22 true [p, q] = ⟨22, 0, 0, 0, (sgn (p + q * 256) 2), true⟩ := rfl
      rw [hD] at HX
      clear R1 R2 R3 HR hD hn
      have hch : (⟨22, 0, 0, 0, (sgn (p + q * 256) 2), true⟩ : Ins).chk = Isa.chk 22 0 0 0 (sgn (p + q * 256) 2) true := rfl
      rw [hch] at HX
      clear hch
      go_wp2_with (first | (go_at_call 27; refine (rsizeX 22 0 0 0 0 true _ (by decide) (by decide) (by decide)).mono ?_; rw [hs]; rintro e w1 ⟨rfl, hw1⟩; obtain rfl := hw1.symm) | (go_at_call 34; refine (rsigned2 bb (oo + t + 1) _ p q _ (by first | (simp [go_sem, *]; done) | (go_light; simp [go_sem, *]; done)) (by first | (simp [go_sem, *]; done) | (go_light; simp [go_sem, *]; done)) p0 p1 q0 q1).mono ?_; rintro e w1 ⟨rfl, hw1⟩; obtain rfl := hw1.symm))
      refine (fault_any 22 0 0 0 (sgn (p + q * 256) 2) true _).mono ?_
      rintro e w2 ⟨rfl, hb2'⟩
      obtain ⟨hc2, hf2⟩ := bcell hb2'
      have hz2 : w.heap.size < w2.heap.size := (by have := hb2'.size; simp at this; omega)
      have hz3 : w.heap.size + 1 < w2.heap.size := (by have := hb2'.size; simp at this; omega)
      have B2 : Below w.heap.size w w2 := (show Below w.heap.size w _ from by go_grown).trans (hb2'.mono (by simp; omega))
      have cr2 : ∀ j, w2.cell? ⟨w.heap.size, j, none⟩ = (#[.int .i64 0, .int .i64 0, .int .i64 0, .int .i64 0, .int .i64 0, .bool false] : Array Value)[j]? := fun j => (hc2 w.heap.size j (by simp; omega)).trans (by simp [go_sem])
      clear hb2'
      generalize Isa.chk 22 0 0 0 (sgn (p + q * 256) 2) true = ch at *
      by_cases hf : ch = 0
      · subst hf
        rw [if_pos rfl] at HX
        go_wp2
        exact bodyPost_ret (v := .tuple #[.agg #[.int .i64 22, .int .i64 0, .int .i64 0, .int .i64 0, .int .i64 (sgn (p + q * 256) 2), .bool true], .int .i64 3, .int .i64 0]) (by simp [results, Tryd.results17, go_sem, cr2]) rfl ⟨by rw [HX.out], by go_grown⟩
      · have hfb : (ch == 0) = false := by simp [hf]
        rw [if_neg hf] at HX
        go_wp2
        exact bodyPost_ret (v := .tuple #[.agg #[.int .i64 0, .int .i64 0, .int .i64 0, .int .i64 0, .int .i64 0, .bool false], .int .i64 0, .int .i64 4]) (by simp [results, Tryd.results17, go_sem, cr2]) rfl ⟨by rw [HX.out]; rfl, by go_grown⟩
end Go.Proofs.YtkofnmeononlaaaDoor
