/-
  boltholekeep's owner of a table.
-/
import Derived.Test.YtechpdfcgimkkaaDoorPureAsC
import Derived.Test.YtechpdfcgimkkaaDoorPgMoreC
import Derived.BigQuiet
import Derived.Deep.QuietTactic
import Derived.Deep.DeepCutAuto
namespace Go.Proofs.YtechpdfcgimkkaaDoor
open Go.RowKit Go.Joins Isa
theorem own_cells {w : World} {B sz n g cap : Nat} {E : TypeId} {xs : List Value} (h : w.ownsRow B E sz (.slice (some ⟨g, 0, none⟩) n cap) n xs) (j : Nat) (u : Value) (hj : xs[j]? = some u) : w.cell? ⟨g, j, none⟩ = some u := by
  rcases h.2 with ⟨hv, _⟩ | ⟨g', cap', cur, hv, _, hg, _, _, _, ht⟩
  · cases hv
  · cases hv
    simp only [World.cell?, hg]
    rw [← ht] at hj
    have hlt : j < (cur.toList.take (n * sz)).length := (List.getElem?_eq_some_iff.1 hj).1
    rw [List.length_take] at hlt
    rw [List.getElem?_take, if_pos (by omega)] at hj
    simpa using hj
theorem own_some {w : World} {B sz n : Nat} {E : TypeId} {v : Value} {xs : List Value} (h : w.ownsRow B E sz v n xs) (hn : n ≠ 0) : ∃ g cap, v = .slice (some ⟨g, 0, none⟩) n cap ∧ n ≤ cap ∧ cap ≤ maxLen := by
  obtain ⟨g, cap, cur, hv, _, _, h1, h2, _⟩ := h.2.resolve_left (fun q => hn q.2)
  exact ⟨g, cap, hv, h1, h2⟩
theorem flat_pt {α : Type} (f : α → Value) (l : List α) (j : Nat) : (flat (fun x => [f x]) l)[j]? = (l[j]?).map f := by
  induction l generalizing j with
  | nil => simp [flat]
  | cons a r ih =>
    cases j with
    | zero => simp [flat]
    | succ j => simpa [flat] using ih j
set_option maxRecDepth 100000 in
set_option maxHeartbeats 4000000 in
theorem owner_any (w : World) (B gp : Nat) (vB vF : Value) (vs : List Value) (bs : List (List Sp)) (fs : List Int) (t : Int) (hP : PlanAt w B gp vB vF vs bs fs) (hF : Fit bs fs) (hbl : ∀ b ∈ bs, b.length ≤ 1000) :
    Calls Tryd.prog 74 #[.pointer (some ⟨gp, 0, none⟩), .int .i64 t] w fun e w' => e = .returned (.int .i64 (ownerOf bs fs t)) ∧ ∃ n, w' = w.drewN n := by
  obtain ⟨p0, p1, -, -⟩ := hP.cells
  have hBl : Hid (∀ b ∈ bs, b.length ≤ 1000) := hbl
  have HP : Hid _ := hP
  have HF : Hid _ := hF
  have few := hF.few
  by_cases h0 : fs = []
  · obtain ⟨aF, lF, cF, hvF⟩ := row_form hP.oF
    have hlF : lF = 0 := by
      subst h0
      rcases hP.oF.2 with ⟨e, _⟩ | ⟨_, _, _, e, _⟩
      · rw [hvF] at e; cases e; rfl
      · rw [hvF] at e; cases e; rfl
    subst hvF hlF
    have hr : ownerOf bs fs t = -1 := by subst h0; rfl
    rw [hr]
    clear hr hP hF h0
    go_enter Tryd.func74, Tryd.ntmps74
    go_wp2_with fail
    go_loopw [5, 15] (fun ov iv wr => ov = .int .i64 (-1) ∧ iv = .int .i64 0 ∧ wr = w) (fun _ _ _ => 0)
    case atStart => exact ⟨rfl, rfl, rfl⟩
    case round =>
      obtain ⟨rfl, rfl, rfl⟩ := hrel
      go_wp2_with fail
      go_ret
      exact ⟨rfl, 0, rfl⟩
  have hl0 : fs.length ≠ 0 := fun h => h0 (List.length_eq_zero_iff.1 h)
  obtain ⟨gF, cF, rfl, hc1, hc2⟩ := own_some hP.oF hl0
  have hb0 : bs.length ≠ 0 := by
    obtain ⟨n, m, _, _, h3, h4⟩ := hF.seg 0 (by omega)
    omega
  obtain ⟨gB, cB, rfl, hc3, hc4⟩ := own_some hP.oB hb0
  have HO : Hid (∃ o, ownerOf bs fs t = o) := ⟨_, rfl⟩
  obtain ⟨O, hO⟩ := HO.out
  have HO2 : Hid (ownFrom bs fs t (fs.length - 0) 0 (-1) = O) := hO
  rw [hO]
  clear hO HO hP hF hbl h0
  have small := HF.out.small
  unfold maxLen at hc2 hc4
  go_enter Tryd.func74, Tryd.ntmps74
  go_wp2_with fail
  go_loopw [5, 15] (fun ov iv wr => ∃ (f n : Nat) (o : Int), ov = .int .i64 o ∧ iv = .int .i64 (f : Int) ∧ f ≤ fs.length ∧ (-1 ≤ o ∧ (o < f ∨ o < 0)) ∧ Hid (ownFrom bs fs t (fs.length - f) f o = O) ∧ wr = w.drewN n) (fun _ iv _ => (fs.length - intOf iv).toNat)
  case atStart => exact ⟨0, 0, -1, rfl, rfl, by omega, by omega, HO2.out, rfl⟩
  case round =>
    obtain ⟨f, n, o, rfl, rfl, f1, ⟨o1, o2⟩, hE, rfl⟩ := hrel
    by_cases hf : f < fs.length
    · obtain ⟨lo, hi, e1, e2, e3, e4⟩ := HF.out.seg f hf
      have hff : (f : Int) < (fs.length : Int) := by omega
      have x0 : w.cell? ⟨gF, f, none⟩ = some (.int .i64 (lo : Int)) := own_cells HP.out.oF f _ (by rw [show (icell : Int → List Value) = fun x => [Value.int .i64 x] from rfl, flat_pt, e1]; rfl)
      have ES : Hid (segOf bs fs f = cut bs lo hi) := by show _ = _; unfold segOf; rw [e1, e2]; simp
      have HS : Hid _ := own_step (bs := bs) (t := t) (o := o) hf
      have hq : f + 1 < fs.length ∨ fs.length = f + 1 := by omega
      have hx1 : f + 1 < fs.length → w.cell? ⟨gF, f + 1, none⟩ = some (.int .i64 (hi : Int)) ∧ ((f + 1 : Nat) : Int) < (fs.length : Int) := fun hn => ⟨own_cells HP.out.oF (f + 1) _ (by rw [show (icell : Int → List Value) = fun x => [Value.int .i64 x] from rfl, flat_pt]; unfold lastOf at e2; rw [List.getElem?_eq_getElem hn] at e2 ⊢; simp at e2; rw [e2]; rfl), by omega⟩
      have hx2 : fs.length = f + 1 → ¬ ((f + 1 : Nat) : Int) < (fs.length : Int) ∧ (bs.length : Int) = (hi : Int) := fun hn => ⟨by omega, by rw [← e2]; unfold lastOf; rw [List.getElem?_eq_none (by omega)]; rfl⟩
      have HX1 : Hid _ := hx1
      have HX2 : Hid _ := hx2
      clear hx1 hx2
      have b1 : (0 : Int) ≤ (lo : Int) := by omega
      have b2 : (lo : Int) ≤ (hi : Int) := by omega
      have b3 : (hi : Int) ≤ (cB : Int) := by omega
      have b4 : ¬ cB = lo := by omega
      have b5 : ¬ (hi : Int) < (lo : Int) := by omega
      have b6 : ¬ (cB : Int) < (hi : Int) := by omega
      have b7 : ¬ (lo : Int) < 0 := by omega
      go_upto_region 6 with fail
      cases hq
      case' inl hn =>
        obtain ⟨x1, hnn⟩ := HX1.out hn
        go_upto_region 8 with fail
        clear x1 hnn hn HX1 HX2
      case' inr hn =>
        obtain ⟨hnn, hx⟩ := HX2.out hn
        go_upto_region 8 with fail
        rw [hx]
        clear hnn hn HX1 HX2 hx
      all_goals
        go_quiet (fail)
        go_wp2_with fail
        go_loopw [5, 53] (fun ov jv wq => ∃ (j n2 : Nat) (o : Int), ov = .int .i64 o ∧ jv = .int .i64 (j : Int) ∧ j ≤ hi - lo ∧ (-1 ≤ o ∧ (o < f + 1 ∨ o < 0)) ∧ Hid (ownNext bs fs t (fs.length - (f + 1)) (f + 1) (ownRun t f ((cut bs lo hi).drop j) o) = O) ∧ wq = w.drewN n2) (fun _ jv _ => (hi - lo - intOf jv).toNat)
        case atStart => exact ⟨0, _, o, rfl, rfl, by omega, by omega, by show _ = _; rw [List.drop_zero, ← ES.out, ← HS.out]; exact hE.out, rfl⟩
        case round =>
          obtain ⟨j, n2, o', rfl, rfl, j1, ⟨q1, q2⟩, hE2, rfl⟩ := hrel
          by_cases hj : j < hi - lo
          · obtain ⟨b, hb⟩ : ∃ b, bs[lo + j]? = some b := ⟨_, List.getElem?_eq_getElem (by omega)⟩
            obtain ⟨u, hu⟩ : ∃ u, vs[lo + j]? = some u := ⟨_, List.getElem?_eq_getElem (by have := HP.out.len; omega)⟩
            obtain ⟨hr, hne⟩ := HP.out.each _ _ _ hu hb
            have hb1 := hBl.out b (List.mem_of_getElem? hb)
            obtain ⟨k, hk⟩ : ∃ k, b.length = k + 1 := ⟨b.length - 1, by have := List.length_pos_iff.2 hne; omega⟩
            obtain ⟨x, hx⟩ : ∃ x, b[k]? = some x := ⟨_, List.getElem?_eq_getElem (by omega)⟩
            rw [hk] at hr
            obtain ⟨g, cg, rfl, hg1, hg2⟩ := own_some hr (by omega)
            have x5 : w.cell? ⟨gB, lo + j, none⟩ = some (.slice (some ⟨g, 0, none⟩) (k + 1) cg) := own_cells HP.out.oB (lo + j) _ (by rw [show (vcell : Value → List Value) = fun x => [x] from rfl, flat_pt, hu]; rfl)
            have z0 : w.cell? ⟨g, k * 9, none⟩ = some (.int .i64 x.i.k) := own_cells hr (k * 9) _ (by have := flat_at spcell_len b k x hx 0 (by decide); rw [Nat.add_zero] at this; exact this)
            have z4 : w.cell? ⟨g, k * 9 + 4, none⟩ = some (.int .i64 x.i.n) := own_cells hr (k * 9 + 4) _ (flat_at spcell_len b k x hx 4 (by decide))
            have hT : Hid (lastT t b = (x.i.k == 24 && x.i.n == t)) := by
              show _ = _
              unfold lastT
              rw [List.getLast?_eq_getElem?, hk, show k + 1 - 1 = k by omega, hx]
            have hd : Hid ((cut bs lo hi).drop j = b :: (cut bs lo hi).drop (j + 1)) := by
              show _ = _
              have hcb : (cut bs lo hi)[j]? = some b := by unfold cut; rw [List.getElem?_take, if_pos hj, List.getElem?_drop, hb]
              obtain ⟨h1, h2⟩ := List.getElem?_eq_some_iff.1 hcb
              rw [List.drop_eq_getElem_cons h1, h2]
            rw [hd.out] at hE2
            have hjj : (j : Int) < (hi : Int) - (lo : Int) := by omega
            have hkk : (0 : Int) ≤ (k : Int) := by omega
            have hkb : (k : Int) < 1000 := by omega
            clear hu hb hr hx hk hb1 hne hd
            by_cases c1 : x.i.k = 24
            · by_cases c2 : x.i.n = t
              · have hl : lastT t b = true := by rw [hT.out, c1, c2]; simp
                by_cases c3 : 0 ≤ o' ∧ o' ≠ f
                · obtain ⟨c3, c4⟩ := c3
                  have hO : Hid (-1 = O) := by have := hE2.out; rw [ownRun, if_pos hl, if_pos ⟨c3, c4⟩] at this; exact this
                  have q4 : (o' != (f : Int)) = true := by simpa using c4
                  have q24 : (x.i.k != 24) = false := by simp [c1]
                  have qn : (x.i.n != t) = false := by simp [c2]
                  clear hE2 hT hl c1 c2 c4
                  go_wp2_with fail
                  go_ret
                  exact ⟨by rw [← hO.out]; rfl, n2, rfl⟩
                · have hE3 : Hid (ownNext bs fs t (fs.length - (f + 1)) (f + 1) (ownRun t f ((cut bs lo hi).drop (j + 1)) f) = O) := by have := hE2.out; rw [ownRun, if_pos hl, if_neg c3] at this; exact this
                  have q24 : (x.i.k != 24) = false := by simp [c1]
                  have qn : (x.i.n != t) = false := by simp [c2]
                  clear hE2 hT hl c1 c2
                  by_cases c5 : 0 ≤ o'
                  · have c6 : (o' != (f : Int)) = false := by
                      rw [bne_eq_false_iff_eq]
                      exact Classical.byContradiction fun h => c3 ⟨c5, h⟩
                    clear c3
                    go_wp2_with fail
                    go_roundw
                    case rel => exact ⟨j + 1, n2, (f : Int), rfl, by go_num, by omega, ⟨by omega, by omega⟩, hE3.out, rfl⟩
                    case measure => first | (simp [intOf]; done) | (simp [intOf]; omega)
                  · clear c3
                    go_wp2_with fail
                    go_roundw
                    case rel => exact ⟨j + 1, n2, (f : Int), rfl, by go_num, by omega, ⟨by omega, by omega⟩, hE3.out, rfl⟩
                    case measure => first | (simp [intOf]; done) | (simp [intOf]; omega)
              · have hl : ¬ lastT t b = true := by rw [hT.out]; simp [c2]
                have hE3 : Hid (ownNext bs fs t (fs.length - (f + 1)) (f + 1) (ownRun t f ((cut bs lo hi).drop (j + 1)) o') = O) := by have := hE2.out; rw [ownRun, if_neg hl] at this; exact this
                have q24 : (x.i.k != 24) = false := by simp [c1]
                have qn : (x.i.n != t) = true := by simpa using c2
                clear hE2 hT hl c1 c2
                go_wp2_with fail
                go_roundw
                case rel => exact ⟨j + 1, n2, o', rfl, by go_num, by omega, ⟨q1, q2⟩, hE3.out, rfl⟩
                case measure => first | (simp [intOf]; done) | (simp [intOf]; omega)
            · have hl : ¬ lastT t b = true := by rw [hT.out]; simp [c1]
              have hE3 : Hid (ownNext bs fs t (fs.length - (f + 1)) (f + 1) (ownRun t f ((cut bs lo hi).drop (j + 1)) o') = O) := by have := hE2.out; rw [ownRun, if_neg hl] at this; exact this
              have q24 : (x.i.k != 24) = true := by simp [c1]
              clear hE2 hT hl c1
              go_wp2_with fail
              go_roundw
              case rel => exact ⟨j + 1, n2, o', rfl, by go_num, by omega, ⟨q1, q2⟩, hE3.out, rfl⟩
              case measure => first | (simp [intOf]; done) | (simp [intOf]; omega)
          · have hE3 : Hid (ownFrom bs fs t (fs.length - (f + 1)) (f + 1) o' = O) := by
              have := hE2.out
              rw [List.drop_eq_nil_of_le (by rw [cut_len _ _ _ (by omega)]; omega), ownRun] at this
              exact this
            have hjj : ¬ (j : Int) < (hi : Int) - (lo : Int) := by omega
            go_wp2_with fail
            go_roundw
            case rel => exact ⟨f + 1, n2, o', rfl, by go_num, by omega, ⟨q1, by omega⟩, hE3.out, rfl⟩
            case measure => first | (simp [intOf]; done) | (simp [intOf]; omega)
    · obtain rfl : f = fs.length := by omega
      have hO : Hid (o = O) := by have := hE.out; rw [Nat.sub_self] at this; exact this
      go_wp2_with fail
      go_ret
      exact ⟨by rw [hO.out]; rfl, n, rfl⟩
end Go.Proofs.YtechpdfcgimkkaaDoor
