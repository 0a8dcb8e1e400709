/-
  boltholeref.EdgesOf: a text's edges, the chapter's own way.
-/
import Derived.Test.YtjcackcimofcmaaDoorPureTal2C
import Derived.Test.YtjcackcimofcmaaDoorWalkCnC
import Derived.Test.YtjcackcimofcmaaDoorWalkTrC
import Derived.Deep.RegionWith
import Derived.Deep.RegionHeld3
import Derived.Deep.DeepCutAuto
import Derived.Deep.QuietTactic
import Derived.BigQuiet
namespace Go.Proofs.YtjcackcimofcmaaDoor
open Go.RowKit Go.Joins
def scell (p : ByteArray) : List Value := [.string p]
theorem nStr : (Tryd.prog.info? 9).map (fun i => (i.zero, i.size, i.bytes)) = some (some (.string ByteArray.empty), 1, 16) := by kernel_rfl
theorem scell_one (p : ByteArray) : ∀ u ∈ scell p, u.oneCell' = true := by intro u hu; simp [scell] at hu; subst hu; rfl
theorem app_str {wr : World} {B : Nat} {v : Value} {l : List ByteArray} (own : wr.ownsRow B 9 1 v l.length (flat scell l)) (hB : B ≤ wr.heap.size) (hl : l.length ≤ 100000) (e : ByteArray) (w1 : World) (h1 : Below wr.heap.size wr w1) (g : Nat)
    (hg : ∀ j u, (scell e)[j]? = some u → w1.cell? ⟨g, j, none⟩ = some u) :
    ∃ a c W, (Builtin.append_ #[40, 40] 40 #[v, .slice (some ⟨g, 0, none⟩) 1 1]).run Tryd.prog w1 = .ok (.slice a (l.length + 1) c) W ∧
      W.ownsRow B 9 1 (.slice a (l.length + 1) c) (l ++ [e]).length (flat scell (l ++ [e])) ∧ Below B wr W := by
  obtain ⟨v', W, hr, ho, gr⟩ := orow_apps 9 40 1 16 _ Tryd.underlying40 nStr rfl (by decide) (row_up own h1) (Nat.le_trans hB h1.size) g 0 1 1 (scell e) rfl (fun j u hj => by rw [Nat.zero_add]; exact hg j u hj) (scell_one e) (by omega) (by unfold maxLen; omega)
  have e1 : flat scell l ++ scell e = flat scell (l ++ [e]) := by simp [flat]
  have e2 : l.length + 1 = (l ++ [e]).length := by simp
  obtain ⟨a, c, rfl⟩ := orow_form' ho
  rw [e1] at ho
  conv at ho => arg 6; rw [e2]
  exact ⟨a, c, W, hr, ho, (h1.mono hB).trans (obelow_grown (row_up own h1) gr (Nat.le_refl _) (Nat.le_trans hB h1.size))⟩
set_option maxRecDepth 100000 in
set_option maxHeartbeats 4000000 in
theorem edgesOf_any (s : ByteArray) (w : World) (hs : s.size ≤ maxLen) :
    Calls Tryd.prog 6 #[.string s] w fun e w' => ∃ v, e = .returned (.tuple #[v, .int .i64 (tallyN s.data.toList).1]) ∧
      w'.ownsRow w.heap.size 33 3 v (tallyN s.data.toList).2.length (flat Ed.cells (tallyN s.data.toList).2) ∧ Below w.heap.size w w' := by
  unfold maxLen at hs
  have hl := str_size s
  by_cases h1 : (4000 : Int) < s.size
  · have hr : tallyN s.data.toList = (1, []) := by unfold tallyN; rw [if_pos (by omega)]
    rw [hr]
    clear hr hl
    go_enter Tryd.func6, Tryd.ntmps6
    go_wp2
    go_ret2
    exact ⟨_, rfl, World.ownsRow_nil _ _ _ _, Below.refl _ _⟩
  have hr : tallyN s.data.toList = edgesN (s.data.toList.length + 1) s.data.toList [] := by unfold tallyN; rw [if_neg (by omega)]
  have HR : Hid _ := hr
  have HSZ : Hid (s.data.toList.length = s.size) := hl.symm
  have HAT : Hid (∀ (j : Nat) (hj : j < s.size) (hj2 : j < s.data.toList.length), s.data.toList[j] = s[j]'hj) := fun j hj hj2 => by
    have := Lib.data_getElem? s j hj
    rw [List.getElem?_eq_getElem hj2] at this
    exact Option.some.inj this
  clear hr hl
  go_enter Tryd.func6, Tryd.ntmps6
  go_wp2_with fail
  go_loopw [4, 5] (fun lv av wr => ∃ (A : Nat) (l : List Ed), av = .int .i64 (A : Int) ∧ A ≤ s.size ∧ l.length ≤ A ∧ (∃ a c, lv = .slice a l.length c) ∧ Hid (wr.ownsRow w.heap.size 33 3 lv l.length (flat Ed.cells l)) ∧
    Hid (tallyN s.data.toList = edgesN ((s.data.toList.drop A).length + 1) (s.data.toList.drop A) l) ∧ Hid (Below w.heap.size w wr)) (fun _ av _ => (s.size - intOf av).toNat)
  case atStart => exact ⟨0, [], rfl, by omega, by simp, ⟨none, 0, rfl⟩, World.ownsRow_nil _ _ _ _, HR.out, Below.refl _ _⟩
  case round =>
    obtain ⟨A, l, rfl, hA, hlA, ⟨aL, cL, rfl⟩, ho, hE0, hb⟩ := hrel
    obtain ⟨wo, hwo⟩ : ∃ wo, wo = wr := ⟨_, rfl⟩
    subst hwo
    by_cases hAs : A < s.size
    · have hAi : (A : Int) < (s.size : Int) := by omega
      go_wp2_with fail
      go_loopw [6] (fun ev wn => ∃ E : Nat, A ≤ E ∧ E ≤ s.size ∧ ev = .int .i64 (E : Int) ∧ Hid (Fnd s.data.toList A E) ∧ wn = wo) (fun ev _ => (s.size - intOf ev).toNat)
      case atStart => exact ⟨A, Nat.le_refl _, by omega, rfl, fnd_refl _ _, rfl⟩
      case round =>
        obtain ⟨E, e1, e2, rfl, hF, hwn⟩ := hrel
        rw [hwn]
        clear hwn
        have hne : Hid (s.data.toList.drop A ≠ []) := fun h => by
          have := congrArg List.length h; rw [List.length_drop] at this; have := HSZ.out; simp at *; omega
        by_cases hEs : E < s.size
        · have hEi : (E : Int) < (s.size : Int) := by omega
          obtain ⟨c, hc⟩ : ∃ c : Nat, (s[E]'hEs).toNat = c := ⟨_, rfl⟩
          have hEl : Hid (E < s.data.toList.length) := by show _ < _; have := HSZ.out; omega
          by_cases h10 : c = 10
          · have hi : Hid (Lib.index (s.data.toList.drop A) [10] = ((E - A : Nat) : Int)) := fnd_hit hF.out hEl.out (by rw [HAT.out E hEs hEl.out]; exact UInt8.toNat_inj.1 (by rw [hc, h10]; rfl))
            have hcn : ((c : Int) != 10) = false := by rw [h10]; rfl
            have hes : ((E : Int) == (s.size : Int)) = false := by rw [beq_eq_false_iff_ne]; omega
            have HST : Hid _ := edges_step (s.data.toList.drop A) l hne.out (E - A) hi.out
            clear hF
            go_wp2_with fail
            clear hc hcn
            go_loopw [7, 8, 9] (fun pv fv iv wp => ∃ (F i : Nat) (P : List ByteArray), fv = .int .i64 (F : Int) ∧ iv = .int .i64 (i : Int) ∧ F ≤ i ∧ i ≤ E + 1 ∧ P.length ≤ i ∧ (∃ a c, pv = .slice a P.length c) ∧
              Hid (wp.ownsRow wo.heap.size 9 1 pv P.length (flat scell P)) ∧ Hid (i ≤ E → Wds s.data.toList A E F i (P.map (·.data.toList))) ∧ Hid (i = E + 1 → P.map (·.data.toList) = spR ((s.data.toList.drop A).take (E - A)) []) ∧ Hid (Below wo.heap.size wo wp)) (fun _ _ iv _ => (E + 1 - intOf iv).toNat)
            case atStart => exact ⟨A, A, [], rfl, rfl, Nat.le_refl _, by omega, by simp, ⟨none, 0, rfl⟩, World.ownsRow_nil _ _ _ _, fun _ => wds_start _ _ _, fun h => by omega, Below.refl _ _⟩
            case round =>
              obtain ⟨F, i, P, rfl, rfl, f1, f2, f3, ⟨aP, cP, rfl⟩, hoP, hWd, hWe, hbp⟩ := hrel
              by_cases hiE : i ≤ E
              · have hiE2 : (i : Int) ≤ (E : Int) := by omega
                have hFi : (F : Int) ≤ (i : Int) := by omega
                by_cases hie : i = E
                · subst hie
                  have hq : ((i : Int) == (i : Int)) = true := by simp

                  obtain ⟨a7, c7, W7, hr7, ho7, hb7⟩ := app_str hoP.out hbp.out.size (by omega) (s.extract F i) _ ((Below.refl wr.heap.size wr).alloc (Nat.le_refl _) (.cells #[.string (s.extract F i)] 9)) wr.heap.size (fun j u hj => by
                    rw [World.cell?_alloc_new]
                    simpa [scell] using hj)
                  have HR7 : Hid _ := hr7
                  have HO7 : Hid (W7.ownsRow wo.heap.size 9 1 (.slice a7 (P.length + 1) c7) (P ++ [s.extract F i]).length (flat scell (P ++ [s.extract F i]))) := ho7
                  have HB7 : Hid (Below wo.heap.size wo W7) := hbp.out.trans hb7
                  clear hr7 ho7 hb7
                  have HX : Hid ((s.extract F i).data.toList = (s.data.toList.drop F).take (i - F)) := Lib.extract_data _ _ _
                  go_wp2_with (first | (at_builtin; refine wpList_append_pair _ rfl (.tmp 51) (.tmp 56) 40 40 rfl _ _ rfl rfl HR7.out ?_))
                  go_roundw
                  case rel => exact ⟨i + 1, i + 1, P ++ [s.extract F i], by go_num, by go_num, by omega, by omega, by simp; omega, ⟨a7, c7, by simp⟩, HO7.out, fun h => by omega, fun _ => by rw [List.map_append, ← wds_last (hWd.out (Nat.le_refl _))]; simp, HB7.out⟩
                  case measure => first | (simp [intOf]; done) | (simp [intOf]; omega)

                · have hq : ((i : Int) == (E : Int)) = false := by rw [beq_eq_false_iff_ne]; omega
                  have hiEs : i < s.size := by omega
                  obtain ⟨d, hd⟩ : ∃ d : Nat, (s[i]'hiEs).toNat = d := ⟨_, rfl⟩
                  have hil : Hid (i < s.data.toList.length) := by show _ < _; have := HSZ.out; omega
                  by_cases h32 : d = 32
                  · have hdn : ((d : Int) == 32) = true := by rw [h32]; rfl
                    have HW2 : Hid _ := wds_space (hWd.out hiE) (by omega) (by have := HSZ.out; omega) (by rw [HAT.out i hiEs hil.out]; exact UInt8.toNat_inj.1 (by rw [hd, h32]; rfl))

                    obtain ⟨a7, c7, W7, hr7, ho7, hb7⟩ := app_str hoP.out hbp.out.size (by omega) (s.extract F i) _ ((Below.refl wr.heap.size wr).alloc (Nat.le_refl _) (.cells #[.string (s.extract F i)] 9)) wr.heap.size (fun j u hj => by
                      rw [World.cell?_alloc_new]
                      simpa [scell] using hj)
                    have HR7 : Hid _ := hr7
                    have HO7 : Hid (W7.ownsRow wo.heap.size 9 1 (.slice a7 (P.length + 1) c7) (P ++ [s.extract F i]).length (flat scell (P ++ [s.extract F i]))) := ho7
                    have HB7 : Hid (Below wo.heap.size wo W7) := hbp.out.trans hb7
                    clear hr7 ho7 hb7
                    have HX : Hid ((s.extract F i).data.toList = (s.data.toList.drop F).take (i - F)) := Lib.extract_data _ _ _
                    go_wp2_with (first | (at_builtin; refine wpList_append_pair _ rfl (.tmp 51) (.tmp 56) 40 40 rfl _ _ rfl rfl HR7.out ?_))
                    go_roundw
                    case rel => exact ⟨i + 1, i + 1, P ++ [s.extract F i], by go_num, by go_num, by omega, by omega, by simp; omega, ⟨a7, c7, by simp⟩, HO7.out, fun h => by have e := HW2.out; rw [← HX.out] at e; rw [List.map_append]; exact e, fun h => by omega, HB7.out⟩
                    case measure => first | (simp [intOf]; done) | (simp [intOf]; omega)

                  · have hdn : ((d : Int) == 32) = false := by rw [beq_eq_false_iff_ne]; omega
                    have HW2 : Hid _ := wds_next (hWd.out hiE) (by omega) f1 (by have := HSZ.out; omega) (by rw [HAT.out i hiEs hil.out]; intro h; apply h32; rw [← hd, h]; rfl)
                    go_wp2_with fail
                    go_roundw
                    case rel => exact ⟨F, i + 1, P, rfl, by go_num, by omega, by omega, by omega, ⟨aP, cP, rfl⟩, hoP.out, fun _ => HW2.out, fun h => by omega, hbp.out⟩
                    case measure => first | (simp [intOf]; done) | (simp [intOf]; omega)
              · obtain rfl : i = E + 1 := by omega
                have hiE2 : ¬ (((E + 1 : Nat) : Int) ≤ (E : Int)) := by omega
                have HP : Hid _ := hWe.out rfl
                clear hWd hWe
                by_cases h3 : P.length = 3
                · obtain ⟨g, cP', hvP⟩ := orow_some hoP.out (by omega)
                  obtain ⟨p0, p1, p2, rfl⟩ : ∃ p0 p1 p2, P = [p0, p1, p2] := by
                    match P, h3 with
                    | [p0, p1, p2], _ => exact ⟨p0, p1, p2, rfl⟩
                  cases hvP
                  have x0 := orow_cells hoP.out 0 (.string p0) rfl
                  have x1 := orow_cells hoP.out 1 (.string p1) rfl
                  have x2 := orow_cells hoP.out 2 (.string p2) rfl
                  have hsz : ∀ p ∈ [p0, p1, p2], p.size ≤ maxLen := fun p hp => by
                    have := spR_len _ _ p.data.toList (by rw [← HP.out]; exact List.mem_map_of_mem hp)
                    rw [str_size p]
                    rw [List.length_take, List.length_drop] at this
                    have := HSZ.out
                    unfold maxLen
                    simp only [List.length_nil] at *
                    omega
                  have sz0 := hsz p0 (by simp)
                  have sz1 := hsz p1 (by simp)
                  have sz2 := hsz p2 (by simp)
                  have HE : Hid (edgeN ((s.data.toList.drop A).take (E - A)) = if 0 ≤ cntN p0.data.toList ∧ 0 ≤ cntN p1.data.toList ∧ 0 ≤ cntN p2.data.toList then some ⟨cntN p0.data.toList, cntN p1.data.toList, cntN p2.data.toList⟩ else none) := by
                    show _ = _; unfold edgeN; rw [← HP.out]; rfl
                  have HSTO : Hid _ := hE0.out.trans HST.out
                  have CN : ∀ p : ByteArray, p.size ≤ maxLen → ∀ W, Calls Tryd.prog 13 #[.string p] W fun e w' => e = .returned (.int .i64 (cntN p.data.toList)) ∧ w' = W := fun p hp W => countIn_any p W hp
                  clear hsz HP
                  have HG : Hid (g < wr.heap.size) := World.block_lt_of_cell? _ _ x0
                  have xa0 : ∀ o, (wr.alloc o).cell? ⟨g, 0, none⟩ = some (.string p0) := fun o => (World.cell?_alloc_past _ _ _ HG.out).trans x0
                  have xa1 : ∀ o, (wr.alloc o).cell? ⟨g, 1, none⟩ = some (.string p1) := fun o => (World.cell?_alloc_past _ _ _ HG.out).trans x1
                  have xa2 : ∀ o, (wr.alloc o).cell? ⟨g, 2, none⟩ = some (.string p2) := fun o => (World.cell?_alloc_past _ _ _ HG.out).trans x2
                  go_upto_region 21 with fail
                  go_cut [10] (fun p wc => ∃ gb, p = .pointer (some ⟨gb, 0, none⟩) ∧ Hid (wc.heap[gb]? = some (.cells #[.int .i64 (cntN p0.data.toList), .int .i64 (cntN p1.data.toList), .int .i64 (cntN p2.data.toList)] 33)) ∧ Hid (Below wr.heap.size wr wc))
                  case first =>
                    go_region_held3 (fun w' => w'.cell? ⟨g, 0, none⟩ = some (.string p0) ∧ w'.cell? ⟨g, 1, none⟩ = some (.string p1) ∧ w'.cell? ⟨g, 2, none⟩ = some (.string p2)) (first | (simp [go_sem, *]; done) | (exact ⟨xa0 _, xa1 _, xa2 _⟩)) (first
                      | (go_at_call 13; refine (CN _ (by first | exact sz0 | exact sz1 | exact sz2) _).mono ?_; rintro e w1 ⟨rfl, hw1⟩; obtain rfl := hw1.symm))
                    all_goals (try go_wp2)
                    all_goals go_meet
                    all_goals refine ⟨wr.heap.size, rfl, ?_, ((Below.refl _ _).alloc (Nat.le_refl _) _).drew⟩
                    all_goals (show (wr.heap.push _)[wr.heap.size]? = _; simp)
                  case rest =>
                    obtain ⟨gb, rfl, HX, hbc⟩ := hcut
                    clear CN xa0 xa1 xa2 x0 x1 x2 sz0 sz1 sz2 HG
                    generalize cntN p0.data.toList = C0 at *
                    generalize cntN p1.data.toList = C1 at *
                    generalize cntN p2.data.toList = C2 at *
                    have y0 : wc.cell? ⟨gb, 0, none⟩ = some (.int .i64 C0) := by simp only [World.cell?, HX.out]; rfl
                    have y1 : wc.cell? ⟨gb, 1, none⟩ = some (.int .i64 C1) := by simp only [World.cell?, HX.out]; rfl
                    have y2 : wc.cell? ⟨gb, 2, none⟩ = some (.int .i64 C2) := by simp only [World.cell?, HX.out]; rfl
                    by_cases n0 : C0 < 0
                    · have hE : Hid (tallyN s.data.toList = (4, [])) := by show _ = _; rw [HSTO.out, HE.out, if_neg (by omega)]
                      go_wp2_with fail
                      go_ret2
                      exact ⟨.slice none 0 0, by rw [hE.out]; rfl, by rw [hE.out]; exact World.ownsRow_nil _ _ _ _, hb.out.trans ((hbp.out.trans (hbc.out.mono hbp.out.size)).mono hb.out.size)⟩
                    by_cases n1 : C1 < 0
                    · have hE : Hid (tallyN s.data.toList = (4, [])) := by show _ = _; rw [HSTO.out, HE.out, if_neg (by omega)]
                      go_wp2_with fail
                      go_ret2
                      exact ⟨.slice none 0 0, by rw [hE.out]; rfl, by rw [hE.out]; exact World.ownsRow_nil _ _ _ _, hb.out.trans ((hbp.out.trans (hbc.out.mono hbp.out.size)).mono hb.out.size)⟩
                    by_cases n2 : C2 < 0
                    · have hE : Hid (tallyN s.data.toList = (4, [])) := by show _ = _; rw [HSTO.out, HE.out, if_neg (by omega)]
                      go_wp2_with fail
                      go_ret2
                      exact ⟨.slice none 0 0, by rw [hE.out]; rfl, by rw [hE.out]; exact World.ownsRow_nil _ _ _ _, hb.out.trans ((hbp.out.trans (hbc.out.mono hbp.out.size)).mono hb.out.size)⟩
                    have hE2 : Hid (tallyN s.data.toList = edgesN ((s.data.toList.drop (E + 1)).length + 1) (s.data.toList.drop (E + 1)) (l ++ [(⟨C0, C1, C2⟩ : Ed)])) := by
                      show _ = _
                      rw [HSTO.out, HE.out, if_pos (by omega), List.drop_drop, show A + (E - A + 1) = E + 1 by omega]
                    have hzc : Hid (wr.heap.size ≤ wc.heap.size) := hbc.out.size
                    have hzo : Hid (wo.heap.size ≤ wc.heap.size) := Nat.le_trans hbp.out.size hzc.out
                    have hbu : Below wo.heap.size wo (wc.alloc (.cells #[.int .i64 C0, .int .i64 C1, .int .i64 C2] 33)) := (hbp.out.trans (hbc.out.mono hbp.out.size)).alloc hzo.out _
                    obtain ⟨a7, c7, W7, hr7, ho7, hb7⟩ := app_ed ho.out hb.out.size (by omega) ⟨C0, C1, C2⟩ _ hbu wc.heap.size (fun j u hj => by
                      rw [World.cell?_alloc_new]
                      simpa [Ed.cells] using hj)
                    have HR7 : Hid _ := hr7
                    have HO7 : Hid (W7.ownsRow w.heap.size 33 3 (.slice a7 (l.length + 1) c7) (l ++ [(⟨C0, C1, C2⟩ : Ed)]).length (flat Ed.cells (l ++ [(⟨C0, C1, C2⟩ : Ed)]))) := ho7
                    have HB7 : Hid (Below w.heap.size w W7) := hb.out.trans hb7
                    clear hr7 ho7 hb7 hbu
                    go_wp2_with (first | (at_builtin; refine wpList_append_pair _ rfl (.tmp 89) (.tmp 91) 22 22 rfl _ _ rfl rfl HR7.out ?_))
                    go_roundw
                    case rel => exact ⟨E + 1, l ++ [(⟨C0, C1, C2⟩ : Ed)], by go_num, by omega, by simp; omega, ⟨a7, c7, by simp⟩, HO7.out, hE2.out, HB7.out⟩
                    case measure => first | (simp [intOf]; done) | (simp [intOf]; omega)
                · have h3' : ((P.length : Int) != 3) = true := by rw [bne_iff_ne]; omega
                  have hE : Hid (tallyN s.data.toList = (4, [])) := by
                    show _ = _
                    rw [hE0.out, HST.out, edgeN_not _ (by rw [← HP.out, List.length_map]; exact h3)]
                  go_wp2_with fail
                  go_ret2
                  exact ⟨.slice none 0 0, by rw [hE.out]; rfl, by rw [hE.out]; exact World.ownsRow_nil _ _ _ _, hb.out.trans (hbp.out.mono hb.out.size)⟩
          · have hcn : ((c : Int) != 10) = true := by rw [bne_iff_ne]; omega
            have HN : Hid (Fnd s.data.toList A (E + 1)) := fnd_step hF.out e1 hEl.out (by rw [HAT.out E hEs hEl.out]; intro h; apply h10; rw [← hc, h]; rfl)
            clear hF
            go_wp2_with fail
            go_roundw
            case rel => exact ⟨E + 1, by omega, by omega, by go_num, HN.out, trivial⟩
            case measure => first | (simp [intOf]; done) | (simp [intOf]; omega)
        · have hes : ((E : Int) == (s.size : Int)) = true := by rw [beq_iff_eq]; omega
          have hE : Hid (tallyN s.data.toList = (5, [])) := by
            show _ = _
            rw [hE0.out, edges_short _ _ hne.out (fnd_end hF.out (by have := HSZ.out; omega))]
          clear hF
          go_wp2_with fail
          go_ret2
          exact ⟨.slice none 0 0, by rw [hE.out]; rfl, by rw [hE.out]; exact World.ownsRow_nil _ _ _ _, hb.out⟩
    · have hE : Hid (tallyN s.data.toList = (0, l)) := by
        show _ = _
        rw [hE0.out, List.drop_eq_nil_of_le (by have := HSZ.out; omega)]; rfl
      go_wp2_with fail
      go_ret2
      exact ⟨.slice aL l.length cL, by rw [hE.out]; rfl, by rw [hE.out]; exact ho.out, hb.out⟩
end Go.Proofs.YtjcackcimofcmaaDoor
