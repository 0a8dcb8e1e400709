/-
  boltholekeep.alone: a program of instructions, with a Halt behind them.
-/
import Derived.Test.YtechpdfcgimkkaaDoorAlKit
import Derived.Test.YtechpdfcgimkkaaDoorPureEnc
import Derived.Test.YtechpdfcgimkkaaDoorStoreKit
import Derived.Deep.RegionHeld3
namespace Go.Proofs.YtechpdfcgimkkaaDoor
open Go.RowKit Go.Joins Isa
theorem alU8 : (Tryd.prog.info? 5).map (fun i => (i.zero, i.size, i.bytes)) = some (some (.int .u8 0), 1, 1) := by kernel_rfl
/-- A list of instructions that a caller lays. -/
def InsAt (w : World) (v : Value) (l : List Ins) : Prop :=
  (v = .slice none 0 0 ∧ l = []) ∨ ∃ g off cap, v = .slice (some ⟨g, off, none⟩) l.length cap ∧ g < w.heap.size ∧ ∀ j u, (flat iCells l)[j]? = some u → w.cell? ⟨g, off + j, none⟩ = some u
theorem InsAt.up {w w' : World} {v : Value} {l : List Ins} (h : InsAt w v l) (hb : Below w.heap.size w w') : InsAt w' v l := by
  rcases h with h | ⟨g, off, cap, h1, h2, h3⟩
  · exact Or.inl h
  · exact Or.inr ⟨g, off, cap, h1, Nat.lt_of_lt_of_le h2 hb.size, fun j u hj => (hb.cell (p := ⟨g, _, none⟩) h2).trans (h3 j u hj)⟩
set_option maxHeartbeats 1000000 in
theorem clone_all (l : List Ins) (v : Value) (w : World) (h : InsAt w v l) (hl : l.length ≤ 1000) :
    Calls Tryd.prog 69 #[v] w fun e w' => ∃ v', e = .returned v' ∧ w'.ownsRow w.heap.size 61 6 v' l.length (flat iCells l) ∧ Below w.heap.size w w' := by
  rcases h with ⟨rfl, rfl⟩ | ⟨g, off, cap, rfl, h2, h3⟩
  · have qT : ∀ (w : World) (a : Option Addr) (n c n' c' : Nat), (binOp .eql 72 (.slice a n c) (.slice none n' c')).run Tryd.prog w = .ok (.bool a.isNone) w := fun w a n c n' c' => Lib.run_eql_slice_nil w 72 61 a n c n' c' Tryd.underlying72
    go_enter Tryd.func69, Tryd.ntmps69
    go_wp2
    go_ret
    exact ⟨_, rfl, World.ownsRow_nil _ _ _ _, Below.refl _ _⟩
  · exact clone_any l g off cap w h3 hl h2
/-- append(slices.Clone(l), Halt). -/
theorem halt_app {w w3 : World} {v' : Value} {l : List Ins} (own : w3.ownsRow w.heap.size 61 6 v' l.length (flat iCells l)) (hb : Below w.heap.size w w3) (hl : l.length ≤ 1000) :
    ∃ g cap W, (Builtin.append_ #[72, 72] 72 #[v', .slice (some ⟨w3.heap.size, 0, none⟩) 1 1]).run Tryd.prog (w3.alloc (.cells #[.int .i64 1, .int .i64 0, .int .i64 0, .int .i64 0, .int .i64 0, .bool false] 61)) = .ok (.slice (some ⟨g, 0, none⟩) (l.length + 1) cap) W ∧
      W.ownsRow w.heap.size 61 6 (.slice (some ⟨g, 0, none⟩) (l.length + 1) cap) (l.length + 1) (flat iCells (l ++ [haltI])) ∧ Below w.heap.size w W := by
  obtain ⟨v4, W, hr, ho, gr, hb2⟩ := row_app 61 72 6 48 _ Tryd.underlying72 inIns rfl (by decide) own hb.size (iCells haltI) rfl (icells_one _) (by omega) (by unfold maxLen; omega) (Or.inl rfl)
  rw [← flat_snoc] at ho
  obtain ⟨g, cap, rfl⟩ := row_some ho (by omega)
  refine ⟨g, cap, W, hr, ho, (hb.trans (hb2.mono hb.size)).trans ?_⟩
  exact ⟨gr.os, gr.tape, gr.output, gr.size, fun k hk => gr.block k (by have := hb2.size; have := hb.size; omega) (by intro he; have := (row_block own he.symm).1; omega)⟩
/-- Where alone's loop stands after m rounds. -/
structure Al (B gb : Nat) (W0 wr : World) (js : List Ins) (v4 vD vT : Value) (m : Nat) : Prop where
  bel : Below B W0 wr
  hB : B ≤ gb
  box : wr.heap[gb]? = some (.cells #[vT, .slice none 0 0, .slice none 0 0, vD, .slice none 0 0, .int .i64 0] 29)
  oT : wr.ownsRow B 5 1 vT (encAll (js.take m)).length ((encAll (js.take m)).map (Value.int .u8))
  oI : wr.ownsRow B 61 6 v4 js.length (flat iCells js)
theorem Al.lt {B gb : Nat} {W0 wr : World} {js : List Ins} {v4 vD vT : Value} {m : Nat} (h : Al B gb W0 wr js v4 vD vT m) : gb < wr.heap.size := (Array.getElem?_eq_some_iff.1 h.box).1
theorem Al.up {B gb : Nat} {W0 wr w' : World} {js : List Ins} {v4 vD vT : Value} {m : Nat} (h : Al B gb W0 wr js v4 vD vT m) (hb : Below wr.heap.size wr w') : Al B gb W0 w' js v4 vD vT m :=
  ⟨h.bel.trans (hb.mono (by have := h.lt; have := h.hB; omega)), h.hB, (hb.block gb h.lt).trans h.box, row_up h.oT hb, row_up h.oI hb⟩
theorem Al.cells {B gb : Nat} {W0 w : World} {js : List Ins} {v4 vD vT : Value} {m : Nat} (h : Al B gb W0 w js v4 vD vT m) :
    w.cell? ⟨gb, 0, none⟩ = some vT ∧ w.cell? ⟨gb, 1, none⟩ = some (.slice none 0 0) ∧ w.cell? ⟨gb, 2, none⟩ = some (.slice none 0 0) ∧ w.cell? ⟨gb, 3, none⟩ = some vD ∧ w.cell? ⟨gb, 4, none⟩ = some (.slice none 0 0) ∧ w.cell? ⟨gb, 5, none⟩ = some (.int .i64 0) ∧ w.frozen? ⟨gb, 0, none⟩ = false ∧ w.frozen? ⟨gb, 1, none⟩ = false := by
  refine ⟨?_, ?_, ?_, ?_, ?_, ?_, ?_, ?_⟩ <;> simp [World.cell?, World.frozen?, h.box]
/-- One instruction's bytes more. -/
theorem Al.add {B gb : Nat} {W0 w2 : World} {js : List Ins} {v4 vD vT : Value} {m : Nat} {i : Ins} (h : Al B gb W0 w2 js v4 vD vT m) (hi : js[m]? = some i) (hj : js.length ≤ 1001) (ho : ∀ i ∈ js, i.chk = 0)
    {g cap C : Nat} (hn : w2.ownsRow C 5 1 (.slice (some ⟨g, 0, none⟩) (encI i).length cap) (encI i).length ((encI i).map (Value.int .u8))) :
    ∃ v' W, (Builtin.append_ #[23, 23] 23 #[vT, .slice (some ⟨g, 0, none⟩) (encI i).length cap]).run Tryd.prog w2 = .ok v' W ∧ W.cell? ⟨gb, 0, none⟩ = some vT ∧ W.frozen? ⟨gb, 0, none⟩ = false ∧ gb < W.heap.size ∧ (∃ a l c, v' = .slice a l c) ∧ Al B gb W0 (W.setCell ⟨gb, 0, none⟩ v') js v4 vD v' (m + 1) := by
  have hBw : B ≤ w2.heap.size := by have := h.lt; have := h.hB; omega
  have hl := encAll_len (js.take m) fun i hi => ho i (List.mem_of_mem_take hi)
  have htl : (js.take m).length ≤ 1001 := by rw [List.length_take]; omega
  have h1 := encAll_len [i] fun x hx => by have e : x = i := (by simpa using hx); rw [e]; exact ho i (List.mem_of_getElem? hi)
  rw [show encAll [i] = encI i by simp [encAll]] at h1
  simp only [List.length_singleton] at h1
  have hcells := hn.cells (g := g) rfl
  obtain ⟨v', W, hr, hoT, gr⟩ := row_apps 5 23 1 1 (.int .u8 0) Tryd.underlying23 alU8 rfl (by decide) h.oT hBw g 0 (encI i).length cap ((encI i).map (Value.int .u8)) (by simp) (fun j u hj => by have := hcells j u hj; rwa [Addr.add_lit] at this) (one_bytes _) (by omega) (by unfold maxLen; omega)
  have e2 : js.take (m + 1) = js.take m ++ [i] := by rw [List.take_add_one, hi]; rfl
  have e3 : encAll (js.take (m + 1)) = encAll (js.take m) ++ encI i := by rw [e2, encAll_append]; simp [encAll]
  have hbox : W.heap[gb]? = some (.cells #[vT, .slice none 0 0, .slice none 0 0, vD, .slice none 0 0, .int .i64 0] 29) := (gr.block gb h.lt (row_ne h.oT h.box (by decide))).trans h.box
  have hset := setCell_eq_setRow W gb 0 _ _ _ v' hbox
  have gb' : gb < W.heap.size := (Array.getElem?_eq_some_iff.1 hbox).1
  refine ⟨v', W, hr, by simp [World.cell?, hbox], by simp [World.frozen?, hbox], gb', row_form hoT, ?_, h.hB, ?_, ?_, ?_⟩
  · refine (h.bel.trans ?_).setCell (p := ⟨gb, 0, none⟩) h.hB v'
    exact ⟨gr.os, gr.tape, gr.output, gr.size, fun k hk => gr.block k (by omega) (by intro he; have := (row_block h.oT he.symm).1; omega)⟩
  · rw [hset]; exact setRow_heap W gb _ _ _ _ hbox
  · rw [e3, List.length_append, List.map_append]
    exact row_set hoT hbox (by decide)
  · exact row_set (row_by h.oI h.oT gr (by decide)) hbox (by decide)
theorem flat_u (xs : List Int) : flat ucell xs = xs.map (Value.int .u8) := by
  induction xs with
  | nil => rfl
  | cons x xs ih => rw [List.map_cons, ← ih]; rfl
set_option maxRecDepth 100000 in
set_option maxHeartbeats 4000000 in
theorem alone_any (l : List Ins) (v : Value) (w : World) (ht : Tabs w) (h : InsAt w v l) (hl : l.length ≤ 1000) (hok : ∀ i ∈ l, i.chk = 0) :
    Calls Tryd.prog 37 #[v] w fun e w' => ∃ vT vF vD, e = .returned (.tuple #[.agg #[vT, vF, .slice none 0 0, vD, .slice none 0 0, .int .i64 0], .bool true]) ∧ ImgAt w' vT vF (.slice none 0 0) vD (.slice none 0 0) (aloneI l) ∧ Below w.heap.size w w' := by
  obtain ⟨w2, hw2⟩ : ∃ w2, ((w.alloc (.cells #[.slice none 0 0, .slice none 0 0, .slice none 0 0, .slice none 0 0, .slice none 0 0, .int .i64 0] 29)).alloc (.cells #[.int .i64 5, .int .i64 (-3), .int .i64 0, .int .i64 7, .int .i64 1, .int .i64 2] 3)).alloc (.cells #[.slice none 0 0, .slice none 0 0, .slice none 0 0, .slice (some ⟨w.heap.size + 1, 0, none⟩) 6 6, .slice none 0 0, .int .i64 0] 29) = w2 := ⟨_, rfl⟩
  have HW2 : Hid _ := hw2
  have B2 : Hid (Below w.heap.size w w2) := by rw [← hw2]; exact (((Below.refl _ _).alloc (Nat.le_refl _) _).alloc (by simp) _).alloc (by simp; omega) _
  have CL := clone_all l v w2 (h.up B2.out) hl
  have HCL : Hid _ := CL
  have HJ : Hid (∀ i ∈ l ++ [haltI], i.chk = 0) := by
    intro i hi
    rcases List.mem_append.1 hi with q | q
    · exact hok i q
    · have : i = haltI := by simpa using q
      subst this; decide
  clear CL h hok hw2
  go_enter Tryd.func37, Tryd.ntmps37
  go_upto_region 2 with fail
  rw [HW2.out]
  have z2 : w.heap.size + 1 + 1 < w2.heap.size := by rw [← HW2.out]; simp
  have G2 : Hid (w2.heap[w.heap.size + 1 + 1]? = some (.cells #[.slice none 0 0, .slice none 0 0, .slice none 0 0, .slice (some ⟨w.heap.size + 1, 0, none⟩) 6 6, .slice none 0 0, .int .i64 0] 29)) := by
    show _ = _
    rw [← HW2.out]; exact alloc_at _ _ _ (by simp)
  have G0 : Hid (w2.heap[w.heap.size]? = some (.cells #[.slice none 0 0, .slice none 0 0, .slice none 0 0, .slice none 0 0, .slice none 0 0, .int .i64 0] 29)) := by
    show _ = _
    rw [← HW2.out]
    exact (((((Below.refl (w.heap.size + 1) (w.alloc (.cells #[.slice none 0 0, .slice none 0 0, .slice none 0 0, .slice none 0 0, .slice none 0 0, .int .i64 0] 29))).alloc (by simp) _).alloc (by simp) _).block w.heap.size (by omega))).trans (alloc_at _ _ _ rfl)
  have G1 : Hid (ListAt w2 icell 1 (.slice (some ⟨w.heap.size + 1, 0, none⟩) 6 6) [5, -3, 0, 7, 1, 2]) := by
    show ListAt _ _ _ _ _
    rw [← HW2.out]
    refine Or.inr ⟨_, 0, 6, rfl, by decide, by unfold maxLen; omega, by simp, fun j x hj o u hu => ?_⟩
    have hh : (((w.alloc (.cells #[.slice none 0 0, .slice none 0 0, .slice none 0 0, .slice none 0 0, .slice none 0 0, .int .i64 0] 29)).alloc (.cells #[.int .i64 5, .int .i64 (-3), .int .i64 0, .int .i64 7, .int .i64 1, .int .i64 2] 3)).alloc (.cells #[.slice none 0 0, .slice none 0 0, .slice none 0 0, .slice (some ⟨w.heap.size + 1, 0, none⟩) 6 6, .slice none 0 0, .int .i64 0] 29)).heap[w.heap.size + 1]? = some (.cells #[.int .i64 5, .int .i64 (-3), .int .i64 0, .int .i64 7, .int .i64 1, .int .i64 2] 3) :=
      ((Below.refl (w.heap.size + 2) (((w.alloc (.cells #[.slice none 0 0, .slice none 0 0, .slice none 0 0, .slice none 0 0, .slice none 0 0, .int .i64 0] 29)).alloc (.cells #[.int .i64 5, .int .i64 (-3), .int .i64 0, .int .i64 7, .int .i64 1, .int .i64 2] 3)))).alloc (by simp) _).block (w.heap.size + 1) (by omega) |>.trans (alloc_at _ _ _ (by simp))
    have ho : o = 0 := by
      rcases o with _ | o
      · rfl
      · simp [icell] at hu
    subst ho
    obtain rfl : u = .int .i64 x := by simpa [icell] using hu.symm
    simp only [World.cell?, hh]
    rcases j with _ | _ | _ | _ | _ | _ | j <;> simp at hj <;> (try subst hj) <;> rfl
  clear HW2
  have zw : w.heap.size ≤ w2.heap.size := by omega
  go_wp2_with fail
  refine Calls.mono HCL.out ?_
  rintro e w3 ⟨v', rfl, own, hb3⟩
  obtain ⟨g4, cap4, w4, hr4, ho4, hb4⟩ := halt_app own hb3 hl
  have HR4 : Hid _ := hr4
  have HO4 : Hid _ := row_low ho4 (show w.heap.size + 1 + 1 ≤ w2.heap.size by omega)
  have HB4 : Hid _ := hb4
  obtain ⟨a', l', c', rfl⟩ := row_form own
  clear hr4 ho4 hb4 own hb3
  go_wp2_with (first | (at_builtin; refine wpList_append_two _ rfl (.tmp 12) (.tmp 14) 72 72 rfl _ _ rfl rfl HR4.out ?_))
  have hg2 : w4.heap[w.heap.size + 1 + 1]? = some (.cells #[.slice none 0 0, .slice none 0 0, .slice none 0 0, .slice (some ⟨w.heap.size + 1, 0, none⟩) 6 6, .slice none 0 0, .int .i64 0] 29) := (HB4.out.block _ z2).trans G2.out
  have hjl : (l ++ [haltI]).length = l.length + 1 := by simp
  have A0 : Hid (Al (w.heap.size + 1 + 1) (w.heap.size + 1 + 1) w2 w4 (l ++ [haltI]) (.slice (some ⟨g4, 0, none⟩) (l.length + 1) cap4) (.slice (some ⟨w.heap.size + 1, 0, none⟩) 6 6) (.slice none 0 0) 0) :=
    ⟨HB4.out.mono (by omega), by omega, hg2, World.ownsRow_nil _ _ _ _, by rw [hjl]; exact HO4.out⟩
  have HJL : Hid _ := hjl
  have hAI : Hid (aloneI l = ⟨encAll (l ++ [haltI]), [fFn (encAll (l ++ [haltI])).length], [], [5, -3, 0, 7, 1, 2], [], 0⟩) := rfl
  generalize l ++ [haltI] = js at *
  clear hg2 hjl HO4 HR4 HCL
  go_loopw [17] (fun c wr => ∃ (m : Nat) (vT : Value), m ≤ l.length + 1 ∧ c = .int .i64 (m : Int) ∧ Hid (∃ a n k, vT = .slice a n k) ∧ Hid (Al (w.heap.size + 1 + 1) (w.heap.size + 1 + 1) w2 wr js (.slice (some ⟨g4, 0, none⟩) (l.length + 1) cap4) (.slice (some ⟨w.heap.size + 1, 0, none⟩) 6 6) vT m)) (fun c _ => (l.length + 1 - intOf c).toNat)
  case atStart => exact ⟨0, _, by omega, rfl, ⟨_, _, _, rfl⟩, A0⟩
  case round =>
    obtain ⟨m, vT, hm1, rfl, hvT, hAl⟩ := hrel
    obtain ⟨aT, nT, kT, hvT'⟩ := hvT.out
    by_cases hm : m < l.length + 1
    · obtain ⟨i, hi⟩ : ∃ i, js[m]? = some i := ⟨_, List.getElem?_eq_getElem (by have := HJL.out; omega)⟩
      have hic : i.chk = 0 := HJ.out i (List.mem_of_getElem? hi)
      have hrow := hAl.out.oI
      rw [HJL.out] at hrow
      have hg4 : g4 < wr.heap.size := by
        obtain ⟨_, cur, hh⟩ := row_block hrow (k := g4) rfl
        exact (Array.getElem?_eq_some_iff.1 hh).1
      have e : ∀ o u, o < 6 → (iCells i)[o]? = some u → wr.cell? ⟨g4, m * 6 + o, none⟩ = some u := fun o u ho hu => row_cells hrow _ _ ((flat_at icells_len js m i hi o ho).trans hu)
      obtain ⟨ik, id, ia, ib, inn, il⟩ := i
      have e0 := e 0 _ (by decide) rfl
      have e1 := e 1 _ (by decide) rfl
      have e2 := e 2 _ (by decide) rfl
      have e3 := e 3 _ (by decide) rfl
      have e4 := e 4 _ (by decide) rfl
      have e5 := e 5 _ (by decide) rfl
      simp only [Nat.add_zero] at e0
      have hcap : l.length + 1 ≤ cap4 := by
        rcases hrow.2 with ⟨hv, _⟩ | ⟨_, _, _, hv, _, _, hcap, _⟩
        · cases hv
        · cases hv; exact hcap
      have hmm : (m : Int) < (l.length : Int) + 1 := by omega
      have hmn : (m : Int) < ((l.length + 1 : Nat) : Int) := by omega
      have HI : Hid _ := hi
      have HIC : Hid (Isa.chk ik id ia ib inn il = 0) := hic
      have HTB : Hid (Tabs (wr.alloc (.cells #[.int .i64 ik, .int .i64 id, .int .i64 ia, .int .i64 ib, .int .i64 inn, .bool il] 61))) := (ht.below ht.sz (B2.out.trans (hAl.out.bel.mono (by omega)))).below (by have := ht.sz; have := B2.out.size; have := hAl.out.bel.size; omega) ((Below.refl _ _).alloc (Nat.le_refl _) _)
      clear hrow e hi hic
      go_wp2_with fail
      refine Calls.mono (encode_any ik id ia ib inn il _ HTB.out) ?_
      rintro e w5 (⟨hc, _⟩ | ⟨hc, g5, cap5, rfl, own5, hb5⟩)
      · exact absurd HIC.out hc
      have hb5' : Below wr.heap.size wr w5 := ((Below.refl _ _).alloc (Nat.le_refl _) _).trans (hb5.mono (by simp))
      have A5 := hAl.out.up hb5'
      obtain ⟨v6, w6, hr6, c6, f6, z6, hv6, A6⟩ := A5.add (i := ⟨ik, id, ia, ib, inn, il⟩) HI.out (by rw [HJL.out]; omega) HJ.out own5
      obtain ⟨t0, t1, t2, t3, t4, t5, t6, t7⟩ := A5.cells
      have z5 := A5.lt
      obtain ⟨a6, l6, k6, rfl⟩ := hv6
      rw [hvT'] at hr6 t0 c6
      have HR6 : Hid _ := hr6
      have HA6 : Hid _ := A6
      clear hr6 A6 A5 hb5 hb5' own5 hc e0 e1 e2 e3 e4 e5 HTB
      go_wp2_with (first | (at_builtin; refine wpList_append_two _ rfl (.tmp 30) (.tmp 31) 23 23 rfl _ _ rfl rfl HR6.out ?_))
      go_roundw
      case rel => exact ⟨m + 1, _, by omega, by go_num, ⟨_, _, _, rfl⟩, HA6.out⟩
      case measure => simp [intOf]; omega
    · have hmj : m = l.length + 1 := by omega
      subst hmj
      have hA := hAl.out
      rw [hvT'] at hA
      obtain ⟨t0, t1, t2, t3, t4, t5, t6, t7⟩ := hA.cells
      have z5 := hA.lt
      have HA : Hid _ := hA
      clear hA hm hm1
      go_upto_region 11 with fail
      obtain ⟨W, hW⟩ : ∃ W, ((wr.setCell ⟨w.heap.size + 1 + 1, 1, none⟩ (.slice (some ⟨wr.heap.size, 0, none⟩) 1 1)).alloc (.cells #[.string ⟨#[102]⟩, .int .i64 0, .int .i64 nT] 47)) = W := ⟨_, rfl⟩
      rw [hW]
      have hbx : wr.heap[w.heap.size + 1 + 1]? = some (.cells #[.slice aT nT kT, .slice none 0 0, .slice none 0 0, .slice (some ⟨w.heap.size + 1, 0, none⟩) 6 6, .slice none 0 0, .int .i64 0] 29) := HA.out.box
      have hBW : Below (w.heap.size + 1 + 1) w2 W := by rw [← hW]; exact (HA.out.bel.setCell (p := ⟨w.heap.size + 1 + 1, 1, none⟩) (Nat.le_refl _) _).alloc (Nat.le_trans (Nat.le_trans (by omega : w.heap.size + 1 + 1 ≤ w2.heap.size) HA.out.bel.size) ((Below.refl 0 wr).setCell (p := ⟨w.heap.size + 1 + 1, 1, none⟩) (Nat.zero_le _) _).size) _
      have hres : W.heap[w.heap.size]? = some (.cells #[.slice none 0 0, .slice none 0 0, .slice none 0 0, .slice none 0 0, .slice none 0 0, .int .i64 0] 29) := (hBW.block _ (by omega)).trans G0.out
      have hbw : W.heap[w.heap.size + 1 + 1]? = some (.cells #[.slice aT nT kT, .slice (some ⟨wr.heap.size, 0, none⟩) 1 1, .slice none 0 0, .slice (some ⟨w.heap.size + 1, 0, none⟩) 6 6, .slice none 0 0, .int .i64 0] 29) := by
        rw [← hW]
        have hx := heap_setCell_same wr _ 1 _ _ (.slice (some ⟨wr.heap.size, 0, none⟩) 1 1) hbx
        exact (((Below.refl _ _).alloc (Nat.le_refl _) _).block _ (Array.getElem?_eq_some_iff.1 hx).1).trans hx
      have hfn : W.heap[wr.heap.size]? = some (.cells #[.string ⟨#[102]⟩, .int .i64 0, .int .i64 nT] 47) := by rw [← hW]; exact alloc_at _ _ _ (by simp)
      have q0 : W.cell? ⟨w.heap.size + 1 + 1, 0, none⟩ = some (.slice aT nT kT) := by simp [World.cell?, hbw]
      have q1 : W.cell? ⟨w.heap.size + 1 + 1, 1, none⟩ = some (.slice (some ⟨wr.heap.size, 0, none⟩) 1 1) := by simp [World.cell?, hbw]
      have q2 : W.cell? ⟨w.heap.size + 1 + 1, 2, none⟩ = some (.slice none 0 0) := by simp [World.cell?, hbw]
      have q3 : W.cell? ⟨w.heap.size + 1 + 1, 3, none⟩ = some (.slice (some ⟨w.heap.size + 1, 0, none⟩) 6 6) := by simp [World.cell?, hbw]
      have q4 : W.cell? ⟨w.heap.size + 1 + 1, 4, none⟩ = some (.slice none 0 0) := by simp [World.cell?, hbw]
      have q5 : W.cell? ⟨w.heap.size + 1 + 1, 5, none⟩ = some (.int .i64 0) := by simp [World.cell?, hbw]
      obtain ⟨Z, hZ⟩ : ∃ Z, ((((((W.setCell ⟨w.heap.size, 0, none⟩ (.slice aT nT kT)).setCell ⟨w.heap.size, 1, none⟩ (.slice (some ⟨wr.heap.size, 0, none⟩) 1 1)).setCell ⟨w.heap.size, 2, none⟩ (.slice none 0 0)).setCell ⟨w.heap.size, 3, none⟩ (.slice (some ⟨w.heap.size + 1, 0, none⟩) 6 6)).setCell ⟨w.heap.size, 4, none⟩ (.slice none 0 0)).setCell ⟨w.heap.size, 5, none⟩ (.int .i64 0)) = Z := ⟨_, rfl⟩
      have HZ : Hid _ := hZ
      have HRS : Hid _ := hres
      have HBW : Hid _ := hBW
      have HWW : Hid _ := hW
      have HFN : Hid _ := hfn
      have HWO : Hid (∀ k, k < wr.heap.size → k ≠ w.heap.size + 1 + 1 → W.heap[k]? = wr.heap[k]?) := fun k hk hne => by
        rw [← hW]
        refine (((Below.refl _ _).alloc (Nat.le_refl _) _).block _ (Nat.lt_of_lt_of_le hk ((Below.refl 0 wr).setCell (p := ⟨w.heap.size + 1 + 1, 1, none⟩) (Nat.zero_le _) (.slice (some ⟨wr.heap.size, 0, none⟩) 1 1)).size)).trans ?_
        exact heap_setCell_other _ _ _ _ hne
      have hz6 : Z.heap[w.heap.size]? = some (.cells #[.slice aT nT kT, .slice (some ⟨wr.heap.size, 0, none⟩) 1 1, .slice none 0 0, .slice (some ⟨w.heap.size + 1, 0, none⟩) 6 6, .slice none 0 0, .int .i64 0] 29) := by rw [← hZ]; exact chain6 hres _ _ _ _ _ _
      have HZO : Hid (∀ k, k ≠ w.heap.size → Z.heap[k]? = W.heap[k]?) := fun k hk => by rw [← hZ]; exact chain6_other _ _ _ hk _ _ _ _ _ _
      have s0 : Z.cell? ⟨w.heap.size, 0, none⟩ = some (.slice aT nT kT) := by simp [World.cell?, hz6]
      have s1 : Z.cell? ⟨w.heap.size, 1, none⟩ = some (.slice (some ⟨wr.heap.size, 0, none⟩) 1 1) := by simp [World.cell?, hz6]
      have s2 : Z.cell? ⟨w.heap.size, 2, none⟩ = some (.slice none 0 0) := by simp [World.cell?, hz6]
      have s3 : Z.cell? ⟨w.heap.size, 3, none⟩ = some (.slice (some ⟨w.heap.size + 1, 0, none⟩) 6 6) := by simp [World.cell?, hz6]
      have s4 : Z.cell? ⟨w.heap.size, 4, none⟩ = some (.slice none 0 0) := by simp [World.cell?, hz6]
      have s5 : Z.cell? ⟨w.heap.size, 5, none⟩ = some (.int .i64 0) := by simp [World.cell?, hz6]
      have hbz : Below w.heap.size W Z := by rw [← hZ]; exact chain6_below (Below.refl _ _) (Nat.le_refl _) _ _ _ _ _ _
      have HBZ : Hid _ := hbz
      clear hbx hBW hres hbw hfn hW hZ hz6 hbz t0 t1 t2 t3 t4 t5 t6 t7
      go_wp2_with (first | (with_reducible refine @id (wpList _ _ _ (Oper.mk _ (Op.store _ _ _) _ _ _ _ :: _) _ _) ?_; refine wpList_store6 rfl (.tmp 2) (.tmp 41) rfl w.heap.size rfl rfl HRS.out rfl rfl rfl rfl rfl rfl HZ.out ?_))
      refine bodyPost_ret (v := .tuple #[.agg #[.slice aT nT kT, .slice (some ⟨wr.heap.size, 0, none⟩) 1 1, .slice none 0 0, .slice (some ⟨w.heap.size + 1, 0, none⟩) 6 6, .slice none 0 0, .int .i64 0], .bool true]) (by simp [results, Tryd.results37, go_sem, s0, s1, s2, s3, s4, s5]) rfl ?_
      have ha := HA.out
      have hoT := ha.oT
      rw [List.take_of_length_le (by rw [HJL.out]; exact Nat.le_refl _), ← flat_u] at hoT
      have hn : nT = (encAll js).length := by
        rcases hoT.2 with ⟨hv, h0⟩ | ⟨_, _, _, hv, _⟩
        · cases hv; exact h0.symm
        · cases hv; rfl
      have hoZ : Z.ownsRow (w.heap.size + 1 + 1) 5 1 (.slice aT nT kT) (encAll js).length (flat ucell (encAll js)) := row_same hoT fun k hk => by
        obtain ⟨hge, cur, hh⟩ := row_block hoT hk
        have hkl := (Array.getElem?_eq_some_iff.1 hh).1
        have hne : k ≠ w.heap.size + 1 + 1 := by
          rintro rfl
          exact row_ne hoT ha.box (by decide) hk.symm
        rw [HZO.out k (by omega), HWO.out k hkl hne]
      have hzs := HBZ.out.size
      have hws := HBW.out.size
      have hzw : wr.heap.size < W.heap.size := (Array.getElem?_eq_some_iff.1 HFN.out).1
      refine ⟨_, _, _, rfl, ?_, (B2.out.trans (HBW.out.mono (by omega))).trans HBZ.out⟩
      rw [hAI.out]
      refine ⟨row_list (fun _ => rfl) hoZ, ?_, ⟨[], Or.inl ⟨_, _, rfl, rfl⟩, rfl, fun j u t hu ht => (by simp at hu)⟩, ?_, Or.inl ⟨_, _, rfl, rfl⟩⟩
      · refine Or.inr ⟨_, 0, 1, rfl, Nat.le_refl _, by unfold maxLen; omega, by omega, fun j x hj o u hu => ?_⟩
        rcases j with _ | j
        · obtain rfl : fFn (encAll js).length = x := by simpa using hj
          have hf : Z.heap[wr.heap.size]? = some (.cells #[.string ⟨#[102]⟩, .int .i64 0, .int .i64 nT] 47) := (HZO.out _ (by have := ha.bel.size; omega)).trans HFN.out
          simp only [World.cell?, hf]
          rw [← hn] at hu
          rcases o with _ | _ | _ | o <;> simp [Fn.cells, fFn] at hu <;> subst hu <;> rfl
        · simp at hj
      · rcases G1.out with ⟨_, _, _, h⟩ | ⟨bb, oo, cap, hv, d1, d2, d3, d4⟩
        · cases h
        · cases hv
          refine Or.inr ⟨_, 0, 6, rfl, d1, d2, by omega, fun j x hj o u hu => ?_⟩
          have hb : Z.heap[w.heap.size + 1]? = w2.heap[w.heap.size + 1]? := (HZO.out _ (by omega)).trans (HBW.out.block _ (by omega))
          have := d4 j x hj o u hu
          simp only [World.cell?, hb] at this ⊢
          exact this
end Go.Proofs.YtechpdfcgimkkaaDoor
