/-
  'append([]byte(s), b...)': what comes of it is the text of both.
-/
import Derived.Test.YtkofnmeononlaaaDoorWalkDec
import Derived.Test.YtkofnmeononlaaaDoorWalkE
import Derived.Lib.ConvBytes
import Derived.Deep.AppendSrc
import Derived.Deep.Upon
import Derived.Laws.IdiomCopy
namespace Go.Proofs.YtkofnmeononlaaaDoor
open Go.RowKit Go.Joins Isa
/-- A string's bytes as numbers. -/
def bytesOf (s : ByteArray) : List Int := s.data.toList.map fun b => (b.toNat : Int)
theorem bytesOf_len (s : ByteArray) : (bytesOf s).length = s.size := by simp [bytesOf]
theorem bytesOf_bd (s : ByteArray) : ∀ x ∈ bytesOf s, 0 ≤ x ∧ x ≤ 255 := by
  intro x hx
  simp [bytesOf] at hx
  obtain ⟨b, _, rfl⟩ := hx
  have := b.toNat_lt
  omega
theorem wpList_append_run {P : Program} {w w' : World} {ops : Array Oper} {rest : List Oper} {o : Oper} {a : Act} {Q : Exit → Act → World → Prop} (hgd : o.guard = none) (s x : Operand) (t : TypeId)
    (ho : o.op = .call { callee := .builtin .append, args := #[s, x], argTypes := #[t, t] }) (v u r : Value) (hs : a.eval s = v) (hx : a.eval x = u) (hr : (Builtin.append_ #[t, t] o.type #[v, u]).run P w = .ok r w')
    (h : wpList P ops Q rest (a.put o.dst r) w') : wpList P ops Q (o :: rest) a w :=
  wpList_plain hgd fun _ hK => by
    unfold Oper.wp execOp
    simp only [ho, resolve, invoke, builtin, Sem.run_bind, Sem.run_pure, Result.andThen_ok, List.map_toArray, List.map_cons, List.map_nil, hs, hx, hr]
    exact hK _ _ h
theorem bytesCells_size (w : World) (e : TypeId) (s : ByteArray) : (Lib.bytesCells w e s).size = grownCap w s.size 0 e := by
  have := grownCap_ge w s.size 0 e
  simp [Lib.bytesCells]
  have : s.data.size = s.size := rfl
  omega
theorem bytes_below (w : World) (e : TypeId) (s : ByteArray) : Below w.heap.size w (Lib.bytesWorld w e s) := by
  refine ⟨?_, ?_, ?_, ?_, fun k hk => Lib.bytesWorld_at_old w e s k hk⟩
  · simp [Lib.bytesWorld, World.freeze, World.alloc, World.drew, -World.alloc_eq, -World.drew_eq]
  · simp [Lib.bytesWorld, World.freeze, World.alloc, World.drew, -World.alloc_eq, -World.drew_eq]
  · simp [Lib.bytesWorld, World.freeze, World.alloc, World.drew, -World.alloc_eq, -World.drew_eq]
  · rw [Lib.bytesWorld_size]; omega
theorem bytes_at (w : World) (e : TypeId) (s : ByteArray) (j : Nat) (x : Int) (h : (bytesOf s)[j]? = some x) : (Lib.bytesWorld w e s).cell? ⟨w.heap.size, j, none⟩ = some (.int .u8 x) := by
  have hj : j < s.size := by
    rcases Nat.lt_or_ge j s.size with q | q
    · exact q
    · rw [List.getElem?_eq_none (by rw [bytesOf_len]; omega)] at h; cases h
  rw [Lib.bytesWorld_cell w e s j hj]
  unfold bytesOf at h
  rw [List.getElem?_map, Option.map_eq_some_iff] at h
  obtain ⟨b, hb, rfl⟩ := h
  rw [List.getD_eq_getElem?_getD, hb]; rfl
theorem size_sc (b : Nat) : ∀ (vs : List Value) (o : Nat) (w : World), (w.setCells b o vs).heap.size = w.heap.size
  | [], _, _ => rfl
  | v :: vs, o, w => by
    show ((w.setCell ⟨b, o, none⟩ v).setCells b (o + 1) vs).heap.size = _
    rw [size_sc b vs, World.size_setCell]
theorem tape_sc (b : Nat) : ∀ (vs : List Value) (o : Nat) (w : World), (w.setCells b o vs).tape = w.tape
  | [], _, _ => rfl
  | v :: vs, o, w => by
    show ((w.setCell ⟨b, o, none⟩ v).setCells b (o + 1) vs).tape = _
    rw [tape_sc b vs]
    exact ((Below.refl 0 w).setCell (p := ⟨b, o, none⟩) (Nat.zero_le _) v).tape
theorem app_text (w : World) (s : ByteArray) (hs : s.size ≤ 140737488351232) (g N cap base : Nat) (ns : List Int) (hN : N = ns.length) (hN5 : N ≤ 5) (hx : ∀ x ∈ ns, 0 ≤ x ∧ x ≤ 255)
    (own : w.ownsRow base 5 1 (.slice (some ⟨g, 0, none⟩) N cap) N (ns.map (Value.int .u8))) (ty : TypeId) :
    ∃ v W, (Builtin.append_ #[29, 29] ty #[.slice (some ⟨w.heap.size, 0, none⟩) s.size (grownCap w s.size 0 5), .slice (some ⟨g, 0, none⟩) N cap]).run Tryd.prog (Lib.bytesWorld w 5 s) = .ok v W ∧
      TextAt W v (bytesOf s ++ ns) ∧ Below w.heap.size w W ∧ ∃ g' cap', v = .slice (some ⟨g', 0, none⟩) (s.size + N) cap' := by
  obtain ⟨i0, hi, hz0, hz1, hz2⟩ := info_parts info5
  have hglt := (own.lt g rfl).2
  have hnews : ∀ j u, (ns.map (Value.int .u8))[j]? = some u → (Lib.bytesWorld w 5 s).cell? ((⟨g, 0, none⟩ : Addr).add j) = some u := fun j u hj => by
    rw [Addr.add_lit]
    rw [Lib.bytesWorld_old w 5 s ⟨g, _, none⟩ hglt]
    have := own.cells (g := g) rfl j u hj
    rwa [Addr.add_lit] at this
  have hl : (ns.map (Value.int .u8)).length = N * i0.size := by simp [hz1, hN]
  have h1 : ∀ u ∈ ns.map (Value.int .u8), u.oneCell' = true := ints_oneCell .u8 ns
  have hlen : (bytesOf s ++ ns).length = s.size + N := by rw [List.length_append, bytesOf_len, hN]
  have hall : ∀ x ∈ bytesOf s ++ ns, 0 ≤ x ∧ x ≤ 255 := fun x hx' => by
    rcases List.mem_append.1 hx' with q | q
    · exact bytesOf_bd s x q
    · exact hx x q
  have hcapm : grownCap w s.size 0 5 ≤ maxLen := grownCap_le_maxLen _ _ _ _ (by unfold maxLen; omega)
  have hbs := bytes_below w 5 s
  have hold : ∀ j v, ((bytesOf s).map (Value.int .u8))[j]? = some v → (Lib.bytesWorld w 5 s).cell? ((⟨w.heap.size, 0, none⟩ : Addr).add j) = some v := fun j v hj => by
    rw [List.getElem?_map, Option.map_eq_some_iff] at hj
    obtain ⟨x, hx', rfl⟩ := hj
    rw [Addr.add_lit, Nat.zero_add]
    exact bytes_at w 5 s j x hx'
  by_cases hroom : s.size + N ≤ grownCap w s.size 0 5
  · have hsrc : Src Tryd.prog i0.size 29 (.slice (some ⟨g, 0, none⟩) N cap) N (ns.map (Value.int .u8)) (Lib.bytesWorld w 5 s) := Src.ofSlice _ Tryd.underlying29 _ N cap _ hl hnews h1
    have hcell : ∀ j, j < grownCap w s.size 0 5 → (Lib.bytesWorld w 5 s).cell? ⟨w.heap.size, j, none⟩ = (Lib.bytesCells w 5 s)[j]? := fun j hj => by
      simp [World.cell?, Lib.bytesWorld_at_new]
    have hc : ∀ j, j < (ns.map (Value.int .u8)).length → ((Lib.bytesWorld w 5 s).cell? ⟨w.heap.size, 0 + s.size * i0.size + j, none⟩).isSome = true := fun j hj => by
      rw [hl, hz1] at hj
      rw [hcell _ (by rw [hz1]; omega), hz1]
      simp [bytesCells_size]; omega
    have hfz : ∀ j, j < (ns.map (Value.int .u8)).length → (Lib.bytesWorld w 5 s).frozen? ⟨w.heap.size, 0 + s.size * i0.size + j, none⟩ = false := fun j hj => by
      rw [hl, hz1] at hj
      have := bytesCells_size w 5 s
      simp [World.frozen?, Lib.bytesWorld_at_new, hz1]
      omega
    refine ⟨_, _, run_append_room_src (P := Tryd.prog) (Lib.bytesWorld w 5 s) 29 29 ty 5 i0 Tryd.underlying29 hi w.heap.size 0 s.size _ _ N _ hsrc hroom hc hfz, ?_, ?_, _, _, rfl⟩
    · refine ⟨hall, Or.inr ⟨w.heap.size, 0, grownCap w s.size 0 5, by rw [hlen], by rw [hlen]; exact hroom, hcapm, ?_, fun j x hj => ?_⟩⟩
      · have : (Lib.bytesWorld w 5 s).heap.size = w.heap.size + 1 := Lib.bytesWorld_size w _ s
        have h2 := size_sc w.heap.size (ns.map (Value.int .u8)) (0 + s.size * i0.size) (Lib.bytesWorld w 5 s)
        omega
      · rw [hz1]
        by_cases hjs : j < s.size
        · rw [List.getElem?_append_left (by rw [bytesOf_len]; exact hjs)] at hj
          rw [World.cell?_setCells_out _ _ _ _ _ (by intro _ _; left; show 0 + j < _; omega), Nat.zero_add]
          exact bytes_at w 5 s j x hj
        · rw [List.getElem?_append_right (by rw [bytesOf_len]; omega), bytesOf_len] at hj
          have hjl : j - s.size < (ns.map (Value.int .u8)).length := by
            rcases Nat.lt_or_ge (j - s.size) ns.length with q | q
            · simpa using q
            · rw [List.getElem?_eq_none q] at hj; cases hj
          have := World.cell?_setCells_in w.heap.size (ns.map (Value.int .u8)) (0 + s.size * 1) (Lib.bytesWorld w 5 s) (fun q hq => by have := hc q hq; rwa [hz1] at this) (j - s.size) hjl
          rw [show 0 + j = 0 + s.size * 1 + (j - s.size) by omega, this]
          simp only [List.getElem_map]
          rw [List.getElem?_eq_some_iff] at hj
          obtain ⟨_, e⟩ := hj
          rw [e]
    · refine ⟨?_, ?_, ?_, ?_, fun k hk => ?_⟩
      · rw [World.os_setCells]; exact hbs.os
      · rw [tape_sc]; exact hbs.tape
      · rw [World.output_setCells]; exact hbs.output
      · rw [size_sc]; exact hbs.size
      · rw [World.heap_setCells_other _ _ _ _ (by rw [Lib.bytesWorld_size]; omega) (by omega)]; exact hbs.block k hk
  · have hg : grownCap w s.size 0 5 < s.size + N := by omega
    have hfit : Builtin.nextslicecap (s.size + N) (grownCap w s.size 0 5) * i0.bytes ≤ 281474976710656 := growslice_fits hg (by rw [hz2]; omega)
    refine ⟨_, _, run_append_grow (P := Tryd.prog) (Lib.bytesWorld w 5 s) 29 ty 5 i0 (.int .u8 0) Tryd.underlying29 hi hz0 ⟨w.heap.size, 0, none⟩ s.size _ ((bytesOf s).map (Value.int .u8)) (by simp [bytesOf_len, hz1]) hold ⟨g, 0, none⟩ N cap _ hl hnews hg (by omega) hfit, ?_, ?_, _, _, rfl⟩
    · have hge := grownCap_ge (Lib.bytesWorld w 5 s) (s.size + N) (grownCap w s.size 0 5) 5
      refine ⟨hall, Or.inr ⟨_, 0, _, by rw [hlen], by rw [hlen]; exact hge, grownCap_le_maxLen _ _ _ _ (by unfold maxLen; omega), by simp, fun j x hj => ?_⟩⟩
      have hjl : j < s.size + N := by
        rcases Nat.lt_or_ge j (s.size + N) with q | q
        · exact q
        · rw [List.getElem?_eq_none (by omega)] at hj; cases hj
      rw [Nat.zero_add]
      refine (World.cell?_alloc_new _ _ _ j).trans ?_
      have hm : ((bytesOf s ++ ns).map (Value.int .u8))[j]? = some (.int .u8 x) := by rw [List.getElem?_map, hj]; rfl
      rw [List.map_append] at hm
      rw [Array.getElem?_append_left (by simp [bytesOf_len, hN] at hjl ⊢; omega)]
      simpa using hm
    · exact hbs.drew.alloc hbs.size _
theorem text_below' {w w' : World} {v : Value} {ns : List Int} (h : TextAt w v ns) (hb : Below w.heap.size w w') : TextAt w' v ns := by
  refine ⟨h.1, ?_⟩
  rcases h.2 with q | ⟨bb, oo, cap, e, h1, h2, h3, h4⟩
  · exact Or.inl q
  · refine Or.inr ⟨bb, oo, cap, e, h1, h2, Nat.lt_of_lt_of_le h3 hb.size, fun j x hj => ?_⟩
    rw [hb.cell (p := ⟨bb, _, none⟩) h3]
    exact h4 j x hj
theorem run_convert_sb (w : World) (s : ByteArray) : (convert 9 29 (.string s)).run Tryd.prog w = .ok (.slice (some ⟨w.heap.size, 0, none⟩) s.size (grownCap w s.size 0 5)) (Lib.bytesWorld w 5 s) :=
  Lib.run_convert_string_bytes w 9 29 5 s Tryd.underlying9 Tryd.underlying29 Tryd.underlying5
end Go.Proofs.YtkofnmeononlaaaDoor
