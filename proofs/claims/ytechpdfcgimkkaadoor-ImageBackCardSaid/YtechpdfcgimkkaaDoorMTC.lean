/-
  From a row's condition on the two listed variables to what the walks ask ('Tabs'); an Instr as an argument, opened and shut.
-/
import Derived.Test.YtechpdfcgimkkaaDoorRows
import Derived.Test.YtechpdfcgimkkaaDoorMAC
import Derived.ProofKit
import Derived.LaidMore
import Derived.OpenShut
import Derived.Lib.SmallJoins
import Derived.Test.YtechpdfcgimkkaaDoorMOC
import Derived.ShutString
import Derived.ChangeOld
import Derived.Lib.LaidTab
import Derived.Stop.LaidErr
import Derived.Handed
import Derived.Lay
import Derived.Test.YtechpdfcgimkkaaDoorMKC
import Derived.Test.YtechpdfcgimkkaaDoorMCC
import Derived.SizedLaws
set_option maxRecDepth 100000
namespace Go.Proofs.YtechpdfcgimkkaaDoor
open Go.ChangeShapes Go.WideShapes Go.ChangeAt Go.WideMaps Go.WideElems Go.RowKit Go.Joins Go.Deep Isa
theorem own : ownKnob Tryd.prog.godebug = none := by kernel_rfl
theorem gOp : Tryd.prog.globalNamed "bolthole/isa.operators" = some 1 := by kernel_rfl
theorem gSh : Tryd.prog.globalNamed "bolthole/isa.shapes" = some 0 := by kernel_rfl
theorem tOp : (Tryd.prog.globals[1]?).map (·.type) = some 151 := by kernel_rfl
theorem tSh : (Tryd.prog.globals[0]?).map (·.type) = some 148 := by kernel_rfl
theorem cInt : Tryd.prog.cellsOf 3 = 1 := by kernel_rfl
theorem cByte : Tryd.prog.cellsOf 5 = 1 := by kernel_rfl
theorem cOp : Tryd.prog.cellsOf 150 = 3 := by kernel_rfl
theorem cSh : Tryd.prog.cellsOf 147 = 4 := by kernel_rfl
theorem cInstr : Tryd.prog.cellsOf 61 = 6 := by kernel_rfl
theorem opData {H : Type} : (Rows.laid_bolthole_isa_operators : DataW H) = .agg ((List.range 25).map fun i : Nat => .agg [.lit (.int .u8 (opF i)), .lit (.int .u8 (opL i)), .lit (.int .i64 (opS i))]) := rfl
theorem shData {H : Type} : (Rows.laid_bolthole_isa_shapes : DataW H) = .agg ((List.range 11).map fun i : Nat => .agg [.lit (.int .i64 (shU i)), .lit (.int .i64 (shL i)), .lit (.int .i64 (shT i)), .lit (.int .i64 (shW i))]) := rfl
section
variable {H : Type} {enc : TypeId × Value → H} {W : World} {base : Nat} {sp : Nat → Bool} {held : Bool} {fuel : Nat} {cs : List Value} {p : List MemPlace}
theorem one_cell {a : List Value} {v : Value} {o m : Nat} (h : ((a.take m).drop o).take 1 = [v]) (ho : o < m) : a[o]? = some v := by
  have := congrArg (·[0]?) h
  simpa [List.getElem?_take, List.getElem?_drop, ho] using this
theorem op_cells (h : DataW.trod enc Tryd.prog W base sp held fuel 151 cs = some (Rows.laid_bolthole_isa_operators, p)) (i : Nat) (hi : i < 25) :
    cs[i * 3]? = some (.int .u8 (opF i)) ∧ cs[i * 3 + 1]? = some (.int .u8 (opL i)) ∧ cs[i * 3 + 2]? = some (.int .i64 (opS i)) := by
  obtain ⟨xs, m, _, hx, hlen, hn, hel⟩ := DataW.trod_array Tryd.underlying151 h
  rw [opData] at hx
  simp only [Prod.mk.injEq, DataW.agg.injEq] at hx
  have h0 := hel i hi
  have hxi : (xs.map (·.1))[i]? = some (.agg [.lit (.int .u8 (opF i)), .lit (.int .u8 (opL i)), .lit (.int .i64 (opS i))]) := by
    rw [← hx.1]; simp [hi]
  rw [List.getElem?_map, Option.map_eq_some_iff] at hxi
  obtain ⟨x, hxs, hxd⟩ := hxi
  rw [hxs, cOp] at h0
  obtain ⟨y0, y1, y2, n, rfl, _, f0, f1, f2⟩ := trod_struct3 Tryd.underlying150 h0
  simp only [DataW.agg.injEq, List.cons.injEq, and_true] at hxd
  obtain ⟨z0, e0, rfl, _⟩ := DataW.trod_int Tryd.underlying5 f0
  obtain ⟨z1, e1, rfl, _⟩ := DataW.trod_int Tryd.underlying5 f1
  obtain ⟨z2, e2, rfl, _⟩ := DataW.trod_int Tryd.underlying3 f2
  simp only [DataW.lit.injEq, Lit.int.injEq, true_and] at hxd
  obtain ⟨rfl, rfl, rfl⟩ := hxd
  rw [cByte] at e0 e1
  rw [cInt] at e2
  have k0 := one_cell e0 (by decide)
  have k1 := one_cell e1 (by decide)
  have k2 := one_cell e2 (by decide)
  simp only [List.getElem?_drop] at k0 k1 k2
  exact ⟨k0, k1, k2⟩
theorem sh_cells (h : DataW.trod enc Tryd.prog W base sp held fuel 148 cs = some (Rows.laid_bolthole_isa_shapes, p)) (i : Nat) (hi : i < 11) :
    cs[i * 4]? = some (.int .i64 (shU i)) ∧ cs[i * 4 + 1]? = some (.int .i64 (shL i)) ∧ cs[i * 4 + 2]? = some (.int .i64 (shT i)) ∧ cs[i * 4 + 3]? = some (.int .i64 (shW i)) := by
  obtain ⟨xs, m, _, hx, hlen, hn, hel⟩ := DataW.trod_array Tryd.underlying148 h
  rw [shData] at hx
  simp only [Prod.mk.injEq, DataW.agg.injEq] at hx
  have h0 := hel i hi
  have hxi : (xs.map (·.1))[i]? = some (.agg [.lit (.int .i64 (shU i)), .lit (.int .i64 (shL i)), .lit (.int .i64 (shT i)), .lit (.int .i64 (shW i))]) := by
    rw [← hx.1]; simp [hi]
  rw [List.getElem?_map, Option.map_eq_some_iff] at hxi
  obtain ⟨x, hxs, hxd⟩ := hxi
  rw [hxs, cSh] at h0
  obtain ⟨y0, y1, y2, y3, n, rfl, _, f0, f1, f2, f3⟩ := trod_struct4 Tryd.underlying147 h0
  simp only [DataW.agg.injEq, List.cons.injEq, and_true] at hxd
  obtain ⟨z0, e0, rfl, _⟩ := DataW.trod_int Tryd.underlying3 f0
  obtain ⟨z1, e1, rfl, _⟩ := DataW.trod_int Tryd.underlying3 f1
  obtain ⟨z2, e2, rfl, _⟩ := DataW.trod_int Tryd.underlying3 f2
  obtain ⟨z3, e3, rfl, _⟩ := DataW.trod_int Tryd.underlying3 f3
  simp only [DataW.lit.injEq, Lit.int.injEq, true_and] at hxd
  obtain ⟨rfl, rfl, rfl, rfl⟩ := hxd
  rw [cInt] at e0 e1 e2 e3
  have k0 := one_cell e0 (by decide)
  have k1 := one_cell e1 (by decide)
  have k2 := one_cell e2 (by decide)
  have k3 := one_cell e3 (by decide)
  simp only [List.getElem?_drop] at k0 k1 k2 k3
  exact ⟨k0, k1, k2, k3⟩
end
theorem opS_bd (k : Int) (h0 : 0 ≤ k) (h1 : k ≤ 24) : 0 ≤ opS k ∧ opS k ≤ 10 := by
  rcases Int.lt_or_eq_of_le h0 with h | rfl
  · exact ⟨opS_lo (by omega) h1, opS_hi (by omega) h1⟩
  · decide
/-- The row's condition gives the tables. -/
theorem tabs_of_laid {W : World} (h : laidMetH Tryd.prog [("bolthole/isa.operators", Rows.laid_bolthole_isa_operators), ("bolthole/isa.shapes", Rows.laid_bolthole_isa_shapes)] W) : Tabs W := by
  rw [MakeChecks.laidMetH_plain _ _ _ (by kernel_rfl)] at h
  obtain ⟨ps, ⟨g0, t0, cs0, f0, p0, q0, hg0, ht0, hv0, hd0, ⟨g1, t1, cs1, f1, p1, q1, hg1, ht1, hv1, hd1, _, _⟩, _⟩, _, _⟩ := h
  obtain rfl := Option.some.inj (gOp.symm.trans hg0)
  obtain rfl := Option.some.inj (gSh.symm.trans hg1)
  obtain rfl := Option.some.inj (tOp.symm.trans ht0)
  obtain rfl := Option.some.inj (tSh.symm.trans ht1)
  have vo := fun j => World.var?_cell hg0 hv0 j
  have vs := fun j => World.var?_cell hg1 hv1 j
  refine ⟨?_, fun k h0 h1 => ?_, fun k h0 h1 => ?_⟩
  · rcases Nat.lt_or_ge 1 W.heap.size with h | h
    · exact h
    · have a := (op_cells hd0 0 (by decide)).1
      have b := (sh_cells hd1 0 (by decide)).1
      have a' := (vo 0).trans (by simpa using a)
      have b' := (vs 0).trans (by simpa using b)
      exact absurd h (by
        intro hle
        first
          | (have : W.cell? ⟨1, 0, none⟩ = none := by simp [World.cell?, Array.getElem?_eq_none hle]
             rw [this] at a'; cases a')
          | (have : W.cell? ⟨1, 0, none⟩ = none := by simp [World.cell?, Array.getElem?_eq_none hle]
             rw [this] at b'; cases b'))
  · obtain ⟨i, rfl⟩ := Int.eq_ofNat_of_zero_le h0
    obtain ⟨a, b, c⟩ := op_cells hd0 i (by omega)
    rw [Int.toNat_natCast]
    exact ⟨(vo _).trans (by simpa using a), (vo _).trans (by simpa using b), (vo _).trans (by simpa using c)⟩
  · obtain ⟨s0, s1⟩ := opS_bd k h0 h1
    obtain ⟨i, hi⟩ := Int.eq_ofNat_of_zero_le s0
    obtain ⟨a, b, c, d⟩ := sh_cells hd1 i (by omega)
    unfold kU kL kT kW
    rw [hi, Int.toNat_natCast]
    exact ⟨(vs _).trans (by simpa using a), (vs _).trans (by simpa using b), (vs _).trans (by simpa using c), (vs _).trans (by simpa using d)⟩
/-- The heap that the door's own run leaves meets the condition. -/
theorem door_met (os : Os) (args : Array Value) : laidMetH Tryd.prog [("bolthole/isa.operators", Rows.laid_bolthole_isa_operators), ("bolthole/isa.shapes", Rows.laid_bolthole_isa_shapes)] ((World.doorLaid Tryd.prog 69 os).forCall (fun _ _ => 0) ⟨#[], args, []⟩).memory :=
  laidMetH_of_parts3 (fuel := 8) (laidMet_of_run' 8 (by kernel_rfl) (by kernel_rfl)) (by kernel_rfl) (by kernel_rfl)
theorem array6 {α : Type} {cs : Array α} (h : cs.size = 6) : ∃ c0 c1 c2 c3 c4 c5, cs = #[c0, c1, c2, c3, c4, c5] := by
  obtain ⟨l⟩ := cs
  match l, h with
  | [c0, c1, c2, c3, c4, c5], _ => exact ⟨c0, c1, c2, c3, c4, c5, rfl⟩
section
variable {H : Type} {enc : TypeId × Value → H} {w : World} {base : Nat} {spare : Nat → Bool} {held : Bool}
theorem six {cs : List Value} {x : DataW H × List MemPlace} {fuel : Nat} (h : DataW.trod enc Tryd.prog w base spare held fuel 61 cs = some x) :
    ∃ y0 y1 y2 y3 y4 y5 n, x = (.agg [y0.1, y1.1, y2.1, y3.1, y4.1, y5.1], y0.2 ++ (y1.2 ++ (y2.2 ++ (y3.2 ++ (y4.2 ++ y5.2))))) ∧
      DataW.trod enc Tryd.prog w base spare held n 3 ((cs.drop 0).take 1) = some y0 ∧ DataW.trod enc Tryd.prog w base spare held n 3 ((cs.drop 1).take 1) = some y1 ∧
      DataW.trod enc Tryd.prog w base spare held n 3 ((cs.drop 2).take 1) = some y2 ∧ DataW.trod enc Tryd.prog w base spare held n 3 ((cs.drop 3).take 1) = some y3 ∧
      DataW.trod enc Tryd.prog w base spare held n 3 ((cs.drop 4).take 1) = some y4 ∧ DataW.trod enc Tryd.prog w base spare held n 4 ((cs.drop 5).take 1) = some y5 := by
  obtain ⟨xs, n, _, rfl, hl, hlen, hf⟩ := DataW.trod_struct Tryd.underlying61 h
  match xs, hlen with
  | [y0, y1, y2, y3, y4, y5], _ => exact ⟨y0, y1, y2, y3, y4, y5, n, by simp, hf 0 _ rfl, hf 1 _ rfl, hf 2 _ rfl, hf 3 _ rfl, hf 4 _ rfl, hf 5 _ rfl⟩
/-- An Instr that came in, opened: its numbers. -/
theorem open_instr {r : Reach} {b0 : Nat} {v : Value} {x : DataW H} {p : List MemPlace} (hv : Value.okWide Tryd.prog w r b0 61 v) (h : DataW.Trod enc Tryd.prog w base spare held 61 v x p) :
    ∃ (k d a b n : Int) (l : Bool), v = .agg #[.int .i64 k, .int .i64 d, .int .i64 a, .int .i64 b, .int .i64 n, .bool l] ∧ x = .agg [.lit (.int .i64 k), .lit (.int .i64 d), .lit (.int .i64 a), .lit (.int .i64 b), .lit (.int .i64 n), .lit (.bool l)] ∧ p = [] ∧
      (Lit.int .i64 k).wf = true ∧ (Lit.int .i64 d).wf = true ∧ (Lit.int .i64 a).wf = true ∧ (Lit.int .i64 b).wf = true ∧ (Lit.int .i64 n).wf = true := by
  obtain ⟨cs, rfl, hsz⟩ := okWide_struct Tryd.underlying61 hv
  obtain ⟨c0, c1, c2, c3, c4, c5, rfl⟩ := array6 (hsz.trans cInstr)
  obtain ⟨fuel, hf⟩ := h
  obtain ⟨y0, y1, y2, y3, y4, y5, m, hx, f0, f1, f2, f3, f4, f5⟩ := six hf
  obtain ⟨k, e0, rfl, w0⟩ := DataW.trod_int Tryd.underlying3 f0
  obtain ⟨d, e1, rfl, w1⟩ := DataW.trod_int Tryd.underlying3 f1
  obtain ⟨a, e2, rfl, w2⟩ := DataW.trod_int Tryd.underlying3 f2
  obtain ⟨b, e3, rfl, w3⟩ := DataW.trod_int Tryd.underlying3 f3
  obtain ⟨n, e4, rfl, w4⟩ := DataW.trod_int Tryd.underlying3 f4
  obtain ⟨l, e5, rfl⟩ := DataW.trod_bool Tryd.underlying4 f5
  simp [Value.cells] at e0 e1 e2 e3 e4 e5
  subst e0 e1 e2 e3 e4 e5
  simp only [Prod.mk.injEq] at hx
  exact ⟨k, d, a, b, n, l, rfl, hx.1, by simpa using hx.2, w0, w1, w2, w3, w4⟩
/-- .. and shut. -/
theorem shut_instr {k d a b n : Int} {l : Bool} (w0 : (Lit.int .i64 k).wf = true) (w1 : (Lit.int .i64 d).wf = true) (w2 : (Lit.int .i64 a).wf = true) (w3 : (Lit.int .i64 b).wf = true) (w4 : (Lit.int .i64 n).wf = true) :
    DataW.Trod enc Tryd.prog w base spare held 61 (.agg #[.int .i64 k, .int .i64 d, .int .i64 a, .int .i64 b, .int .i64 n, .bool l]) (.agg [.lit (.int .i64 k), .lit (.int .i64 d), .lit (.int .i64 a), .lit (.int .i64 b), .lit (.int .i64 n), .lit (.bool l)]) [] := by
  refine ⟨2, ?_⟩
  have := trod_struct_mk (enc := enc) (w := w) (base := base) (spare := spare) (held := held) (n := 1) (cs := [.int .i64 k, .int .i64 d, .int .i64 a, .int .i64 b, .int .i64 n, .bool l])
    (xs := [(.lit (.int .i64 k), []), (.lit (.int .i64 d), []), (.lit (.int .i64 a), []), (.lit (.int .i64 b), []), (.lit (.int .i64 n), []), (.lit (.bool l), [])]) Tryd.underlying61 (by rw [cInstr]; rfl)
    (by simp [DataW.trod, cInt, show Tryd.prog.cellsOf 4 = 1 by kernel_rfl, Tryd.underlying3, Tryd.underlying4, w0, w1, w2, w3, w4])
  simpa [Value.cells] using this
end
end Go.Proofs.YtechpdfcgimkkaaDoor
/-
  More arguments, opened and shut: a Raw by value; a slice of bytes.
-/
set_option maxRecDepth 100000
namespace Go.Proofs.YtechpdfcgimkkaaDoor
open Go.ChangeShapes Go.WideShapes Go.ChangeAt Go.WideMaps Go.WideElems Go.RowKit Go.Joins Go.Deep Isa
theorem laidOut : laidOutB Tryd.prog = true := by kernel_rfl
theorem bd64 {x : Int} (h : (Lit.int .i64 x).wf = true) : -9223372036854775808 ≤ x ∧ x ≤ 9223372036854775807 := by
  simp [Lit.wf, IntKind.min, IntKind.max, IntKind.signed, IntKind.bits] at h
  omega
section
variable {H : Type} {enc : TypeId × Value → H} {w : World} {base : Nat} {spare : Nat → Bool} {held : Bool}
theorem open_text {r : Reach} {b0 : Nat} {v : Value} {x : DataW H} {p : List MemPlace} (hv : Value.okWide Tryd.prog w r b0 23 v) (h : DataW.Trod enc Tryd.prog w base spare held 23 v x p) :
    ∃ ns, TextAt w v ns := by
  obtain ⟨a, len, cap, rfl⟩ := okWide_slice Tryd.underlying23 hv
  obtain ⟨fuel, hf⟩ := h
  rcases open_ints Tryd.underlying23 Tryd.underlying5 cByte hf with ⟨hcs, _⟩ | ⟨y, l, c, zs, hcs, _, hl, hm, hz, _, hcell, hwz⟩
  · simp [Value.cells] at hcs
    obtain ⟨rfl, rfl, rfl⟩ := hcs
    exact ⟨[], by simp, Or.inl ⟨_, _, rfl, rfl⟩⟩
  · simp [Value.cells] at hcs
    obtain ⟨rfl, rfl, rfl⟩ := hcs
    have hzl : len ≤ zs.length := by rw [hz]; split <;> omega
    have hb : ∀ n ∈ zs, 0 ≤ n ∧ n ≤ 255 := fun n hn => by
      have := hwz n hn
      simp [Lit.wf, IntKind.min, IntKind.max, IntKind.signed, IntKind.bits] at this
      omega
    refine ⟨zs.take len, fun n hn => hb n (List.mem_of_mem_take hn), ?_⟩
    by_cases h0 : len = 0
    · subst h0; exact Or.inl ⟨_, _, rfl, by simp⟩
    obtain ⟨b, off, spot⟩ := y
    have hc := hcell 0 (by omega)
    have hspot : spot = none := by simpa [Addr.add] using World.cell?_spot hc
    subst hspot
    have hlen : (zs.take len).length = len := by rw [List.length_take]; omega
    refine Or.inr ⟨b, off, cap, by rw [hlen], by omega, hm, ?_, fun j n hj => ?_⟩
    · rcases Nat.lt_or_ge b w.heap.size with q | q
      · exact q
      · rw [Addr.add_lit] at hc
        simp [World.cell?, Array.getElem?_eq_none q] at hc
    · have hj' : j < len := by
        rcases Nat.lt_or_ge j len with q | q
        · exact q
        · rw [List.getElem?_eq_none (by omega)] at hj; cases hj
      have := hcell j (by omega)
      rw [Addr.add_lit] at this
      rw [this]
      rw [List.getElem?_take_of_lt hj'] at hj
      rw [List.getD_eq_getElem?_getD, hj]; rfl
theorem cRaw : Tryd.prog.cellsOf 116 = 4 := by kernel_rfl
/-- A Raw that came in, opened: its numbers. -/
theorem open_raw {r : Reach} {b0 : Nat} {v : Value} {x : DataW H} {p : List MemPlace} (hv : Value.okWide Tryd.prog w r b0 116 v) (h : DataW.Trod enc Tryd.prog w base spare held 116 v x p) :
    ∃ (k a b c : Int), v = .agg #[.int .i64 k, .int .i64 a, .int .i64 b, .int .i64 c] ∧ x = .agg [.lit (.int .i64 k), .lit (.int .i64 a), .lit (.int .i64 b), .lit (.int .i64 c)] ∧ p = [] ∧
      (Lit.int .i64 k).wf = true ∧ (Lit.int .i64 a).wf = true ∧ (Lit.int .i64 b).wf = true ∧ (Lit.int .i64 c).wf = true := by
  obtain ⟨c0, c1, c2, c3, y0, y1, y2, y3, m, rfl, rfl, rfl, f0, f1, f2, f3⟩ := open_agg4 Tryd.underlying116 (by kernel_rfl) cRaw hv h
  obtain ⟨k, e0, rfl, w0⟩ := DataW.trod_int Tryd.underlying3 f0
  obtain ⟨a, e1, rfl, w1⟩ := DataW.trod_int Tryd.underlying3 f1
  obtain ⟨b, e2, rfl, w2⟩ := DataW.trod_int Tryd.underlying3 f2
  obtain ⟨c, e3, rfl, w3⟩ := DataW.trod_int Tryd.underlying3 f3
  simp at e0 e1 e2 e3
  subst e0 e1 e2 e3
  exact ⟨k, a, b, c, rfl, rfl, by simp, w0, w1, w2, w3⟩
/-- .. and shut. -/
theorem shut_raw {k a b c : Int} (w0 : (Lit.int .i64 k).wf = true) (w1 : (Lit.int .i64 a).wf = true) (w2 : (Lit.int .i64 b).wf = true) (w3 : (Lit.int .i64 c).wf = true) :
    DataW.Trod enc Tryd.prog w base spare held 116 (.agg #[.int .i64 k, .int .i64 a, .int .i64 b, .int .i64 c]) (.agg [.lit (.int .i64 k), .lit (.int .i64 a), .lit (.int .i64 b), .lit (.int .i64 c)]) [] :=
  shut_agg4 (y0 := (.lit (.int .i64 k), [])) (y1 := (.lit (.int .i64 a), [])) (y2 := (.lit (.int .i64 b), [])) (y3 := (.lit (.int .i64 c), [])) Tryd.underlying116 (by kernel_rfl) cRaw
    ⟨1, by simp [DataW.trod, Tryd.underlying3, w0]⟩ ⟨1, by simp [DataW.trod, Tryd.underlying3, w1]⟩ ⟨1, by simp [DataW.trod, Tryd.underlying3, w2]⟩ ⟨1, by simp [DataW.trod, Tryd.underlying3, w3]⟩
end
end Go.Proofs.YtechpdfcgimkkaaDoor
/-
  From a row's condition on its five listed variables to what the walks of programs ask ('Tabs'); the wrap for such a row.
-/
set_option maxRecDepth 100000
namespace Go.Proofs.YtechpdfcgimkkaaDoor
open Go.ChangeShapes Go.WideShapes Go.ChangeAt Go.WideMaps Go.WideElems Go.RowKit Go.Joins Go.Deep Isa
/-- The list of a row on programs. -/
abbrev laid5 : List (String × DataW Unit) := [("math/bits.deBruijn32tab", Rows.laid_math_bits_deBruijn32tab), ("math/bits.deBruijn64tab", Rows.laid_math_bits_deBruijn64tab), ("internal/strconv.uint64pow10", Rows.laid_internal_strconv_uint64pow10), ("bolthole/isa.operators", Rows.laid_bolthole_isa_operators), ("bolthole/isa.shapes", Rows.laid_bolthole_isa_shapes)]
theorem tabs_of_laid5 {W : World} (h : laidMetH Tryd.prog laid5 W) : Tabs W := by
  refine tabs_of_laid ?_
  rw [MakeChecks.laidMetH_plain _ _ _ (by kernel_rfl)] at h
  rw [MakeChecks.laidMetH_plain _ _ _ (by kernel_rfl)]
  exact h.tail.tail.tail
/-- A start that meets the condition: all the listed variables laid. -/
theorem met5 (os : Os) (args : Array Value) : laidMetH Tryd.prog laid5 ((World.laidAll Tryd.prog os laid5).forCall (fun _ _ => 0) ⟨#[], args, []⟩).memory := by
  rw [MakeChecks.laidMetH_plain _ _ _ (by kernel_rfl)]
  exact laidMet_laidAll args (by kernel_rfl) (by kernel_rfl)
theorem shaped5 (os : Os) : (World.laidAll Tryd.prog os laid5).Shaped Tryd.prog := World.shaped_of_ZipB (by kernel_rfl) (by kernel_rfl)
end Go.Proofs.YtechpdfcgimkkaaDoor
/-
  A slice of Raws that came in, opened.
-/
set_option maxRecDepth 100000
namespace Go.Proofs.YtechpdfcgimkkaaDoor
open Go.ChangeShapes Go.WideShapes Go.ChangeAt Go.WideMaps Go.WideElems Go.RowKit Go.Joins Go.Deep Isa
theorem rwOk {k a b c : Int} (w0 : (Lit.int .i64 k).wf = true) (w1 : (Lit.int .i64 a).wf = true) (w2 : (Lit.int .i64 b).wf = true) (w3 : (Lit.int .i64 c).wf = true) : Rw.ok ⟨k, a, b, c⟩ :=
  ⟨(bd64 w0).1, (bd64 w0).2, (bd64 w1).1, (bd64 w1).2, (bd64 w2).1, (bd64 w2).2, (bd64 w3).1, (bd64 w3).2⟩
section
variable {H : Type} {enc : TypeId × Value → H} {w : World} {base : Nat} {spare : Nat → Bool} {held : Bool}
theorem open_raws {r : Reach} {b0 : Nat} {v : Value} {x : DataW H} {p : List MemPlace} (hv : Value.okWide Tryd.prog w r b0 22 v) (h : DataW.Trod enc Tryd.prog w base spare held 22 v x p) :
    ∃ rs, RawsAt w v rs := by
  obtain ⟨a, len, cap, rfl⟩ := okWide_slice Tryd.underlying22 hv
  obtain ⟨fuel, hf⟩ := h
  rcases DataW.trod_slice Tryd.underlying22 hf with ⟨hcs, _⟩ | ⟨y, l, c, elems, rest, n, _, hcs, _, hb, hl, hm, hlen, hel, _, _⟩
  · simp [Value.cells] at hcs
    obtain ⟨rfl, rfl, rfl⟩ := hcs
    exact ⟨[], ⟨fun _ h => (by cases h), Or.inl ⟨_, _, rfl, rfl⟩⟩⟩
  · simp [Value.cells] at hcs
    obtain ⟨rfl, rfl, rfl⟩ := hcs
    rw [cRaw] at hel
    have each : ∀ i, i < len → ∃ r : Rw, r.ok ∧ w.cell? ((y.add (i * 4)).add 0) = some (.int .i64 r.K) ∧ w.cell? ((y.add (i * 4)).add 1) = some (.int .i64 r.A) ∧ w.cell? ((y.add (i * 4)).add 2) = some (.int .i64 r.B) ∧ w.cell? ((y.add (i * 4)).add 3) = some (.int .i64 r.C) := by
      intro i hi
      have he := hel i hi
      rw [List.getElem?_eq_getElem (by omega), Option.bind_eq_some_iff] at he
      obtain ⟨cs, hcs, ht⟩ := he
      obtain ⟨_, hl4, hc⟩ := World.cells?_some hcs
      obtain ⟨y0, y1, y2, y3, n', _, _, t0, t1, t2, t3⟩ := trod_struct4 Tryd.underlying116 ht
      match cs, hl4 with
      | [c0, c1, c2, c3], _ =>
        simp only [cInt] at t0 t1 t2 t3
        obtain ⟨k, e0, _, w0⟩ := DataW.trod_int Tryd.underlying3 t0
        obtain ⟨a, e1, _, w1⟩ := DataW.trod_int Tryd.underlying3 t1
        obtain ⟨b, e2, _, w2⟩ := DataW.trod_int Tryd.underlying3 t2
        obtain ⟨c, e3, _, w3⟩ := DataW.trod_int Tryd.underlying3 t3
        simp at e0 e1 e2 e3
        subst e0 e1 e2 e3
        exact ⟨⟨k, a, b, c⟩, rwOk w0 w1 w2 w3, hc 0 (by decide), hc 1 (by decide), hc 2 (by decide), hc 3 (by decide)⟩
    obtain ⟨f, hf'⟩ : ∃ f : Nat → Rw, ∀ i, i < len → (f i).ok ∧ w.cell? ((y.add (i * 4)).add 0) = some (.int .i64 (f i).K) ∧ w.cell? ((y.add (i * 4)).add 1) = some (.int .i64 (f i).A) ∧ w.cell? ((y.add (i * 4)).add 2) = some (.int .i64 (f i).B) ∧ w.cell? ((y.add (i * 4)).add 3) = some (.int .i64 (f i).C) := by
      refine ⟨fun i => if h : i < len then Classical.choose (each i h) else ⟨0, 0, 0, 0⟩, fun i h => ?_⟩
      simp only [dif_pos h]
      exact Classical.choose_spec (each i h)
    have hlen2 : ((List.range len).map f).length = len := by simp
    refine ⟨(List.range len).map f, fun r hr => ?_, ?_⟩
    · obtain ⟨i, hi, rfl⟩ := List.mem_map.1 hr
      exact (hf' i (List.mem_range.1 hi)).1
    by_cases h0 : len = 0
    · subst h0; exact Or.inl ⟨_, _, rfl, by simp⟩
    obtain ⟨b, off, spot⟩ := y
    have hc := (hf' 0 (by omega)).2.1
    have hspot : spot = none := by simpa [Addr.add] using World.cell?_spot hc
    subst hspot
    refine Or.inr ⟨b, off, cap, by rw [hlen2], by omega, hm, ?_, fun j r hj => ?_⟩
    · rcases Nat.lt_or_ge b w.heap.size with q | q
      · exact q
      · rw [Addr.add_lit, Addr.add_lit] at hc
        simp [World.cell?, Array.getElem?_eq_none q] at hc
    · have hj' : j < len := by
        rcases Nat.lt_or_ge j len with q | q
        · exact q
        · rw [List.getElem?_eq_none (by omega)] at hj; cases hj
      obtain ⟨_, q0, q1, q2, q3⟩ := hf' j hj'
      rw [Addr.add_lit, Addr.add_lit] at q0 q1 q2 q3
      simp [hj'] at hj
      subst hj
      exact ⟨q0, q1, q2, q3⟩
end
end Go.Proofs.YtechpdfcgimkkaaDoor
/-
  Lists that came in, opened: what every kind of element needs.
-/
namespace Go.Proofs.YtechpdfcgimkkaaDoor
open Go.ChangeShapes Go.WideShapes Go.ChangeAt Go.WideMaps Go.WideElems Go.RowKit Go.Joins Go.Deep
theorem jOwn : ownKnob Tryd.prog.godebug = none := by kernel_rfl
theorem jLaid : laidOutB Tryd.prog = true := by kernel_rfl
theorem jInt : Tryd.prog.cellsOf 3 = 1 := by kernel_rfl
theorem wInt : Program.bytesOf Tryd.prog 3 = 8 := by kernel_rfl
theorem wf64 {x : Int} (h : (Lit.int .i64 x).wf = true) : i64 x := by
  simp [Lit.wf, IntKind.min, IntKind.max, IntKind.signed, IntKind.bits] at h
  unfold i64
  omega
theorem wf8 {x : Int} (h : (Lit.int .u8 x).wf = true) : 0 ≤ x ∧ x ≤ 255 := by
  simp [Lit.wf, IntKind.min, IntKind.max, IntKind.signed, IntKind.bits] at h
  omega
section
variable {H : Type} {enc : TypeId × Value → H} {w : World} {base : Nat} {spare : Nat → Bool} {held : Bool}
theorem open_list {α : Type} (cells : α → List Value) (ok : α → Prop) {S T : TypeId} {sz fuel : Nat} {v : Value} {x : DataW H × List MemPlace} (hU : Tryd.prog.underlying S = some (.slice T)) (hC : Tryd.prog.cellsOf T = sz) (hp : 0 < sz) (hlc : ∀ a, (cells a).length = sz)
    (each : ∀ n cs x, cs.length = sz → DataW.trod enc Tryd.prog w base spare held n T cs = some x → ∃ a, ok a ∧ cells a = cs)
    (h : DataW.trod enc Tryd.prog w base spare held fuel S [v] = some x) : ∃ xs : List α, (∀ x ∈ xs, ok x) ∧ ListAt w cells sz v xs := by
  rcases DataW.trod_slice hU h with ⟨hcs, _⟩ | ⟨y, len, cap, elems, rest, n, _, hcs, _, hb, hl, hm, hlen, hel, _, _⟩
  · obtain rfl := List.head_eq_of_cons_eq hcs
    exact ⟨[], fun _ h => (by cases h), Or.inl ⟨_, _, rfl, rfl⟩⟩
  · obtain rfl := List.head_eq_of_cons_eq hcs
    rw [hC] at hel
    have each' : ∀ i, i < len → ∃ a, ok a ∧ ∀ o u, (cells a)[o]? = some u → w.cell? ((y.add (i * sz)).add o) = some u := by
      intro i hi
      have he := hel i hi
      rw [List.getElem?_eq_getElem (by omega), Option.bind_eq_some_iff] at he
      obtain ⟨cs, hcs, ht⟩ := he
      obtain ⟨_, hl4, hc⟩ := World.cells?_some hcs
      obtain ⟨a, ha, rfl⟩ := each n cs _ hl4 ht
      refine ⟨a, ha, fun o u hu => ?_⟩
      have ho : o < sz := by
        rcases Nat.lt_or_ge o sz with q | q
        · exact q
        · rw [List.getElem?_eq_none (by omega)] at hu; cases hu
      rw [hc o ho, hu]
    obtain ⟨f, hf'⟩ : ∃ f : Fin len → α, ∀ i, ok (f i) ∧ ∀ o u, (cells (f i))[o]? = some u → w.cell? ((y.add (i.1 * sz)).add o) = some u :=
      ⟨fun i => Classical.choose (each' i.1 i.2), fun i => Classical.choose_spec (each' i.1 i.2)⟩
    refine ⟨List.ofFn f, fun r hr => ?_, ?_⟩
    · obtain ⟨i, rfl⟩ := (List.mem_ofFn ..).1 hr
      exact (hf' i).1
    by_cases h0 : len = 0
    · subst h0; exact Or.inl ⟨_, _, rfl, by simp⟩
    obtain ⟨b, off, spot⟩ := y
    have hfirst : ∃ u, (cells (f ⟨0, by omega⟩))[0]? = some u := ⟨_, List.getElem?_eq_getElem (by rw [hlc]; exact hp)⟩
    obtain ⟨u0, hu0⟩ := hfirst
    have hc := (hf' ⟨0, by omega⟩).2 0 u0 hu0
    have hspot : spot = none := by simpa [Addr.add] using World.cell?_spot hc
    subst hspot
    refine Or.inr ⟨b, off, cap, by rw [List.length_ofFn], by rw [List.length_ofFn]; omega, hm, ?_, fun j r hj o u hu => ?_⟩
    · rcases Nat.lt_or_ge b w.heap.size with q | q
      · exact q
      · rw [Addr.add_lit, Addr.add_lit] at hc
        simp [World.cell?, Array.getElem?_eq_none q] at hc
    · have hj' : j < len := by
        rcases Nat.lt_or_ge j len with q | q
        · exact q
        · rw [List.getElem?_eq_none (by rw [List.length_ofFn]; omega)] at hj; cases hj
      rw [List.getElem?_ofFn, dif_pos hj'] at hj
      obtain rfl := Option.some.inj hj
      have q := (hf' ⟨j, hj'⟩).2 o u hu
      rwa [Addr.add_lit, Addr.add_lit] at q
theorem jone_of {cs : List Value} (h : cs.length = 1) : ∃ c, cs = [c] := by
  match cs, h with
  | [c], _ => exact ⟨c, rfl⟩
theorem slice_fits {S T : TypeId} {fuel len cap R : Nat} {a : Option Addr} {x : DataW H × List MemPlace} (hU : Tryd.prog.underlying S = some (.slice T)) (h : DataW.trod enc Tryd.prog w base spare held fuel S [.slice a len cap] = some x)
    (hw : ∀ n ∈ x.1.weights Tryd.prog S, n ≤ R) : len * Tryd.prog.bytesOf T ≤ R := by
  rcases DataW.trod_slice hU h with ⟨hcs, _⟩ | ⟨y, l, c, elems, rest, n, _, hcs, rfl, hb, hl, hm, hlen, hel, _, _⟩
  · cases hcs; simp
  · cases hcs
    have := hw ((elems.length + rest.length) * Tryd.prog.bytesOf T) (by simp [DataW.weights, hU])
    exact Nat.le_trans (Nat.mul_le_mul_right _ (by omega)) this
theorem weightsAll_mem {e : TypeId} : ∀ {ds : List (DataW H)} {j : Nat} {d : DataW H}, ds[j]? = some d → ∀ n ∈ d.weights Tryd.prog e, n ∈ DataW.weightsAll Tryd.prog e ds
  | d0 :: ds, 0, d, hd, n, hn => by
    simp only [List.getElem?_cons_zero, Option.some.injEq] at hd
    subst hd
    simp only [DataW.weightsAll, List.mem_append]
    exact Or.inl hn
  | d0 :: ds, j + 1, d, hd, n, hn => by
    simp only [List.getElem?_cons_succ] at hd
    simp only [DataW.weightsAll, List.mem_append]
    exact Or.inr (weightsAll_mem hd n hn)
  | [], _, _, hd, _, _ => by simp at hd
end
end Go.Proofs.YtechpdfcgimkkaaDoor
/-
  A slice of numbers that came in, opened.
-/
set_option maxRecDepth 100000
namespace Go.Proofs.YtechpdfcgimkkaaDoor
open Go.ChangeShapes Go.WideShapes Go.ChangeAt Go.WideMaps Go.WideElems Go.RowKit Go.Joins Go.Deep
section
variable {H : Type} {enc : TypeId × Value → H} {w : World} {base : Nat} {spare : Nat → Bool} {held : Bool}
theorem open_nums {r : Reach} {b0 : Nat} {v : Value} {x : DataW H} {p : List MemPlace} (hv : Value.okWide Tryd.prog w r b0 26 v) (h : DataW.Trod enc Tryd.prog w base spare held 26 v x p) :
    ∃ xs : List Int, ListAt w icell 1 v xs ∧ ∀ x ∈ xs, i64 x := by
  obtain ⟨a, len, cap, rfl⟩ := okWide_slice Tryd.underlying26 hv
  obtain ⟨fuel, hf⟩ := h
  obtain ⟨xs, h1, h2⟩ := open_list icell i64 Tryd.underlying26 jInt (by decide) (fun _ => rfl) (fun n cs x hl ht => by
    match cs, hl with
    | [c], _ =>
      obtain ⟨k, e, _, hw⟩ := DataW.trod_int Tryd.underlying3 ht
      exact ⟨k, wf64 hw, e.symm⟩) (show DataW.trod enc Tryd.prog w base spare held fuel 26 [.slice a len cap] = some (x, p) from hf)
  exact ⟨xs, h2, h1⟩
end
end Go.Proofs.YtechpdfcgimkkaaDoor
