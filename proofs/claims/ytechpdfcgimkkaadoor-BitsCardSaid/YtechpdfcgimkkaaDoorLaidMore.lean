/-
  More arguments, opened and shut: a Raw by value; a slice of bytes.
-/
import Derived.Test.YtechpdfcgimkkaaDoorLaid
import Derived.Test.YtechpdfcgimkkaaDoorWalkDec
import Derived.ShutString
import Derived.ChangeOld
set_option maxRecDepth 100000
namespace Go.Proofs.YtechpdfcgimkkaaDoor
open Go.ChangeShapes Go.WideShapes Go.ChangeAt Go.WideMaps Go.WideElems Go.RowKit Go.Joins Go.Deep Isa
theorem laidOut : laidOutB Tryd.prog = true := by kernel_rfl
theorem bd64 {x : Int} (h : (Lit.int .i64 x).wf = true) : -9223372036854775808 ≤ x ∧ x ≤ 9223372036854775807 := by
  simp [Lit.wf, IntKind.min, IntKind.max, IntKind.signed, IntKind.bits] at h
  omega
section
variable {H : Type} {enc : TypeId × Value → H} {w : World} {base : Nat} {spare : Nat → Bool} {held : Bool}
theorem open_text {r : Reach} {b0 : Nat} {v : Value} {x : DataW H} {p : List MemPlace} (hv : Value.okWide Tryd.prog w r b0 23 v) (h : DataW.Trod enc Tryd.prog w base spare held 23 v x p) :
    ∃ ns, TextAt w v ns := by
  obtain ⟨a, len, cap, rfl⟩ := okWide_slice Tryd.underlying23 hv
  obtain ⟨fuel, hf⟩ := h
  rcases open_ints Tryd.underlying23 Tryd.underlying5 cByte hf with ⟨hcs, _⟩ | ⟨y, l, c, zs, hcs, _, hl, hm, hz, _, hcell, hwz⟩
  · simp [Value.cells] at hcs
    obtain ⟨rfl, rfl, rfl⟩ := hcs
    exact ⟨[], by simp, Or.inl ⟨_, _, rfl, rfl⟩⟩
  · simp [Value.cells] at hcs
    obtain ⟨rfl, rfl, rfl⟩ := hcs
    have hzl : len ≤ zs.length := by rw [hz]; split <;> omega
    have hb : ∀ n ∈ zs, 0 ≤ n ∧ n ≤ 255 := fun n hn => by
      have := hwz n hn
      simp [Lit.wf, IntKind.min, IntKind.max, IntKind.signed, IntKind.bits] at this
      omega
    refine ⟨zs.take len, fun n hn => hb n (List.mem_of_mem_take hn), ?_⟩
    by_cases h0 : len = 0
    · subst h0; exact Or.inl ⟨_, _, rfl, by simp⟩
    obtain ⟨b, off, spot⟩ := y
    have hc := hcell 0 (by omega)
    have hspot : spot = none := by simpa [Addr.add] using World.cell?_spot hc
    subst hspot
    have hlen : (zs.take len).length = len := by rw [List.length_take]; omega
    refine Or.inr ⟨b, off, cap, by rw [hlen], by omega, hm, ?_, fun j n hj => ?_⟩
    · rcases Nat.lt_or_ge b w.heap.size with q | q
      · exact q
      · rw [Addr.add_lit] at hc
        simp [World.cell?, Array.getElem?_eq_none q] at hc
    · have hj' : j < len := by
        rcases Nat.lt_or_ge j len with q | q
        · exact q
        · rw [List.getElem?_eq_none (by omega)] at hj; cases hj
      have := hcell j (by omega)
      rw [Addr.add_lit] at this
      rw [this]
      rw [List.getElem?_take_of_lt hj'] at hj
      rw [List.getD_eq_getElem?_getD, hj]; rfl
theorem cRaw : Tryd.prog.cellsOf 116 = 4 := by kernel_rfl
/-- A Raw that came in, opened: its numbers. -/
theorem open_raw {r : Reach} {b0 : Nat} {v : Value} {x : DataW H} {p : List MemPlace} (hv : Value.okWide Tryd.prog w r b0 116 v) (h : DataW.Trod enc Tryd.prog w base spare held 116 v x p) :
    ∃ (k a b c : Int), v = .agg #[.int .i64 k, .int .i64 a, .int .i64 b, .int .i64 c] ∧ x = .agg [.lit (.int .i64 k), .lit (.int .i64 a), .lit (.int .i64 b), .lit (.int .i64 c)] ∧ p = [] ∧
      (Lit.int .i64 k).wf = true ∧ (Lit.int .i64 a).wf = true ∧ (Lit.int .i64 b).wf = true ∧ (Lit.int .i64 c).wf = true := by
  obtain ⟨c0, c1, c2, c3, y0, y1, y2, y3, m, rfl, rfl, rfl, f0, f1, f2, f3⟩ := open_agg4 Tryd.underlying116 (by kernel_rfl) cRaw hv h
  obtain ⟨k, e0, rfl, w0⟩ := DataW.trod_int Tryd.underlying3 f0
  obtain ⟨a, e1, rfl, w1⟩ := DataW.trod_int Tryd.underlying3 f1
  obtain ⟨b, e2, rfl, w2⟩ := DataW.trod_int Tryd.underlying3 f2
  obtain ⟨c, e3, rfl, w3⟩ := DataW.trod_int Tryd.underlying3 f3
  simp at e0 e1 e2 e3
  subst e0 e1 e2 e3
  exact ⟨k, a, b, c, rfl, rfl, by simp, w0, w1, w2, w3⟩
/-- .. and shut. -/
theorem shut_raw {k a b c : Int} (w0 : (Lit.int .i64 k).wf = true) (w1 : (Lit.int .i64 a).wf = true) (w2 : (Lit.int .i64 b).wf = true) (w3 : (Lit.int .i64 c).wf = true) :
    DataW.Trod enc Tryd.prog w base spare held 116 (.agg #[.int .i64 k, .int .i64 a, .int .i64 b, .int .i64 c]) (.agg [.lit (.int .i64 k), .lit (.int .i64 a), .lit (.int .i64 b), .lit (.int .i64 c)]) [] :=
  shut_agg4 (y0 := (.lit (.int .i64 k), [])) (y1 := (.lit (.int .i64 a), [])) (y2 := (.lit (.int .i64 b), [])) (y3 := (.lit (.int .i64 c), [])) Tryd.underlying116 (by kernel_rfl) cRaw
    ⟨1, by simp [DataW.trod, Tryd.underlying3, w0]⟩ ⟨1, by simp [DataW.trod, Tryd.underlying3, w1]⟩ ⟨1, by simp [DataW.trod, Tryd.underlying3, w2]⟩ ⟨1, by simp [DataW.trod, Tryd.underlying3, w3]⟩
end
end Go.Proofs.YtechpdfcgimkkaaDoor
