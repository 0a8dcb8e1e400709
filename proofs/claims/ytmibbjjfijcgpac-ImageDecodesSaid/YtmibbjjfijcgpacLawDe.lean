/-
  The call of boltholelaw.ImageDecodes returns true at all bytes.
-/
import Derived.Test.YtmibbjjfijcgpacWalkOf
import Derived.Test.YtmibbjjfijcgpacWalkSm
namespace Go.Proofs.Ytmibbjjfijcgpac
open Go.RowKit Go.Joins
set_option maxHeartbeats 1000000 in
theorem joctets_any (w : World) (v : Value) (ns : List Int) (hT : ListAt w ucell 1 v ns) (h47 : ns.length ≤ 140737488351232) :
    Calls Try.prog 16 #[v] w fun e w' => ∃ v', e = .returned v' ∧ ListAt w' ucell 1 v' ns ∧ Below w.heap.size w w' := by
  obtain ⟨a, n, c, W, hr, hT', hb, _⟩ := tp_app w v ns hT h47 22
  have HR : Hid _ := hr
  clear hr
  go_enter Try.func16, Try.ntmps16
  go_wp2_with (at_builtin; refine wpList_append_two _ rfl (.const (.slice none 0 0)) (.tmp 3) 22 22 rfl _ _ rfl rfl HR.out ?_)
  go_ret
  exact ⟨_, rfl, hT', hb⟩
def noImg : Img := ⟨[], [], [], [], [], 0⟩
theorem noImg_at (w : World) : ImgAt w (.slice none 0 0) (.slice none 0 0) (.slice none 0 0) (.slice none 0 0) (.slice none 0 0) noImg :=
  ⟨Or.inl ⟨_, _, rfl, rfl⟩, Or.inl ⟨_, _, rfl, rfl⟩, ⟨[], Or.inl ⟨_, _, rfl, rfl⟩, rfl, fun j u t hu => by simp at hu⟩, Or.inl ⟨_, _, rfl, rfl⟩, Or.inl ⟨_, _, rfl, rfl⟩⟩
/-- What both calls answer: the same error, and the same image. -/
theorem both_way {e : Ending} {w w' : World} {bs : List Int}
    (h : (decErr bs ≠ 0 ∧ e = .returned (.tuple #[.agg #[.slice none 0 0, .slice none 0 0, .slice none 0 0, .slice none 0 0, .slice none 0 0, .int .i64 0], .int .i64 (decErr bs)]) ∧ Below w.heap.size w w') ∨
      (decErr bs = 0 ∧ ∃ vT vF vB vD vL, e = .returned (.tuple #[.agg #[vT, vF, vB, vD, vL, .int .i64 (decImg bs).entry], .int .i64 0]) ∧ ImgAt w' vT vF vB vD vL (decImg bs) ∧ Below w.heap.size w w')) :
    ∃ (aT aF aB aD aL : Option Addr) (lT lF lB lD lL cT cF cB cD cL : Nat), e = .returned (.tuple #[.agg #[.slice aT lT cT, .slice aF lF cF, .slice aB lB cB, .slice aD lD cD, .slice aL lL cL, .int .i64 (if decErr bs = 0 then decImg bs else noImg).entry], .int .i64 (decErr bs)]) ∧ ImgAt w' (.slice aT lT cT) (.slice aF lF cF) (.slice aB lB cB) (.slice aD lD cD) (.slice aL lL cL) (if decErr bs = 0 then decImg bs else noImg) ∧ Below w.heap.size w w' := by
  rcases h with ⟨h1, h2, h3⟩ | ⟨h1, vT, vF, vB, vD, vL, h2, h3, h4⟩
  · rw [if_neg h1]
    exact ⟨none, none, none, none, none, 0, 0, 0, 0, 0, 0, 0, 0, 0, 0, h2, noImg_at _, h3⟩
  · rw [if_pos h1, h1]
    obtain ⟨aT, cT, rfl, _⟩ := h3.text.form
    obtain ⟨aF, cF, rfl, _⟩ := h3.funcs.form
    obtain ⟨aD, cD, rfl, _⟩ := h3.data.form
    obtain ⟨aL, cL, rfl, _⟩ := h3.lines.form
    obtain ⟨vs, hB, _, _⟩ := h3.tables
    obtain ⟨aB, cB, rfl, _⟩ := hB.form
    exact ⟨_, _, _, _, _, _, _, _, _, _, _, _, _, _, _, h2, h3, h4⟩
set_option maxRecDepth 100000 in
set_option maxHeartbeats 4000000 in
theorem decodes_whole (v : Value) (bs : List Int) (w : World) (h : ListAt w ucell 1 v bs) (hb : ∀ x ∈ bs, 0 ≤ x ∧ x ≤ 255) (hz : bs.length ≤ 140737488351232) :
    Calls Try.prog 6 #[v] w fun e w' => e = .returned (.bool true) ∧ Below w.heap.size w w' := by
  have HL : Hid (ListAt w ucell 1 v bs) := h
  have HB : Hid (∀ x ∈ bs, 0 ≤ x ∧ x ≤ 255) := hb
  clear h hb
  go_enter Try.func6, Try.ntmps6
  go_wp2_with fail
  refine (joctets_any w v bs HL.out hz).mono ?_
  rintro e w1 ⟨v1, rfl, hl1, hb1⟩
  have B1 : Hid (Below w.heap.size w w1) := hb1
  have HL1 : Hid (ListAt w1 ucell 1 v1 bs) := hl1
  clear hb1 hl1
  go_wp2_with fail
  refine (decode_any v1 bs w1 HL1.out HB.out).mono ?_
  intro e w2 h2
  obtain ⟨aT, aF, aB, aD, aL, lT, lF, lB, lD, lL, cT, cF, cB, cD, cL, rfl, hI, hb2⟩ := both_way h2
  have B2 : Hid (Below w.heap.size w w2) := B1.out.trans (hb2.mono B1.out.size)
  have HI : Hid (ImgAt w2 (.slice aT lT cT) (.slice aF lF cF) (.slice aB lB cB) (.slice aD lD cD) (.slice aL lL cL) (if decErr bs = 0 then decImg bs else noImg)) := hI
  have HOF : Hid (∀ wz, ListAt wz ucell 1 v bs → Calls Try.prog 17 #[v] wz fun e w' => ∃ (aT aF aB aD aL : Option Addr) (lT lF lB lD lL cT cF cB cD cL : Nat), e = .returned (.tuple #[.agg #[.slice aT lT cT, .slice aF lF cF, .slice aB lB cB, .slice aD lD cD, .slice aL lL cL, .int .i64 (if decErr bs = 0 then decImg bs else noImg).entry], .int .i64 (decErr bs)]) ∧ ImgAt w' (.slice aT lT cT) (.slice aF lF cF) (.slice aB lB cB) (.slice aD lD cD) (.slice aL lL cL) (if decErr bs = 0 then decImg bs else noImg) ∧ Below wz.heap.size wz w') := fun wz hz => (imageOf_any v bs wz hz HB.out).mono fun e w' h => both_way h
  clear h2 hI hb2
  generalize (if decErr bs = 0 then decImg bs else noImg) = m at *
  generalize decErr bs = z at *
  obtain ⟨W3, hW3⟩ : ∃ W3, w2.alloc (.cells #[.slice aT lT cT, .slice aF lF cF, .slice aB lB cB, .slice aD lD cD, .slice aL lL cL, .int .i64 m.entry] 28) = W3 := ⟨_, rfl⟩
  have b3 : Below w2.heap.size w2 W3 := by rw [← hW3]; exact (Below.refl _ _).alloc (Nat.le_refl _) _
  have KB : Hid (W3.heap[w2.heap.size]? = some (.cells #[.slice aT lT cT, .slice aF lF cF, .slice aB lB cB, .slice aD lD cD, .slice aL lL cL, .int .i64 m.entry] 28)) := by show _ = _; rw [← hW3]; exact a_new _ _
  have z3 : w2.heap.size < W3.heap.size := by rw [← hW3]; simp
  have B3 : Hid (Below w.heap.size w W3) := B2.out.trans (b3.mono B2.out.size)
  have I3 : Hid (ImgAt W3 (.slice aT lT cT) (.slice aF lF cF) (.slice aB lB cB) (.slice aD lD cD) (.slice aL lL cL) m) := HI.out.stays (Nat.le_refl _) b3
  have HW3 : Hid _ := hW3
  clear b3 HI hW3
  go_wp2_with fail
  try rw [HW3.out]
  clear HW3
  refine (HOF.out W3 (HL.out.stays (Nat.le_refl _) B3.out)).mono ?_
  rintro e w4 ⟨pT, pF, pB, pD, pL, mT, mF, mB, mD, mL, qT, qF, qB, qD, qL, rfl, hJ, hb4⟩
  have B4 : Hid (Below w.heap.size w w4) := B3.out.trans (hb4.mono B3.out.size)
  have I4 : Hid _ := I3.out.stays (Nat.le_refl _) hb4
  have J4 : Hid _ := hJ
  have KB4 := (hb4.block _ z3).trans KB.out
  have k0 : w4.cell? ⟨w2.heap.size, 0, none⟩ = some (.slice aT lT cT) := by simp [World.cell?, KB4]
  have k1 : w4.cell? ⟨w2.heap.size, 1, none⟩ = some (.slice aF lF cF) := by simp [World.cell?, KB4]
  have k2 : w4.cell? ⟨w2.heap.size, 2, none⟩ = some (.slice aB lB cB) := by simp [World.cell?, KB4]
  have k3 : w4.cell? ⟨w2.heap.size, 3, none⟩ = some (.slice aD lD cD) := by simp [World.cell?, KB4]
  have k4 : w4.cell? ⟨w2.heap.size, 4, none⟩ = some (.slice aL lL cL) := by simp [World.cell?, KB4]
  have k5 : w4.cell? ⟨w2.heap.size, 5, none⟩ = some (.int .i64 m.entry) := by simp [World.cell?, KB4]
  have z4 : w2.heap.size < w4.heap.size := by have := hb4.size; omega
  clear hb4 hJ KB4
  have b5 : Below w4.heap.size w4 (w4.alloc (.cells #[.slice pT mT qT, .slice pF mF qF, .slice pB mB qB, .slice pD mD qD, .slice pL mL qL, .int .i64 m.entry] 28)) := (Below.refl _ _).alloc (Nat.le_refl _) _
  have I5 : Hid _ := I4.out.stays (Nat.le_refl _) b5
  have J5 : Hid _ := J4.out.stays (Nat.le_refl _) b5
  have B5 : Hid _ := B4.out.trans (b5.mono B4.out.size)
  clear b5
  go_wp2_with (go_at_call 11; refine (sameImage_any _ _ _ _ _ _ _ _ _ _ m _ I5.out J5.out).mono ?_; rintro e w5 ⟨rfl, hb5⟩)
  go_ret
  exact ⟨by simp, B5.out.trans (hb5.mono B5.out.size)⟩
end Go.Proofs.Ytmibbjjfijcgpac
