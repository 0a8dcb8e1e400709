/-
  The call of boltholelaw.ImageEncodes returns true at every image.
-/
import Derived.Test.YtmibbjjfijcgpacWalkEn
import Derived.Test.YtmibbjjfijcgpacWalkIb
import Derived.Test.YtmibbjjfijcgpacWalkIc
import Derived.Test.YtmibbjjfijcgpacWalkSm
namespace Go.Proofs.Ytmibbjjfijcgpac
open Go.RowKit Go.Joins
theorem encImg_len (m : Img) (h : May m) : (encImg m).length ≤ 100000 := by
  obtain ⟨s1, s2, s3, s4⟩ := sums m h
  have a1 := s1 m.funcs.length
  have a2 := s2 m.tables.length
  have a3 := s3 m.data.length
  have a4 := s4 m.lines.length
  rw [List.take_length] at a1 a2 a3 a4
  have a0 := h.text
  have e : magic.length = 4 := rfl
  unfold encImg
  simp only [List.length_append, be_len, e]
  omega
theorem conv_nil2 {w : World} : (convert 22 9 (.slice none 0 0)).run Try.prog w = .ok (.string ByteArray.empty) w := conv_list (ns := []) (Or.inl ⟨_, _, rfl, rfl⟩)
set_option maxRecDepth 100000 in
set_option maxHeartbeats 4000000 in
theorem encodes_whole (vT vF vB vD vL : Value) (m : Img) (w : World) (hI : ImgAt w vT vF vB vD vL m) (hok : m.ok) (hs : m.small) :
    Calls Try.prog 5 #[.agg #[vT, vF, vB, vD, vL, .int .i64 m.entry]] w fun e w' => e = .returned (.bool true) ∧ Below w.heap.size w w' := by
  have HI : Hid (ImgAt w vT vF vB vD vL m) := hI
  have HO : Hid m.ok := hok
  have HS : Hid m.small := hs
  clear hI hok hs
  go_enter Try.func5, Try.ntmps5
  go_wp2_with fail
  have b0 : Below w.heap.size w (w.alloc (.cells #[vT, vF, vB, vD, vL, .int .i64 m.entry] 28)) := (Below.refl _ _).alloc (Nat.le_refl _) _
  refine (icopy_any vT vF vB vD vL m _ (HI.out.stays (Nat.le_refl _) b0) HS.out).mono ?_
  rintro e w1 ⟨aT, aF, aB, aD, aL, rfl, hA, hb1⟩
  have x := jbelc hb1 w.heap.size
  have x0 := x 0 (by simp); have x1 := x 1 (by simp); have x2 := x 2 (by simp); have x3 := x 3 (by simp); have x4 := x 4 (by simp); have x5 := x 5 (by simp)
  simp at x0 x1 x2 x3 x4 x5
  have z1 : w.heap.size < w1.heap.size := by have := hb1.size; simp at this; omega
  have B1 : Hid (Below w.heap.size w w1) := b0.trans (hb1.mono (by simp))
  obtain ⟨pT, qT, rfl, _⟩ := hA.text.form
  obtain ⟨pF, qF, rfl, _⟩ := hA.funcs.form
  obtain ⟨pD, qD, rfl, _⟩ := hA.data.form
  obtain ⟨pL, qL, rfl, _⟩ := hA.lines.form
  obtain ⟨us, hB, hBl, _⟩ := hA.tables
  obtain ⟨pB, qB, rfl, _⟩ := hB.form
  clear hB hBl
  have HA : Hid (ImgAt w1 (.slice pT m.text.length qT) (.slice pF m.funcs.length qF) (.slice pB us.length qB) (.slice pD m.data.length qD) (.slice pL m.lines.length qL) m) := hA
  clear x hb1 b0 hA
  obtain ⟨W2, hW2⟩ : ∃ W2, w1.alloc (.cells #[.slice pT m.text.length qT, .slice pF m.funcs.length qF, .slice pB us.length qB, .slice pD m.data.length qD, .slice pL m.lines.length qL, .int .i64 m.entry] 28) = W2 := ⟨_, rfl⟩
  have b2 : Below w1.heap.size w1 W2 := by rw [← hW2]; exact (Below.refl _ _).alloc (Nat.le_refl _) _
  have z2 : W2.heap.size = w1.heap.size + 1 := by rw [← hW2]; simp
  have KB : Hid (W2.heap[w1.heap.size]? = some (.cells #[.slice pT m.text.length qT, .slice pF m.funcs.length qF, .slice pB us.length qB, .slice pD m.data.length qD, .slice pL m.lines.length qL, .int .i64 m.entry] 28)) := by show _ = _; rw [← hW2]; show (w1.heap.push _)[w1.heap.size]? = _; simp
  have B2 : Hid (Below w1.heap.size w1 W2) := b2
  have IA : Hid (∀ wz, Below w1.heap.size w1 wz → ImgAt wz (.slice pT m.text.length qT) (.slice pF m.funcs.length qF) (.slice pB us.length qB) (.slice pD m.data.length qD) (.slice pL m.lines.length qL) m) := fun wz hz => HA.out.stays (Nat.le_refl _) hz
  have IM : Hid (∀ wz, Below w1.heap.size w1 wz → ImgAt wz vT vF vB vD vL m) := fun wz hz => (HI.out.stays (Nat.le_refl _) B1.out).stays (Nat.le_refl _) hz
  have XM : Hid (∀ wz, Below w1.heap.size w1 wz → wz.cell? ⟨w.heap.size, 0, none⟩ = some vT ∧ wz.cell? ⟨w.heap.size, 1, none⟩ = some vF ∧ wz.cell? ⟨w.heap.size, 2, none⟩ = some vB ∧ wz.cell? ⟨w.heap.size, 3, none⟩ = some vD ∧ wz.cell? ⟨w.heap.size, 4, none⟩ = some vL ∧ wz.cell? ⟨w.heap.size, 5, none⟩ = some (.int .i64 m.entry)) := fun wz hz =>
    have q := fun o => hz.cell (p := ⟨w.heap.size, o, none⟩) z1
    ⟨(q 0).trans x0, (q 1).trans x1, (q 2).trans x2, (q 3).trans x3, (q 4).trans x4, (q 5).trans x5⟩
  have KC : Hid (∀ wz, Below W2.heap.size W2 wz → wz.heap[w1.heap.size]? = some (.cells #[.slice pT m.text.length qT, .slice pF m.funcs.length qF, .slice pB us.length qB, .slice pD m.data.length qD, .slice pL m.lines.length qL, .int .i64 m.entry] 28)) := fun wz hz => (hz.block _ (by omega)).trans KB.out
  have HW2 : Hid _ := hW2
  clear hW2 b2
  go_wp2_with fail
  rw [HW2.out]
  refine (encode_img _ _ _ _ _ m W2 (IA.out _ B2.out) HO.out).mono ?_
  rintro e w3 (⟨hc, rfl, hb3⟩ | ⟨hc, v3, rfl, ⟨B3, hB3, own3⟩, hb3⟩)
  all_goals
    have b3 : Below w1.heap.size w1 w3 := B2.out.trans (hb3.mono (by omega))
    have B3' : Hid (Below w1.heap.size w1 w3) := b3
    have HB3 : Hid (Below W2.heap.size W2 w3) := hb3
    obtain ⟨y0, y1, y2, y3, y4, y5⟩ := XM.out _ b3
    have hcc : Hid _ := hc
    clear b3 hb3 hc x0 x1 x2 x3 x4 x5
    go_wp2_with fail
    refine (bytes_img _ _ _ _ _ m w3 (IM.out _ B3'.out) HO.out).mono ?_
  · rintro e w4 (⟨hc4, rfl, hb4⟩ | ⟨hc4, _⟩)
    rotate_left
    · exact absurd hc4 hcc.out
    have b4 : Below w1.heap.size w1 w4 := B3'.out.trans (hb4.mono (by have := B3'.out.size; omega))
    have kb := KC.out _ (HB3.out.trans (hb4.mono HB3.out.size))
    have k0 : w4.cell? ⟨w1.heap.size, 0, none⟩ = some (.slice pT m.text.length qT) := by simp [World.cell?, kb]
    have k1 : w4.cell? ⟨w1.heap.size, 1, none⟩ = some (.slice pF m.funcs.length qF) := by simp [World.cell?, kb]
    have k2 : w4.cell? ⟨w1.heap.size, 2, none⟩ = some (.slice pB us.length qB) := by simp [World.cell?, kb]
    have k3 : w4.cell? ⟨w1.heap.size, 3, none⟩ = some (.slice pD m.data.length qD) := by simp [World.cell?, kb]
    have k4 : w4.cell? ⟨w1.heap.size, 4, none⟩ = some (.slice pL m.lines.length qL) := by simp [World.cell?, kb]
    have k5 : w4.cell? ⟨w1.heap.size, 5, none⟩ = some (.int .i64 m.entry) := by simp [World.cell?, kb]
    obtain ⟨x0, x1, x2, x3, x4, x5⟩ := XM.out _ b4
    have B4 : Hid (Below w1.heap.size w1 w4) := b4
    have cn := @conv_nil2 w4
    clear hc4 hb4 b4 kb hcc y0 y1 y2 y3 y4 y5
    go_wp2_with (go_at_call 11; refine (sameImage_any _ _ _ _ _ _ _ _ _ _ m _ (IA.out _ B4.out) (IM.out _ B4.out)).mono ?_; rintro e w5 ⟨rfl, hb5⟩)
    go_ret
    exact ⟨by simp, (B1.out.trans (B4.out.mono (by omega))).trans (hb5.mono (by have := B4.out.size; omega))⟩
  · rintro e w4 (⟨hc4, _⟩ | ⟨hc4, v4, rfl, ⟨B4', hB4', own4⟩, hb4⟩)
    · exact absurd hcc.out hc4
    have b4 : Below w1.heap.size w1 w4 := B3'.out.trans (hb4.mono (by have := B3'.out.size; omega))
    have hlen := encImg_len m (may_of m hcc.out).1
    have own34 : Own w4 B3 v3 (encImg m) := own3.same fun k hk => hb4.block k (by obtain ⟨_, _, _, hg⟩ := own3.block hk; exact (Array.getElem?_eq_some_iff.1 hg).1)
    have cn3 := conv_list (own34.list (by unfold maxLen; omega))
    have cn4 := conv_list (own4.list (by unfold maxLen; omega))
    have kb := KC.out _ (HB3.out.trans (hb4.mono HB3.out.size))
    have k0 : w4.cell? ⟨w1.heap.size, 0, none⟩ = some (.slice pT m.text.length qT) := by simp [World.cell?, kb]
    have k1 : w4.cell? ⟨w1.heap.size, 1, none⟩ = some (.slice pF m.funcs.length qF) := by simp [World.cell?, kb]
    have k2 : w4.cell? ⟨w1.heap.size, 2, none⟩ = some (.slice pB us.length qB) := by simp [World.cell?, kb]
    have k3 : w4.cell? ⟨w1.heap.size, 3, none⟩ = some (.slice pD m.data.length qD) := by simp [World.cell?, kb]
    have k4 : w4.cell? ⟨w1.heap.size, 4, none⟩ = some (.slice pL m.lines.length qL) := by simp [World.cell?, kb]
    have k5 : w4.cell? ⟨w1.heap.size, 5, none⟩ = some (.int .i64 m.entry) := by simp [World.cell?, kb]
    obtain ⟨x0, x1, x2, x3, x4, x5⟩ := XM.out _ b4
    have B4 : Hid (Below w1.heap.size w1 w4) := b4
    clear hc4 hb4 b4 kb hcc y0 y1 y2 y3 y4 y5 own3 own4 own34 hlen
    go_wp2_with (go_at_call 11; refine (sameImage_any _ _ _ _ _ _ _ _ _ _ m _ (IA.out _ B4.out) (IM.out _ B4.out)).mono ?_; rintro e w5 ⟨rfl, hb5⟩)
    go_ret
    exact ⟨by simp, (B1.out.trans (B4.out.mono (by omega))).trans (hb5.mono (by have := B4.out.size; omega))⟩
end Go.Proofs.Ytmibbjjfijcgpac
