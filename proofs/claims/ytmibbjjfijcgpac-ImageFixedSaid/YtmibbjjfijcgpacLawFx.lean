/-
  The call of boltholekeep.ImageFixed returns true at all bytes.
-/
import Derived.Test.YtmibbjjfijcgpacWalkDe
import Derived.Test.YtmibbjjfijcgpacWalkEn
import Derived.Test.YtmibbjjfijcgpacWalkSm
namespace Go.Proofs.Ytmibbjjfijcgpac
open Go.RowKit Go.Joins
set_option maxRecDepth 100000 in
set_option maxHeartbeats 2000000 in
theorem fixed_whole (v : Value) (bs : List Int) (w : World) (h : ListAt w ucell 1 v bs) (hb : ∀ x ∈ bs, 0 ≤ x ∧ x ≤ 255) (_hz : bs.length ≤ 140737488351232) :
    Calls Try.prog 7 #[v] w fun e w' => e = .returned (.bool true) ∧ Below w.heap.size w w' := by
  have HL : Hid (ListAt w ucell 1 v bs) := h
  have HB : Hid (∀ x ∈ bs, 0 ≤ x ∧ x ≤ 255) := hb
  clear h hb _hz
  go_enter Try.func7, Try.ntmps7
  go_wp2_with fail
  refine (decode_any v bs w HL.out HB.out).mono ?_
  rintro e w1 (⟨hd, rfl, hb1⟩ | ⟨hd, vT, vF, vB, vD, vL, rfl, hI, hb1⟩)
  · have B1 : Hid (Below w.heap.size w w1) := hb1
    have q0 : (decErr bs != 0) = true := by simpa using hd
    clear hd hb1
    go_wp2
    go_ret
    exact ⟨rfl, B1.out.alloc (by have := B1.out.size; omega) _⟩
  · have hok : Hid (decImg bs).ok := rdImg_ok ⟨bs.drop 4, false⟩ (fun x hx => HB.out x (List.mem_of_mem_drop hx))
    obtain ⟨_, _, _, _, hc⟩ := dec_parts bs hd
    have HE : Hid (encImg (decImg bs) = bs) := dec_enc bs HB.out hd
    have B1 : Hid (Below w.heap.size w w1) := hb1
    have HI : Hid (ImgAt w1 vT vF vB vD vL (decImg bs)) := hI
    have HC : Hid (imgChk (decImg bs) = 0) := hc
    have HLN : Hid (bs.length ≤ 100000) := (dec_parts bs hd).1
    clear hc hd hb1 hI
    generalize decImg bs = m at *
    obtain ⟨aT, cT, rfl, _⟩ := HI.out.text.form
    obtain ⟨aF, cF, rfl, _⟩ := HI.out.funcs.form
    obtain ⟨aD, cD, rfl, _⟩ := HI.out.data.form
    obtain ⟨aL, cL, rfl, _⟩ := HI.out.lines.form
    obtain ⟨vs, hBx, hBl, hBy⟩ := HI.out.tables
    obtain ⟨aB, cB, rfl, _⟩ := hBx.form
    clear hBx hBl hBy
    go_wp2_with fail
    have b2 : Below w1.heap.size w1 (w1.alloc (.cells #[.slice aT m.text.length cT, .slice aF m.funcs.length cF, .slice aB vs.length cB, .slice aD m.data.length cD, .slice aL m.lines.length cL, .int .i64 m.entry] 28)) := (Below.refl _ _).alloc (Nat.le_refl _) _
    refine (encode_img _ _ _ _ _ m _ (HI.out.stays (Nat.le_refl _) b2) hok.out).mono ?_
    rintro e w3 (⟨hc, _⟩ | ⟨_, v3, rfl, ⟨B3, hB3, own3⟩, hb3⟩)
    · exact absurd HC.out hc
    rw [HE.out] at own3
    have B3' : Hid (Below w.heap.size w w3) := (B1.out.trans (b2.mono B1.out.size)).trans (hb3.mono (by have := B1.out.size; simp; omega))
    have c3 := conv_list (own3.list (by have := HLN.out; unfold maxLen; omega))
    have c4 := conv_list (HL.out.stays (Nat.le_refl _) B3'.out)
    obtain ⟨a3, l3, k3, rfl⟩ := own3.any
    obtain ⟨a0, k0, rfl, _⟩ := HL.out.form
    clear own3 hb3 b2 hB3
    go_wp2
    go_ret
    exact ⟨by simp, B3'.out⟩
end Go.Proofs.Ytmibbjjfijcgpac
