/-
  isa.Encode.
-/
import Derived.Test.YtechpdfcgimkkaaDoorEncSt
import Derived.Outline
namespace Go.Proofs.YtechpdfcgimkkaaDoor
open Go.RowKit Go.Joins Isa
theorem siz_bd (k : Int) (l : Bool) (h1 : 1 ≤ k) (h2 : k ≤ 24) : 1 ≤ siz k l ∧ siz k l ≤ 5 := by
  have := wid_bd k l h1 h2
  unfold siz
  constructor <;> split <;> split <;> omega
theorem one_of (x : Value) (h : x.oneCell' = true) : ∀ u ∈ [x], u.oneCell' = true := by
  intro u hu; simp at hu; subst hu; exact h
def L1 (k : Int) (l : Bool) : List Int := [firB k l]
def L2 (k d a b : Int) (l : Bool) : List Int := L1 k l ++ (if kL k = 0 then [] else [16 * regOf (kU k) d a b + regOf (kL k) d a b])
def L3 (k d a b : Int) (l : Bool) : List Int := L2 k d a b l ++ (if kT k = 0 then [] else [regOf (kT k) d a b])
def nb (n : Int) : Nat → List Int
  | 0 => []
  | 1 => [n % 256]
  | _ => [n % 256, n / 256 % 256]
/-- An instruction's bytes. -/
def encL (k d a b n : Int) (l : Bool) : List Int := L3 k d a b l ++ nb n (wid k l).toNat
theorem L2_len (k d a b : Int) (l : Bool) : ((L2 k d a b l).length : Int) = 1 + if kL k = 0 then 0 else 1 := by
  unfold L2 L1; split <;> simp
theorem L3_len (k d a b : Int) (l : Bool) : ((L3 k d a b l).length : Int) = siz k l - wid k l := by
  have := L2_len k d a b l
  unfold L3 siz; rw [List.length_append]
  by_cases h : kT k = 0
  · rw [if_pos h, if_pos h]; simp; omega
  · rw [if_neg h, if_neg h]; simp; omega
set_option maxRecDepth 100000 in
set_option maxHeartbeats 1000000 in
theorem enc_ok (k d a b n : Int) (l : Bool) (w : World) (ht : Tabs w) (hc : chk k d a b n l = 0) (h1 : 1 ≤ k) (h2 : k ≤ 24) (hd : regB d = true) (ha : regB a = true) (hbb : regB b = true) :
    Calls Tryd.prog 70 #[.agg #[.int .i64 k, .int .i64 d, .int .i64 a, .int .i64 b, .int .i64 n, .bool l]] w fun e w' => ∃ g, e = .returned (.tuple #[.slice (some ⟨g, 0, none⟩) (encL k d a b n l).length (siz k l).toNat, .int .i64 0]) ∧ w'.ownsRow w.heap.size 5 1 (.slice (some ⟨g, 0, none⟩) (encL k d a b n l).length (siz k l).toNat) (encL k d a b n l).length ((encL k d a b n l).map (Value.int .u8)) ∧ Below w.heap.size w w' := by
  have ht1 : ∀ o, Tabs (w.alloc o) := fun o => ht.below ht.sz ((Below.refl _ _).alloc (Nat.le_refl _) o)
  have ht2 : ∀ {o w1}, Below (w.alloc o).heap.size (w.alloc o) w1 → Tabs w1 := fun {o w1} hb => (ht1 o).below (ht1 o).sz hb
  have H1 : Hid (∀ o, Tabs (w.alloc o)) := ht1
  have H2 : Hid (∀ {o w1}, Below (w.alloc o).heap.size (w.alloc o) w1 → Tabs w1) := ht2
  clear ht1 ht2
  have hcb : (chk k d a b n l == 0) = true := by simp [hc]
  have HC : Hid (chk k d a b n l = 0) := hc
  clear hc
  obtain ⟨r1, r2⟩ := regOf_bd (u := kU k) hd ha hbb
  obtain ⟨r3, r4⟩ := regOf_bd (u := kL k) hd ha hbb
  obtain ⟨r5, r6⟩ := regOf_bd (u := kT k) hd ha hbb
  clear hd ha hbb
  have s1 := opS_lo h1 h2
  have s2 := opS_hi h1 h2
  obtain ⟨sz1, sz2⟩ := siz_bd k l h1 h2
  obtain ⟨i0, hi, hz0, hz1, hz2⟩ := info_parts info5
  have z1 := ht.sz
  have z0 : 0 < w.heap.size := by omega
  obtain ⟨c1, c2, c3⟩ := ht.op k (by omega) h2
  obtain ⟨c4, c5, c6, c7⟩ := ht.sh k (by omega) h2
  go_enter Tryd.func70, Tryd.ntmps70
  go_upto_region 6 with (first
    | (go_at_call 96; refine (check_any k d a b n l _ (H1.out _)).mono ?_; rintro e w' ⟨rfl, hb⟩; obtain ⟨hc1, hf1⟩ := bcell hb; have hz : w.heap.size < w'.heap.size := (by have := hb.size; simp at this; omega); have htw := H2.out hb; have z1' := htw.sz; have z0' : 0 < w'.heap.size := (by omega))
    | (go_at_call 94; refine (size_any k d a b n l _ h1 h2 ?_).mono ?_; (exact htw.below htw.sz ((Below.refl _ _).alloc (Nat.le_refl _) _)); rintro e w3 ⟨rfl, hb3⟩)
    | (at_make; refine wpList_make_own _ rfl _ _ 23 rfl (w3.heap.size) 5 i0 (.int .u8 0) 1 Tryd.underlying23 hi hz0 hz1 .i64 .i64 (siz k l) (siz k l).toNat rfl rfl (by omega) (by rw [hz2]; omega) (by unfold maxLen; omega) (Nat.le_refl _) ?_; intro w4 own4 grown4; have st4 := St.make hb hb3 grown4 (own4.lt _ rfl).2))
  clear hc1 hf1 hb hb3 grown4 c1 c2 c3 c4 c5 c6 c7 H1 H2 z1' z0' hz htw
  generalize w'.heap.size = Bs at *
  generalize w3.heap.size = g at *
  clear w' w3
  have htw : Tabs w4 := ht.below ht.sz st4.bel
  obtain ⟨ci, cs, b1, b2, b3, bel⟩ := st4
  have b4 : w.heap.size < w4.heap.size := by omega
  have b5 : Bs < w4.heap.size := by omega
  go_upto_region 7 with (first
    | (go_at_call 111; refine (first_any k d a b n l _ h1 h2 htw).mono ?_; rintro e w5 ⟨rfl, rfl⟩)
    | (at_builtin; refine wpList_append_own_spare _ rfl (.tmp 23) (.tmp 26) 23 rfl g 5 i0 1 Tryd.underlying23 hi hz1 g 0 (siz k l).toNat [] rfl ((own4.alloc _).alloc _) ⟨w4.heap.size + 1, 0, none⟩ 1 1 [.int .u8 (firB k l)] rfl rfl (by simpa using cell_one_new (w4.alloc _) _ _) (one_of _ rfl) (by omega) ?_; intro w5 own5 gr5))
  have st5 : St w w5 #[.int .i64 k, .int .i64 d, .int .i64 a, .int .i64 b, .int .i64 n, .bool l] #[.int .i64 (kU k), .int .i64 (kL k), .int .i64 (kT k), .int .i64 (kW k)] Bs g := ((St.mk ci cs b1 b2 b3 bel).alloc _ |>.alloc _).grown gr5
  clear ci cs b3 b4 b5 bel own4 htw gr5
  obtain ⟨ci, cs, _, _, b3, bel⟩ := st5
  have b4 : w.heap.size < w5.heap.size := by omega
  have b5 : Bs < w5.heap.size := by omega
  go_upto_if 30 with fail
  go_cut [6] (fun v wc => v = .slice (some ⟨g, 0, none⟩) (L2 k d a b l).length (siz k l).toNat ∧ St w wc #[.int .i64 k, .int .i64 d, .int .i64 a, .int .i64 b, .int .i64 n, .bool l] #[.int .i64 (kU k), .int .i64 (kL k), .int .i64 (kT k), .int .i64 (kW k)] Bs g ∧ wc.ownsRow g 5 1 v (L2 k d a b l).length ((L2 k d a b l).map (Value.int .u8)))
  case first =>
    by_cases hl0 : kL k = 0
    · have hlb : (kL k != 0) = false := by simp [hl0]
      have e2 : L2 k d a b l = [firB k l] := by simp [L2, L1, hl0]
      have st5 := St.mk ci cs b1 b2 b3 bel
      go_wp2
      go_meet
      case rel =>
        go_light
        rw [e2]
        exact ⟨rfl, st5, own5⟩
    · have hlb : (kL k != 0) = true := by simp [hl0]
      have i0' := ci 0
      have i1' := ci 1
      have i2' := ci 2
      have i3' := ci 3
      have i4' := ci 4
      have i5' := ci 5
      have s0' := cs 0
      have s1' := cs 1
      simp at i0' i1' i2' i3' i4' i5' s0' s1'
      have sz3 : 2 ≤ siz k l := by have := wid_bd k l h1 h2; unfold siz; rw [if_neg hl0]; split <;> omega
      have b6 : w.heap.size < w5.heap.size + 1 := by omega
      have b7 : Bs < w5.heap.size + 1 := by omega
      have b8 : w.heap.size < w5.heap.size + 1 + 1 := by omega
      have b9 : Bs < w5.heap.size + 1 + 1 := by omega
      go_upto_region 8 with fail
      have st5 := St.mk ci cs b1 b2 b3 bel
      go_region_held3 (fun w' => w'.cell? ⟨w.heap.size, 0, none⟩ = some (.int .i64 k) ∧ w'.cell? ⟨w.heap.size, 0 + 1, none⟩ = some (.int .i64 d) ∧ w'.cell? ⟨w.heap.size, 0 + 2, none⟩ = some (.int .i64 a) ∧ w'.cell? ⟨w.heap.size, 0 + 3, none⟩ = some (.int .i64 b) ∧ w'.cell? ⟨w.heap.size, 0 + 4, none⟩ = some (.int .i64 n) ∧ w'.cell? ⟨w.heap.size, 0 + 5, none⟩ = some (.bool l) ∧ w'.cell? ⟨Bs, 0, none⟩ = some (.int .i64 (kU k)) ∧ w'.cell? ⟨Bs, 1, none⟩ = some (.int .i64 (kL k))) (first | (simp [go_sem, *]; done) | exact St.cells8 ((((st5.alloc _).alloc _).alloc _).drew.grown gr6))
        (first | (go_at_call 112; refine (register_any k d a b n l _ _).mono ?_; rintro e w' ⟨rfl, rfl⟩) | (refine step_append_spare _ g 5 i0 1 Tryd.underlying23 hi hz1 g 1 (siz k l).toNat [.int .u8 (firB k l)] (by rfl) (by exact (((own5.alloc _).alloc _).alloc _).drew) ⟨w5.heap.size + 1 + 1, 0, none⟩ 1 1 [.int .u8 (IntKind.u8.wrap (IntKind.i64.wrap (IntKind.i64.wrap (16 * regOf (kU k) d a b) + regOf (kL k) d a b)))] (by rfl) (by rfl) (by intro j u hj; have := cell_one_new ((w5.alloc (.cells #[.int .i64 k, .int .i64 d, .int .i64 a, .int .i64 b, .int .i64 n, .bool l] 61)).alloc (.cells #[.int .i64 k, .int .i64 d, .int .i64 a, .int .i64 b, .int .i64 n, .bool l] 61)) _ 5 j u hj; simpa using this) (one_of _ rfl) (by omega) ?_; intro w6 own6 gr6))
      rw [wrap_pair r1 r2 r3 r4] at own6
      have st6 := ((((st5.alloc _).alloc _).alloc _).drew.grown gr6)
      have e2 : L2 k d a b l = [firB k l, 16 * regOf (kU k) d a b + regOf (kL k) d a b] := by simp [L2, L1, hl0]
      clear gr6
      go_wp2
      go_meet
      case rel =>
        go_light
        rw [e2]
        exact ⟨rfl, st6, own6⟩
  case rest =>
    obtain ⟨rfl, st6, own6⟩ := hcut
    clear ci cs b3 b4 b5 bel own5
    obtain ⟨ci, cs, _, _, b3, bel⟩ := st6
    have b4 : w.heap.size < wc.heap.size := by omega
    have b5 : Bs < wc.heap.size := by omega
    obtain ⟨w6, rfl⟩ : ∃ w6 : World, w6 = wc := ⟨_, rfl⟩
    go_upto_if 47 with fail
    go_cut [6] (fun v wc => v = .slice (some ⟨g, 0, none⟩) (L3 k d a b l).length (siz k l).toNat ∧ St w wc #[.int .i64 k, .int .i64 d, .int .i64 a, .int .i64 b, .int .i64 n, .bool l] #[.int .i64 (kU k), .int .i64 (kL k), .int .i64 (kT k), .int .i64 (kW k)] Bs g ∧ wc.ownsRow g 5 1 v (L3 k d a b l).length ((L3 k d a b l).map (Value.int .u8)))
    case first =>
      have st6 := St.mk ci cs b1 b2 b3 bel
      by_cases hl0 : kT k = 0
      · have hlb : (kT k != 0) = false := by simp [hl0]
        have e2 : L3 k d a b l = L2 k d a b l := by simp [L3, hl0]
        have E2 : Hid (L3 k d a b l = L2 k d a b l) := e2
        clear e2
        go_wp2
        go_meet
        case rel =>
          go_light
          rw [E2.out]
          exact ⟨rfl, st6, own6⟩
      · have hlb : (kT k != 0) = true := by simp [hl0]
        have e2 : L3 k d a b l = L2 k d a b l ++ [regOf (kT k) d a b] := by simp [L3, hl0]
        have E2 : Hid (L3 k d a b l = L2 k d a b l ++ [regOf (kT k) d a b]) := e2
        clear e2
        have hroom : (L2 k d a b l).length + 1 ≤ (siz k l).toNat := by
          have := L2_len k d a b l
          have := wid_bd k l h1 h2
          have hs : siz k l = 1 + wid k l + (if kL k = 0 then 0 else 1) + 1 := by unfold siz; rw [if_neg hl0]
          omega
        go_wp2_with (first
          | (go_at_call 112; refine (register_any k d a b n l _ _).mono ?_; rintro e w' ⟨rfl, rfl⟩)
          | (at_builtin; refine wpList_append_own_spare _ rfl (.tmp 48) (.tmp 54) 23 rfl g 5 i0 1 Tryd.underlying23 hi hz1 g (L2 k d a b l).length (siz k l).toNat ((L2 k d a b l).map (Value.int .u8)) rfl ((own6.alloc _).alloc _) ⟨w6.heap.size + 1, 0, none⟩ 1 1 [.int .u8 (regOf (kT k) d a b)] rfl rfl (by simpa using cell_one_new (w6.alloc _) _ _) (one_of _ rfl) hroom ?_; intro w7 own7 gr7))
        have st7 := ((st6.alloc _).alloc _).grown gr7
        clear gr7
        go_meet
        case rel =>
          go_light
          rw [E2.out]
          exact ⟨by simp, st7, by simpa using own7⟩
    case rest =>
      obtain ⟨rfl, st7, own7⟩ := hcut
      clear ci cs b3 b4 b5 bel own6
      obtain ⟨ci, cs, _, _, b3, bel⟩ := st7
      obtain ⟨w7, rfl⟩ : ∃ w7 : World, w7 = wc := ⟨_, rfl⟩
      have b4 : w.heap.size < w7.heap.size := by omega
      have b5 : Bs < w7.heap.size := by omega
      have htw : Tabs w7 := ht.below ht.sz bel
      have st7 := St.mk ci cs b1 b2 b3 bel
      obtain ⟨wd1, wd2⟩ := wid_bd k l h1 h2
      go_wp2_with (go_at_call 113; refine (width_any k d a b n l _ h1 h2 htw).mono ?_; rintro e w8 ⟨rfl, rfl⟩)
      go_loopw [6, 58] (fun v i wr => ∃ m : Nat, (m : Int) ≤ wid k l ∧ i = .int .i64 m ∧ v = .slice (some ⟨g, 0, none⟩) ((L3 k d a b l).length + m) (siz k l).toNat ∧ St w wr #[.int .i64 k, .int .i64 d, .int .i64 a, .int .i64 b, .int .i64 n, .bool l] #[.int .i64 (kU k), .int .i64 (kL k), .int .i64 (kT k), .int .i64 (kW k)] Bs g ∧ wr.ownsRow g 5 1 v ((L3 k d a b l).length + m) ((L3 k d a b l ++ nb n m).map (Value.int .u8))) (fun _ i _ => (wid k l - intOf i).toNat)
      case atStart => exact ⟨0, by omega, rfl, rfl, st7.alloc _, by simpa [nb] using own7.alloc _⟩
      case round =>
        obtain ⟨m, hm, rfl, rfl, str, ownr⟩ := hrel
        clear ci cs b3 b4 b5 bel own7 st7 htw
        obtain ⟨ci, cs, _, _, b3, bel⟩ := str
        have b4 : w.heap.size < wr.heap.size := by omega
        by_cases hlt : (m : Int) < wid k l
        · have hroom : (L3 k d a b l).length + m + 1 ≤ (siz k l).toNat := by
            have := L3_len k d a b l
            omega
          have str := St.mk ci cs b1 b2 b3 bel
          rcases (show m = 0 ∨ m = 1 by omega) with rfl | rfl
          · have ownr : wr.ownsRow g 5 1 (.slice (some ⟨g, 0, none⟩) (L3 k d a b l).length (siz k l).toNat) (L3 k d a b l).length ((L3 k d a b l).map (Value.int .u8)) := by simpa [nb] using ownr
            have hroom : (L3 k d a b l).length + 1 ≤ (siz k l).toNat := by omega
            go_wp2_with (at_builtin; refine wpList_append_own_spare _ rfl (.tmp 61) (.tmp 68) 23 rfl g 5 i0 1 Tryd.underlying23 hi hz1 g (L3 k d a b l).length (siz k l).toNat ((L3 k d a b l).map (Value.int .u8)) rfl (ownr.alloc _) ⟨wr.heap.size, 0, none⟩ 1 1 [.int .u8 (n % 256)] rfl rfl (cell_one_new _ _ _) (one_of _ rfl) hroom ?_; intro w9 own9 gr9)
            have st9 := (str.alloc _).grown gr9
            clear gr9
            go_roundw
            case rel =>
              go_light
              exact ⟨1, by omega, by go_num, rfl, st9, by simpa [nb] using own9⟩
            case measure => go_light; simp [intOf]; omega
          · go_wp2_with (at_builtin; refine wpList_append_own_spare _ rfl (.tmp 61) (.tmp 68) 23 rfl g 5 i0 1 Tryd.underlying23 hi hz1 g ((L3 k d a b l).length + 1) (siz k l).toNat ((L3 k d a b l ++ nb n 1).map (Value.int .u8)) rfl (ownr.alloc _) ⟨wr.heap.size, 0, none⟩ 1 1 [.int .u8 (n / 256 % 256)] rfl rfl (cell_one_new _ _ _) (one_of _ rfl) hroom ?_; intro w9 own9 gr9)
            have st9 := (str.alloc _).grown gr9
            clear gr9
            go_roundw
            case rel =>
              go_light
              exact ⟨2, by omega, by go_num, rfl, st9, by simpa [nb] using own9⟩
            case measure => go_light; simp [intOf]; omega
        · have hmw : (m : Int) = wid k l := by omega
          have hnot : ¬ (m : Int) < wid k l := hlt
          have hlen : Hid ((encL k d a b n l).length = (L3 k d a b l).length + m ∧ encL k d a b n l = L3 k d a b l ++ nb n m) := by
            show _ ∧ _
            have e : (wid k l).toNat = m := by omega
            have e2 : encL k d a b n l = L3 k d a b l ++ nb n m := by unfold encL; rw [e]
            refine ⟨?_, e2⟩
            rw [e2, List.length_append]
            have : (nb n m).length = m := by
              rcases (show m = 0 ∨ m = 1 ∨ m = 2 by omega) with rfl | rfl | rfl <;> rfl
            omega
          have str := St.mk ci cs b1 b2 b3 bel
          clear hmw
          go_wp2
          go_ret2
          obtain ⟨q1, q2⟩ := hlen.out
          refine ⟨g, by rw [q1]; rfl, ?_, bel⟩
          rw [q1, q2]
          exact ownsRow_le ownr (by omega)
end Go.Proofs.YtechpdfcgimkkaaDoor
