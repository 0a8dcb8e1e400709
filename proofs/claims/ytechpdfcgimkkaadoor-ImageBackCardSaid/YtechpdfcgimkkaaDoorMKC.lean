/-
  isa.Encode: small callees.
-/
import Derived.Test.YtechpdfcgimkkaaDoorMJC
import Derived.Deep.DeepAppendRoom
import Derived.Deep.RegionHeld3
import Derived.Deep.DeepCutAuto
import Derived.Deep.AppendLies
import Derived.Outline
import Derived.Laws.BytesString
import Derived.Test.YtechpdfcgimkkaaDoorMAC
namespace Go.Proofs.YtechpdfcgimkkaaDoor
open Go.RowKit Isa
def firB (k : Int) (l : Bool) : Int := if l then opL k else opF k
def regOf (u d a b : Int) : Int := if u = 1 then d else if u = 2 then a else if u = 3 then b else 0
set_option maxHeartbeats 400000 in
theorem first_any (k d a b n : Int) (l : Bool) (w : World) (h1 : 1 ≤ k) (h2 : k ≤ 24) (ht : Tabs w) :
    Calls Tryd.prog 111 #[.agg #[.int .i64 k, .int .i64 d, .int .i64 a, .int .i64 b, .int .i64 n, .bool l]] w fun e w' => e = .returned (.int .u8 (firB k l)) ∧ w' = w.alloc (.cells #[.int .i64 k, .int .i64 d, .int .i64 a, .int .i64 b, .int .i64 n, .bool l] 61) := by
  obtain ⟨c1, c2, c3⟩ := ht.op k (by omega) h2
  have z1 := ht.sz
  have z0 : 0 < w.heap.size := by omega
  unfold firB
  cases l
  all_goals
    go_enter Tryd.func111, Tryd.ntmps111
    go_wp2
    go_ret
    exact ⟨by simp, rfl⟩
set_option maxHeartbeats 400000 in
theorem register_any (k d a b n : Int) (l : Bool) (u : Int) (w : World) :
    Calls Tryd.prog 112 #[.agg #[.int .i64 k, .int .i64 d, .int .i64 a, .int .i64 b, .int .i64 n, .bool l], .int .i64 u] w fun e w' => e = .returned (.int .i64 (regOf u d a b)) ∧ w' = w.alloc (.cells #[.int .i64 k, .int .i64 d, .int .i64 a, .int .i64 b, .int .i64 n, .bool l] 61) := by
  by_cases g1 : u = 1
  · have hr : Hid (regOf u d a b = d) := by show _ = _; simp [regOf, g1]
    subst g1
    go_enter Tryd.func112, Tryd.ntmps112
    go_wp2
    go_ret
    exact ⟨by rw [hr.out]; rfl, rfl⟩
  have b1 : (u == 1) = false := by simp [g1]
  by_cases g2 : u = 2
  · have hr : Hid (regOf u d a b = a) := by show _ = _; simp [regOf, g2]
    subst g2
    clear g1 b1
    go_enter Tryd.func112, Tryd.ntmps112
    go_wp2
    go_ret
    exact ⟨by rw [hr.out]; rfl, rfl⟩
  have b2 : (u == 2) = false := by simp [g2]
  by_cases g3 : u = 3
  · have hr : Hid (regOf u d a b = b) := by show _ = _; simp [regOf, g3]
    subst g3
    clear g1 b1 g2 b2
    go_enter Tryd.func112, Tryd.ntmps112
    go_wp2
    go_ret
    exact ⟨by rw [hr.out]; rfl, rfl⟩
  · have b3 : (u == 3) = false := by simp [g3]
    have hr : Hid (regOf u d a b = 0) := by show _ = _; simp [regOf, g1, g2, g3]
    clear g1 g2 g3
    go_enter Tryd.func112, Tryd.ntmps112
    go_wp2
    go_ret
    exact ⟨by rw [hr.out]; rfl, rfl⟩
theorem info5 : (Tryd.prog.info? 5).map (fun i => (i.zero, i.size, i.bytes)) = some (some (.int .u8 0), 1, 1) := by kernel_rfl
end Go.Proofs.YtechpdfcgimkkaaDoor
/-
  What holds between the statements of isa.Encode: the two boxes lie as they were laid; the slice that is made is the call's own.
-/
namespace Go.Proofs.YtechpdfcgimkkaaDoor
open Go.RowKit Isa
structure St (w wc : World) (I S : Array Value) (Bs g : Nat) : Prop where
  ci : ∀ j, wc.cell? ⟨w.heap.size, j, none⟩ = I[j]?
  cs : ∀ j, wc.cell? ⟨Bs, j, none⟩ = S[j]?
  b1 : w.heap.size < Bs
  b2 : Bs < g
  b3 : g < wc.heap.size
  bel : Below w.heap.size w wc
theorem St.alloc {w wc : World} {I S : Array Value} {Bs g : Nat} (st : St w wc I S Bs g) (o : Obj) : St w (wc.alloc o) I S Bs g := by
  obtain ⟨ci, cs, b1, b2, b3, bel⟩ := st
  refine ⟨fun j => ?_, fun j => ?_, b1, b2, by simp; omega, bel.alloc (by omega) o⟩
  · rw [World.cell?_alloc_past _ _ _ (by omega)]; exact ci j
  · rw [World.cell?_alloc_past _ _ _ (by omega)]; exact cs j
theorem St.drew {w wc : World} {I S : Array Value} {Bs g : Nat} (st : St w wc I S Bs g) : St w wc.drew I S Bs g := ⟨st.ci, st.cs, st.b1, st.b2, st.b3, st.bel.drew⟩
theorem St.grown {w wc w' : World} {I S : Array Value} {Bs g : Nat} (st : St w wc I S Bs g) (gr : wc.grownBy w' (some g)) : St w w' I S Bs g := by
  obtain ⟨ci, cs, b1, b2, b3, bel⟩ := st
  have hz : wc.heap.size ≤ w'.heap.size := gr.size
  have b4 : w.heap.size ≤ wc.heap.size := by omega
  refine ⟨fun j => ?_, fun j => ?_, b1, b2, by omega, bel.grown gr b4 ?_⟩
  · rw [gr.cell_far ⟨_, _, none⟩ (by show w.heap.size < _; omega) (by simp; omega)]; exact ci j
  · rw [gr.cell_far ⟨_, _, none⟩ (by show Bs < _; omega) (by simp; omega)]; exact cs j
  · intro x hx; injection hx with hx; omega
theorem St.make {w w' w3 w4 : World} {I S : Array Value} {t t' : TypeId} (hb : Below (w.alloc (.cells I t)).heap.size (w.alloc (.cells I t)) w') (hb3 : Below (w'.alloc (.cells S t')).heap.size (w'.alloc (.cells S t')) w3)
    (gr : w3.grownBy w4 none) (hz4 : w3.heap.size < w4.heap.size) : St w w4 I S w'.heap.size w3.heap.size := by
  have z1 : w.heap.size < w'.heap.size := by have := hb.size; simp at this; omega
  have z2 : w'.heap.size < w3.heap.size := by have := hb3.size; simp at this; omega
  refine ⟨fun j => ?_, fun j => ?_, z1, z2, hz4, ?_⟩
  · rw [gr.cell_far ⟨_, _, none⟩ (by show w.heap.size < _; omega) (by simp), hb3.cell (p := ⟨_, _, none⟩) (by show w.heap.size < _; simp; omega), World.cell?_alloc_past _ _ _ z1, hb.cell (p := ⟨_, _, none⟩) (by show w.heap.size < _; simp)]
    exact World.cell?_alloc_new _ _ _ _
  · rw [gr.cell_far ⟨_, _, none⟩ (by show w'.heap.size < _; omega) (by simp), hb3.cell (p := ⟨_, _, none⟩) (by show w'.heap.size < _; simp)]
    exact World.cell?_alloc_new _ _ _ _
  · refine Below.grown ?_ gr (by omega) (by simp)
    exact ((((Below.refl _ _).alloc (Nat.le_refl _) _).trans (hb.mono (by simp))).alloc (by omega) _).trans (hb3.mono (by simp; omega))
theorem St.cells8 {w wc : World} {k d a b n x0 x1 x2 x3 : Int} {l : Bool} {Bs g : Nat} (st : St w wc #[.int .i64 k, .int .i64 d, .int .i64 a, .int .i64 b, .int .i64 n, .bool l] #[.int .i64 x0, .int .i64 x1, .int .i64 x2, .int .i64 x3] Bs g) :
    wc.cell? ⟨w.heap.size, 0, none⟩ = some (.int .i64 k) ∧ wc.cell? ⟨w.heap.size, 0 + 1, none⟩ = some (.int .i64 d) ∧ wc.cell? ⟨w.heap.size, 0 + 2, none⟩ = some (.int .i64 a) ∧ wc.cell? ⟨w.heap.size, 0 + 3, none⟩ = some (.int .i64 b) ∧ wc.cell? ⟨w.heap.size, 0 + 4, none⟩ = some (.int .i64 n) ∧ wc.cell? ⟨w.heap.size, 0 + 5, none⟩ = some (.bool l) ∧ wc.cell? ⟨Bs, 0, none⟩ = some (.int .i64 x0) ∧ wc.cell? ⟨Bs, 1, none⟩ = some (.int .i64 x1) :=
  ⟨st.ci 0, st.ci 1, st.ci 2, st.ci 3, st.ci 4, st.ci 5, st.cs 0, st.cs 1⟩
theorem regOf_bd {u d a b : Int} (hd : regB d = true) (ha : regB a = true) (hb : regB b = true) : 0 ≤ regOf u d a b ∧ regOf u d a b ≤ 7 := by
  unfold regB at hd ha hb
  simp at hd ha hb
  unfold regOf
  split
  · omega
  split
  · omega
  split <;> omega
theorem wrap_pair {x y : Int} (a1 : 0 ≤ x) (a2 : x ≤ 7) (b1 : 0 ≤ y) (b2 : y ≤ 7) : IntKind.u8.wrap (IntKind.i64.wrap (IntKind.i64.wrap (16 * x) + y)) = 16 * x + y := by
  rw [IntKind.wrap_i64, IntKind.wrap_i64, IntKind.wrap_u8]; omega
section
variable {P : Program} (w : World)
theorem step_append_spare {ops : Array Oper} {dst : Option Tmp} {ty : TypeId} {pos : String} {aft : Array Edge} {a : Act} {K : Act → World → Prop} {Q : Exit → Act → World → Prop} {E : Prop} {s x : Operand} {t : TypeId}
    (base : Nat) (e : TypeId) (i : TypeInfo) (size : Nat) (ht : P.underlying t = some (.slice e)) (hi : P.info? e = some i) (hsize : i.size = size)
    (g n cap : Nat) (xs : List Value) (hs : a.eval s = .slice (some ⟨g, 0, none⟩) n cap) (hown : w.ownsRow base e size (.slice (some ⟨g, 0, none⟩) n cap) n xs)
    (ad : Addr) (m c : Nat) (news : List Value) (hx : a.eval x = .slice (some ad) m c) (hl : news.length = m * size) (hnews : ∀ j u, news[j]? = some u → w.cell? (ad.add j) = some u) (h1 : ∀ u ∈ news, u.oneCell' = true)
    (hroom : n + m ≤ cap)
    (h : ∀ w', w'.ownsRow base e size (.slice (some ⟨g, 0, none⟩) (n + m) cap) (n + m) (xs ++ news) → w.grownBy w' (some g) → K (a.put dst (.slice (some ⟨g, 0, none⟩) (n + m) cap)) w') :
    if Region.wanted { dst := dst, op := .call { callee := .builtin .append, args := #[s, x], argTypes := #[t, t] }, type := ty, pos := pos, after := aft, guard := none } (yielded ops a.tmps) = true then Oper.wp P { dst := dst, op := .call { callee := .builtin .append, args := #[s, x], argTypes := #[t, t] }, type := ty, pos := pos, after := aft, guard := none } a w K Q else E := by
  rw [if_pos (by simp [Region.wanted])]
  exact wp_append_own_spare w s x t rfl base e i size ht hi hsize g n cap xs hs hown ad m c news hx hl hnews h1 hroom h
end
end Go.Proofs.YtechpdfcgimkkaaDoor
/-
  isa.Encode.
-/
namespace Go.Proofs.YtechpdfcgimkkaaDoor
open Go.RowKit Go.Joins Isa
theorem siz_bd (k : Int) (l : Bool) (h1 : 1 ≤ k) (h2 : k ≤ 24) : 1 ≤ siz k l ∧ siz k l ≤ 5 := by
  have := wid_bd k l h1 h2
  unfold siz
  constructor <;> split <;> split <;> omega
theorem one_of (x : Value) (h : x.oneCell' = true) : ∀ u ∈ [x], u.oneCell' = true := by
  intro u hu; simp at hu; subst hu; exact h
def L1 (k : Int) (l : Bool) : List Int := [firB k l]
def L2 (k d a b : Int) (l : Bool) : List Int := L1 k l ++ (if kL k = 0 then [] else [16 * regOf (kU k) d a b + regOf (kL k) d a b])
def L3 (k d a b : Int) (l : Bool) : List Int := L2 k d a b l ++ (if kT k = 0 then [] else [regOf (kT k) d a b])
def nb (n : Int) : Nat → List Int
  | 0 => []
  | 1 => [n % 256]
  | _ => [n % 256, n / 256 % 256]
/-- An instruction's bytes. -/
def encL (k d a b n : Int) (l : Bool) : List Int := L3 k d a b l ++ nb n (wid k l).toNat
theorem L2_len (k d a b : Int) (l : Bool) : ((L2 k d a b l).length : Int) = 1 + if kL k = 0 then 0 else 1 := by
  unfold L2 L1; split <;> simp
theorem L3_len (k d a b : Int) (l : Bool) : ((L3 k d a b l).length : Int) = siz k l - wid k l := by
  have := L2_len k d a b l
  unfold L3 siz; rw [List.length_append]
  by_cases h : kT k = 0
  · rw [if_pos h, if_pos h]; simp; omega
  · rw [if_neg h, if_neg h]; simp; omega
set_option maxRecDepth 100000 in
set_option maxHeartbeats 1000000 in
theorem enc_ok (k d a b n : Int) (l : Bool) (w : World) (ht : Tabs w) (hc : chk k d a b n l = 0) (h1 : 1 ≤ k) (h2 : k ≤ 24) (hd : regB d = true) (ha : regB a = true) (hbb : regB b = true) :
    Calls Tryd.prog 70 #[.agg #[.int .i64 k, .int .i64 d, .int .i64 a, .int .i64 b, .int .i64 n, .bool l]] w fun e w' => ∃ g, e = .returned (.tuple #[.slice (some ⟨g, 0, none⟩) (encL k d a b n l).length (siz k l).toNat, .int .i64 0]) ∧ w'.ownsRow w.heap.size 5 1 (.slice (some ⟨g, 0, none⟩) (encL k d a b n l).length (siz k l).toNat) (encL k d a b n l).length ((encL k d a b n l).map (Value.int .u8)) ∧ Below w.heap.size w w' := by
  have ht1 : ∀ o, Tabs (w.alloc o) := fun o => ht.below ht.sz ((Below.refl _ _).alloc (Nat.le_refl _) o)
  have ht2 : ∀ {o w1}, Below (w.alloc o).heap.size (w.alloc o) w1 → Tabs w1 := fun {o w1} hb => (ht1 o).below (ht1 o).sz hb
  have H1 : Hid (∀ o, Tabs (w.alloc o)) := ht1
  have H2 : Hid (∀ {o w1}, Below (w.alloc o).heap.size (w.alloc o) w1 → Tabs w1) := ht2
  clear ht1 ht2
  have hcb : (chk k d a b n l == 0) = true := by simp [hc]
  have HC : Hid (chk k d a b n l = 0) := hc
  clear hc
  obtain ⟨r1, r2⟩ := regOf_bd (u := kU k) hd ha hbb
  obtain ⟨r3, r4⟩ := regOf_bd (u := kL k) hd ha hbb
  obtain ⟨r5, r6⟩ := regOf_bd (u := kT k) hd ha hbb
  clear hd ha hbb
  have s1 := opS_lo h1 h2
  have s2 := opS_hi h1 h2
  obtain ⟨sz1, sz2⟩ := siz_bd k l h1 h2
  obtain ⟨i0, hi, hz0, hz1, hz2⟩ := info_parts info5
  have z1 := ht.sz
  have z0 : 0 < w.heap.size := by omega
  obtain ⟨c1, c2, c3⟩ := ht.op k (by omega) h2
  obtain ⟨c4, c5, c6, c7⟩ := ht.sh k (by omega) h2
  go_enter Tryd.func70, Tryd.ntmps70
  go_upto_region 6 with (first
    | (go_at_call 96; refine (check_any k d a b n l _ (H1.out _)).mono ?_; rintro e w' ⟨rfl, hb⟩; obtain ⟨hc1, hf1⟩ := bcell hb; have hz : w.heap.size < w'.heap.size := (by have := hb.size; simp at this; omega); have htw := H2.out hb; have z1' := htw.sz; have z0' : 0 < w'.heap.size := (by omega))
    | (go_at_call 94; refine (size_any k d a b n l _ h1 h2 ?_).mono ?_; (exact htw.below htw.sz ((Below.refl _ _).alloc (Nat.le_refl _) _)); rintro e w3 ⟨rfl, hb3⟩)
    | (at_make; refine wpList_make_own _ rfl _ _ 23 rfl (w3.heap.size) 5 i0 (.int .u8 0) 1 Tryd.underlying23 hi hz0 hz1 .i64 .i64 (siz k l) (siz k l).toNat rfl rfl (by omega) (by rw [hz2]; omega) (by unfold maxLen; omega) (Nat.le_refl _) ?_; intro w4 own4 grown4; have st4 := St.make hb hb3 grown4 (own4.lt _ rfl).2))
  clear hc1 hf1 hb hb3 grown4 c1 c2 c3 c4 c5 c6 c7 H1 H2 z1' z0' hz htw
  generalize w'.heap.size = Bs at *
  generalize w3.heap.size = g at *
  clear w' w3
  have htw : Tabs w4 := ht.below ht.sz st4.bel
  obtain ⟨ci, cs, b1, b2, b3, bel⟩ := st4
  have b4 : w.heap.size < w4.heap.size := by omega
  have b5 : Bs < w4.heap.size := by omega
  go_upto_region 7 with (first
    | (go_at_call 111; refine (first_any k d a b n l _ h1 h2 htw).mono ?_; rintro e w5 ⟨rfl, rfl⟩)
    | (at_builtin; refine wpList_append_own_spare _ rfl (.tmp 23) (.tmp 26) 23 rfl g 5 i0 1 Tryd.underlying23 hi hz1 g 0 (siz k l).toNat [] rfl ((own4.alloc _).alloc _) ⟨w4.heap.size + 1, 0, none⟩ 1 1 [.int .u8 (firB k l)] rfl rfl (by simpa using cell_one_new (w4.alloc _) _ _) (one_of _ rfl) (by omega) ?_; intro w5 own5 gr5))
  have st5 : St w w5 #[.int .i64 k, .int .i64 d, .int .i64 a, .int .i64 b, .int .i64 n, .bool l] #[.int .i64 (kU k), .int .i64 (kL k), .int .i64 (kT k), .int .i64 (kW k)] Bs g := ((St.mk ci cs b1 b2 b3 bel).alloc _ |>.alloc _).grown gr5
  clear ci cs b3 b4 b5 bel own4 htw gr5
  obtain ⟨ci, cs, _, _, b3, bel⟩ := st5
  have b4 : w.heap.size < w5.heap.size := by omega
  have b5 : Bs < w5.heap.size := by omega
  go_upto_if 30 with fail
  go_cut [6] (fun v wc => v = .slice (some ⟨g, 0, none⟩) (L2 k d a b l).length (siz k l).toNat ∧ St w wc #[.int .i64 k, .int .i64 d, .int .i64 a, .int .i64 b, .int .i64 n, .bool l] #[.int .i64 (kU k), .int .i64 (kL k), .int .i64 (kT k), .int .i64 (kW k)] Bs g ∧ wc.ownsRow g 5 1 v (L2 k d a b l).length ((L2 k d a b l).map (Value.int .u8)))
  case first =>
    by_cases hl0 : kL k = 0
    · have hlb : (kL k != 0) = false := by simp [hl0]
      have e2 : L2 k d a b l = [firB k l] := by simp [L2, L1, hl0]
      have st5 := St.mk ci cs b1 b2 b3 bel
      go_wp2
      go_meet
      case rel =>
        go_light
        rw [e2]
        exact ⟨rfl, st5, own5⟩
    · have hlb : (kL k != 0) = true := by simp [hl0]
      have i0' := ci 0
      have i1' := ci 1
      have i2' := ci 2
      have i3' := ci 3
      have i4' := ci 4
      have i5' := ci 5
      have s0' := cs 0
      have s1' := cs 1
      simp at i0' i1' i2' i3' i4' i5' s0' s1'
      have sz3 : 2 ≤ siz k l := by have := wid_bd k l h1 h2; unfold siz; rw [if_neg hl0]; split <;> omega
      have b6 : w.heap.size < w5.heap.size + 1 := by omega
      have b7 : Bs < w5.heap.size + 1 := by omega
      have b8 : w.heap.size < w5.heap.size + 1 + 1 := by omega
      have b9 : Bs < w5.heap.size + 1 + 1 := by omega
      go_upto_region 8 with fail
      have st5 := St.mk ci cs b1 b2 b3 bel
      go_region_held3 (fun w' => w'.cell? ⟨w.heap.size, 0, none⟩ = some (.int .i64 k) ∧ w'.cell? ⟨w.heap.size, 0 + 1, none⟩ = some (.int .i64 d) ∧ w'.cell? ⟨w.heap.size, 0 + 2, none⟩ = some (.int .i64 a) ∧ w'.cell? ⟨w.heap.size, 0 + 3, none⟩ = some (.int .i64 b) ∧ w'.cell? ⟨w.heap.size, 0 + 4, none⟩ = some (.int .i64 n) ∧ w'.cell? ⟨w.heap.size, 0 + 5, none⟩ = some (.bool l) ∧ w'.cell? ⟨Bs, 0, none⟩ = some (.int .i64 (kU k)) ∧ w'.cell? ⟨Bs, 1, none⟩ = some (.int .i64 (kL k))) (first | (simp [go_sem, *]; done) | exact St.cells8 ((((st5.alloc _).alloc _).alloc _).drew.grown gr6))
        (first | (go_at_call 112; refine (register_any k d a b n l _ _).mono ?_; rintro e w' ⟨rfl, rfl⟩) | (refine step_append_spare _ g 5 i0 1 Tryd.underlying23 hi hz1 g 1 (siz k l).toNat [.int .u8 (firB k l)] (by rfl) (by exact (((own5.alloc _).alloc _).alloc _).drew) ⟨w5.heap.size + 1 + 1, 0, none⟩ 1 1 [.int .u8 (IntKind.u8.wrap (IntKind.i64.wrap (IntKind.i64.wrap (16 * regOf (kU k) d a b) + regOf (kL k) d a b)))] (by rfl) (by rfl) (by intro j u hj; have := cell_one_new ((w5.alloc (.cells #[.int .i64 k, .int .i64 d, .int .i64 a, .int .i64 b, .int .i64 n, .bool l] 61)).alloc (.cells #[.int .i64 k, .int .i64 d, .int .i64 a, .int .i64 b, .int .i64 n, .bool l] 61)) _ 5 j u hj; simpa using this) (one_of _ rfl) (by omega) ?_; intro w6 own6 gr6))
      rw [wrap_pair r1 r2 r3 r4] at own6
      have st6 := ((((st5.alloc _).alloc _).alloc _).drew.grown gr6)
      have e2 : L2 k d a b l = [firB k l, 16 * regOf (kU k) d a b + regOf (kL k) d a b] := by simp [L2, L1, hl0]
      clear gr6
      go_wp2
      go_meet
      case rel =>
        go_light
        rw [e2]
        exact ⟨rfl, st6, own6⟩
  case rest =>
    obtain ⟨rfl, st6, own6⟩ := hcut
    clear ci cs b3 b4 b5 bel own5
    obtain ⟨ci, cs, _, _, b3, bel⟩ := st6
    have b4 : w.heap.size < wc.heap.size := by omega
    have b5 : Bs < wc.heap.size := by omega
    obtain ⟨w6, rfl⟩ : ∃ w6 : World, w6 = wc := ⟨_, rfl⟩
    go_upto_if 47 with fail
    go_cut [6] (fun v wc => v = .slice (some ⟨g, 0, none⟩) (L3 k d a b l).length (siz k l).toNat ∧ St w wc #[.int .i64 k, .int .i64 d, .int .i64 a, .int .i64 b, .int .i64 n, .bool l] #[.int .i64 (kU k), .int .i64 (kL k), .int .i64 (kT k), .int .i64 (kW k)] Bs g ∧ wc.ownsRow g 5 1 v (L3 k d a b l).length ((L3 k d a b l).map (Value.int .u8)))
    case first =>
      have st6 := St.mk ci cs b1 b2 b3 bel
      by_cases hl0 : kT k = 0
      · have hlb : (kT k != 0) = false := by simp [hl0]
        have e2 : L3 k d a b l = L2 k d a b l := by simp [L3, hl0]
        have E2 : Hid (L3 k d a b l = L2 k d a b l) := e2
        clear e2
        go_wp2
        go_meet
        case rel =>
          go_light
          rw [E2.out]
          exact ⟨rfl, st6, own6⟩
      · have hlb : (kT k != 0) = true := by simp [hl0]
        have e2 : L3 k d a b l = L2 k d a b l ++ [regOf (kT k) d a b] := by simp [L3, hl0]
        have E2 : Hid (L3 k d a b l = L2 k d a b l ++ [regOf (kT k) d a b]) := e2
        clear e2
        have hroom : (L2 k d a b l).length + 1 ≤ (siz k l).toNat := by
          have := L2_len k d a b l
          have := wid_bd k l h1 h2
          have hs : siz k l = 1 + wid k l + (if kL k = 0 then 0 else 1) + 1 := by unfold siz; rw [if_neg hl0]
          omega
        go_wp2_with (first
          | (go_at_call 112; refine (register_any k d a b n l _ _).mono ?_; rintro e w' ⟨rfl, rfl⟩)
          | (at_builtin; refine wpList_append_own_spare _ rfl (.tmp 48) (.tmp 54) 23 rfl g 5 i0 1 Tryd.underlying23 hi hz1 g (L2 k d a b l).length (siz k l).toNat ((L2 k d a b l).map (Value.int .u8)) rfl ((own6.alloc _).alloc _) ⟨w6.heap.size + 1, 0, none⟩ 1 1 [.int .u8 (regOf (kT k) d a b)] rfl rfl (by simpa using cell_one_new (w6.alloc _) _ _) (one_of _ rfl) hroom ?_; intro w7 own7 gr7))
        have st7 := ((st6.alloc _).alloc _).grown gr7
        clear gr7
        go_meet
        case rel =>
          go_light
          rw [E2.out]
          exact ⟨by simp, st7, by simpa using own7⟩
    case rest =>
      obtain ⟨rfl, st7, own7⟩ := hcut
      clear ci cs b3 b4 b5 bel own6
      obtain ⟨ci, cs, _, _, b3, bel⟩ := st7
      obtain ⟨w7, rfl⟩ : ∃ w7 : World, w7 = wc := ⟨_, rfl⟩
      have b4 : w.heap.size < w7.heap.size := by omega
      have b5 : Bs < w7.heap.size := by omega
      have htw : Tabs w7 := ht.below ht.sz bel
      have st7 := St.mk ci cs b1 b2 b3 bel
      obtain ⟨wd1, wd2⟩ := wid_bd k l h1 h2
      go_wp2_with (go_at_call 113; refine (width_any k d a b n l _ h1 h2 htw).mono ?_; rintro e w8 ⟨rfl, rfl⟩)
      go_loopw [6, 58] (fun v i wr => ∃ m : Nat, (m : Int) ≤ wid k l ∧ i = .int .i64 m ∧ v = .slice (some ⟨g, 0, none⟩) ((L3 k d a b l).length + m) (siz k l).toNat ∧ St w wr #[.int .i64 k, .int .i64 d, .int .i64 a, .int .i64 b, .int .i64 n, .bool l] #[.int .i64 (kU k), .int .i64 (kL k), .int .i64 (kT k), .int .i64 (kW k)] Bs g ∧ wr.ownsRow g 5 1 v ((L3 k d a b l).length + m) ((L3 k d a b l ++ nb n m).map (Value.int .u8))) (fun _ i _ => (wid k l - intOf i).toNat)
      case atStart => exact ⟨0, by omega, rfl, rfl, st7.alloc _, by simpa [nb] using own7.alloc _⟩
      case round =>
        obtain ⟨m, hm, rfl, rfl, str, ownr⟩ := hrel
        clear ci cs b3 b4 b5 bel own7 st7 htw
        obtain ⟨ci, cs, _, _, b3, bel⟩ := str
        have b4 : w.heap.size < wr.heap.size := by omega
        by_cases hlt : (m : Int) < wid k l
        · have hroom : (L3 k d a b l).length + m + 1 ≤ (siz k l).toNat := by
            have := L3_len k d a b l
            omega
          have str := St.mk ci cs b1 b2 b3 bel
          rcases (show m = 0 ∨ m = 1 by omega) with rfl | rfl
          · have ownr : wr.ownsRow g 5 1 (.slice (some ⟨g, 0, none⟩) (L3 k d a b l).length (siz k l).toNat) (L3 k d a b l).length ((L3 k d a b l).map (Value.int .u8)) := by simpa [nb] using ownr
            have hroom : (L3 k d a b l).length + 1 ≤ (siz k l).toNat := by omega
            go_wp2_with (at_builtin; refine wpList_append_own_spare _ rfl (.tmp 61) (.tmp 68) 23 rfl g 5 i0 1 Tryd.underlying23 hi hz1 g (L3 k d a b l).length (siz k l).toNat ((L3 k d a b l).map (Value.int .u8)) rfl (ownr.alloc _) ⟨wr.heap.size, 0, none⟩ 1 1 [.int .u8 (n % 256)] rfl rfl (cell_one_new _ _ _) (one_of _ rfl) hroom ?_; intro w9 own9 gr9)
            have st9 := (str.alloc _).grown gr9
            clear gr9
            go_roundw
            case rel =>
              go_light
              exact ⟨1, by omega, by go_num, rfl, st9, by simpa [nb] using own9⟩
            case measure => go_light; simp [intOf]; omega
          · go_wp2_with (at_builtin; refine wpList_append_own_spare _ rfl (.tmp 61) (.tmp 68) 23 rfl g 5 i0 1 Tryd.underlying23 hi hz1 g ((L3 k d a b l).length + 1) (siz k l).toNat ((L3 k d a b l ++ nb n 1).map (Value.int .u8)) rfl (ownr.alloc _) ⟨wr.heap.size, 0, none⟩ 1 1 [.int .u8 (n / 256 % 256)] rfl rfl (cell_one_new _ _ _) (one_of _ rfl) hroom ?_; intro w9 own9 gr9)
            have st9 := (str.alloc _).grown gr9
            clear gr9
            go_roundw
            case rel =>
              go_light
              exact ⟨2, by omega, by go_num, rfl, st9, by simpa [nb] using own9⟩
            case measure => go_light; simp [intOf]; omega
        · have hmw : (m : Int) = wid k l := by omega
          have hnot : ¬ (m : Int) < wid k l := hlt
          have hlen : Hid ((encL k d a b n l).length = (L3 k d a b l).length + m ∧ encL k d a b n l = L3 k d a b l ++ nb n m) := by
            show _ ∧ _
            have e : (wid k l).toNat = m := by omega
            have e2 : encL k d a b n l = L3 k d a b l ++ nb n m := by unfold encL; rw [e]
            refine ⟨?_, e2⟩
            rw [e2, List.length_append]
            have : (nb n m).length = m := by
              rcases (show m = 0 ∨ m = 1 ∨ m = 2 by omega) with rfl | rfl | rfl <;> rfl
            omega
          have str := St.mk ci cs b1 b2 b3 bel
          clear hmw
          go_wp2
          go_ret2
          obtain ⟨q1, q2⟩ := hlen.out
          refine ⟨g, by rw [q1]; rfl, ?_, bel⟩
          rw [q1, q2]
          exact ownsRow_le ownr (by omega)
end Go.Proofs.YtechpdfcgimkkaaDoor
/-
  isa.Encode, whole; a slice of bytes as a string.
-/
namespace Go.Proofs.YtechpdfcgimkkaaDoor
open Go.RowKit Go.Joins Isa
/-- What Encode answers: the bytes, in memory of its own; or nil and the error. -/
def EncOut (k d a b n : Int) (l : Bool) (w : World) (e : Ending) (w' : World) : Prop :=
  (chk k d a b n l ≠ 0 ∧ e = .returned (.tuple #[.slice none 0 0, .int .i64 (chk k d a b n l)]) ∧ Below w.heap.size w w') ∨
  (chk k d a b n l = 0 ∧ ∃ g cap, e = .returned (.tuple #[.slice (some ⟨g, 0, none⟩) (encL k d a b n l).length cap, .int .i64 0]) ∧ w'.ownsRow w.heap.size 5 1 (.slice (some ⟨g, 0, none⟩) (encL k d a b n l).length cap) (encL k d a b n l).length ((encL k d a b n l).map (Value.int .u8)) ∧ Below w.heap.size w w')
set_option maxRecDepth 100000 in
set_option maxHeartbeats 400000 in
theorem encode_any (k d a b n : Int) (l : Bool) (w : World) (ht : Tabs w) : Calls Tryd.prog 70 #[.agg #[.int .i64 k, .int .i64 d, .int .i64 a, .int .i64 b, .int .i64 n, .bool l]] w (EncOut k d a b n l w) := by
  by_cases hc : chk k d a b n l = 0
  · obtain ⟨h1, h2, _, hd, ha, hb, _⟩ := chk_zero hc
    refine (enc_ok k d a b n l w ht hc h1 h2 hd ha hb).mono ?_
    rintro e w' ⟨g, he, ho, hb'⟩
    exact Or.inr ⟨hc, g, _, he, ho, hb'⟩
  · have ht1 : ∀ o, Tabs (w.alloc o) := fun o => ht.below ht.sz ((Below.refl _ _).alloc (Nat.le_refl _) o)
    have H1 : Hid (∀ o, Tabs (w.alloc o)) := ht1
    clear ht1
    have hcb : (chk k d a b n l == 0) = false := by simp [hc]
    have HC : Hid (chk k d a b n l ≠ 0) := hc
    clear hc
    go_enter Tryd.func70, Tryd.ntmps70
    go_wp2_with (first | (go_at_call 96; refine (check_any k d a b n l _ (H1.out _)).mono ?_; rintro e w' ⟨rfl, hb⟩; obtain ⟨hc1, hf1⟩ := bcell hb))
    go_ret2
    exact Or.inl ⟨HC.out, rfl, (Below.alloc (Below.refl _ _) (Nat.le_refl _) _).trans (hb.mono (by simp))⟩
/-- Bytes as a string's. -/
def strOf (ns : List Int) : ByteArray := ns.foldl (fun r n => r.push (UInt8.ofNat n.toNat)) ByteArray.empty
theorem conv_own {w : World} {base g n cap : Nat} {ns : List Int} (h : w.ownsRow base 5 1 (.slice (some ⟨g, 0, none⟩) n cap) n (ns.map (Value.int .u8))) :
    (convert 23 9 (.slice (some ⟨g, 0, none⟩) n cap)).run Tryd.prog w = .ok (.string (strOf ns)) w := by
  have hl : n = ns.length := by have := h.1; simp at this; omega
  rw [run_convert_bytes_string w 23 9 5 _ _ _ Tryd.underlying23 Tryd.underlying5 Tryd.underlying9]
  refine run_bytesToString w _ _ _ ns ?_
  have := run_loadCells_list (P := Tryd.prog) (w := w) ⟨g, 0, none⟩ (ns.map (Value.int .u8)) (h.cells rfl)
  rw [hl]
  simpa using this
theorem conv_nil {w : World} : (convert 23 9 (.slice none 0 0)).run Tryd.prog w = .ok (.string ByteArray.empty) w := by
  rw [run_convert_bytes_string w 23 9 5 _ _ _ Tryd.underlying23 Tryd.underlying5 Tryd.underlying9]; rfl
theorem own_below {w w' : World} {base e n : Nat} {v : Value} {xs : List Value} (h : w.ownsRow base e 1 v n xs) (hb : Below w.heap.size w w') : w'.ownsRow base e 1 v n xs := by
  refine ⟨h.1, ?_⟩
  rcases h.2 with h2 | ⟨g, cap, cur, hv, hg, hh, r⟩
  · exact Or.inl h2
  · refine Or.inr ⟨g, cap, cur, hv, hg, ?_, r⟩
    have hlt : g < w.heap.size := by
      rcases Nat.lt_or_ge g w.heap.size with q | q
      · exact q
      · rw [Array.getElem?_eq_none q] at hh; cases hh
    rw [hb.block g hlt]; exact hh
end Go.Proofs.YtechpdfcgimkkaaDoor
/-
  Raws; instructions in a row: their bytes, their cells.
-/
namespace Go.Proofs.YtechpdfcgimkkaaDoor
open Go.RowKit Go.Joins Isa
theorem encL_len {k d a b n : Int} {l : Bool} (h1 : 1 ≤ k) (h2 : k ≤ 24) : ((encL k d a b n l).length : Int) = siz k l := by
  have hw := wid_bd k l h1 h2
  unfold encL
  rw [List.length_append]
  have := L3_len k d a b l
  have e : (nb n (wid k l).toNat).length = (wid k l).toNat := by
    rcases (show (wid k l).toNat = 0 ∨ (wid k l).toNat = 1 ∨ (wid k l).toNat = 2 by omega) with q | q | q <;> rw [q] <;> rfl
  omega
theorem fir_byte {k : Int} {l : Bool} (h1 : 1 ≤ k) (h2 : k ≤ 24) : 0 ≤ firB k l ∧ firB k l ≤ 255 := by
  cases l <;> rcases kinds h1 h2 with rfl | rfl | rfl | rfl | rfl | rfl | rfl | rfl | rfl | rfl | rfl | rfl | rfl | rfl | rfl | rfl | rfl | rfl | rfl | rfl | rfl | rfl | rfl | rfl <;> decide
theorem enc_bytes {k d a b n : Int} {l : Bool} (h : Isa.chk k d a b n l = 0) : ∀ x ∈ encL k d a b n l, 0 ≤ x ∧ x ≤ 255 := by
  obtain ⟨h1, h2, _, hd, ha, hb, _⟩ := chk_zero h
  obtain ⟨r1, r2⟩ := regOf_bd (u := kU k) hd ha hb
  obtain ⟨r3, r4⟩ := regOf_bd (u := kL k) hd ha hb
  obtain ⟨r5, r6⟩ := regOf_bd (u := kT k) hd ha hb
  have hw := wid_bd k l h1 h2
  intro x hx
  unfold encL L3 L2 L1 at hx
  rw [List.mem_append, List.mem_append, List.mem_append] at hx
  rcases hx with ((hx | hx) | hx) | hx
  · simp at hx; subst hx; exact fir_byte h1 h2
  · split at hx
    · simp at hx
    · simp at hx; subst hx; omega
  · split at hx
    · simp at hx
    · simp at hx; subst hx; omega
  · rcases (show (wid k l).toNat = 0 ∨ (wid k l).toNat = 1 ∨ (wid k l).toNat = 2 by omega) with q | q | q
    · rw [q] at hx; simp [nb] at hx
    · rw [q] at hx; simp [nb] at hx; subst hx; omega
    · rw [q] at hx; simp [nb] at hx; rcases hx with rfl | rfl <;> omega
structure Rw where
  K : Int
  A : Int
  B : Int
  C : Int
def Rw.ok (r : Rw) : Prop := -9223372036854775808 ≤ r.K ∧ r.K ≤ 9223372036854775807 ∧ -9223372036854775808 ≤ r.A ∧ r.A ≤ 9223372036854775807 ∧ -9223372036854775808 ≤ r.B ∧ r.B ≤ 9223372036854775807 ∧ -9223372036854775808 ≤ r.C ∧ r.C ≤ 9223372036854775807
def RawsAt (w : World) (v : Value) (rs : List Rw) : Prop :=
  (∀ r ∈ rs, r.ok) ∧ ((∃ a cap, v = .slice a 0 cap ∧ rs = []) ∨ ∃ bb oo cap, v = .slice (some ⟨bb, oo, none⟩) rs.length cap ∧ rs.length ≤ cap ∧ cap ≤ maxLen ∧ bb < w.heap.size ∧
    ∀ j r, rs[j]? = some r → w.cell? ⟨bb, oo + j * 4, none⟩ = some (.int .i64 r.K) ∧ w.cell? ⟨bb, oo + j * 4 + 1, none⟩ = some (.int .i64 r.A) ∧ w.cell? ⟨bb, oo + j * 4 + 2, none⟩ = some (.int .i64 r.B) ∧ w.cell? ⟨bb, oo + j * 4 + 3, none⟩ = some (.int .i64 r.C))
def encI (i : Ins) : List Int := encL i.k i.d i.a i.b i.n i.l
def valI (i : Ins) : List Value := [.int .i64 i.k, .int .i64 i.d, .int .i64 i.a, .int .i64 i.b, .int .i64 i.n, .bool i.l]
def encAll (is : List Ins) : List Int := is.flatMap encI
def valAll (is : List Ins) : List Value := is.flatMap valI
theorem encAll_append (x y : List Ins) : encAll (x ++ y) = encAll x ++ encAll y := List.flatMap_append
theorem valAll_append (x y : List Ins) : valAll (x ++ y) = valAll x ++ valAll y := List.flatMap_append
theorem valAll_len (is : List Ins) : (valAll is).length = is.length * 6 := by
  induction is with
  | nil => rfl
  | cons i is ih => rw [show valAll (i :: is) = (valI i) ++ valAll is from rfl, List.length_append, ih]; simp [valI]; omega
theorem valAll_at (is : List Ins) (j : Nat) (i : Ins) (h : is[j]? = some i) (o : Nat) (ho : o < 6) : (valAll is)[j * 6 + o]? = (valI i)[o]? := by
  induction is generalizing j with
  | nil => simp at h
  | cons i0 is ih =>
    rw [show valAll (i0 :: is) = (valI i0) ++ valAll is from rfl]
    cases j with
    | zero => simp at h; subst h; rw [List.getElem?_append_left (by simp [valI]; omega), Nat.zero_mul, Nat.zero_add]
    | succ j =>
      rw [List.getElem?_append_right (by simp [valI]; omega), show (j + 1) * 6 + o - (valI i0).length = j * 6 + o by simp [valI]; omega]
      exact ih j (by simpa using h)
theorem encAll_len (is : List Ins) (h : ∀ i ∈ is, i.chk = 0) : (encAll is).length ≤ is.length * 5 := by
  induction is with
  | nil => simp [encAll]
  | cons i is ih =>
    rw [show encAll (i :: is) = (encI i) ++ encAll is from rfl, List.length_append]
    have := ih fun j hj => h j (List.mem_cons_of_mem _ hj)
    obtain ⟨h1, h2, _⟩ := chk_zero (h i (List.mem_cons_self ..))
    have hl := encL_len (d := i.d) (a := i.a) (b := i.b) (n := i.n) (l := i.l) h1 h2
    have hs : siz i.k i.l ≤ 5 := by have := wid_bd i.k i.l h1 h2; unfold siz; split <;> split <;> omega
    have : (encI i).length ≤ 5 := by unfold encI; omega
    simp only [List.length_cons]
    omega
theorem encAll_bytes (is : List Ins) (h : ∀ i ∈ is, i.chk = 0) : ∀ x ∈ encAll is, 0 ≤ x ∧ x ≤ 255 := by
  intro x hx
  obtain ⟨i, hi, hx⟩ := List.mem_flatMap.1 hx
  exact enc_bytes (h i hi) x hx
theorem row_below {w w' : World} {base : Nat} {e : TypeId} {size : Nat} {v : Value} {n : Nat} {xs : List Value} (h : w.ownsRow base e size v n xs) (hb : Below w.heap.size w w') : w'.ownsRow base e size v n xs :=
  h.kept (row := none) ⟨hb.os, hb.tape, hb.output, hb.size, fun k hk _ => hb.block k hk⟩ (by cases v.ownBlock <;> simp)
theorem infoI : (Tryd.prog.info? 61).map (fun i => (i.zero, i.size, i.bytes)) = some (some (.agg #[.int .i64 0, .int .i64 0, .int .i64 0, .int .i64 0, .int .i64 0, .bool false]), 6, 48) := by kernel_rfl
theorem one_vals (i : Ins) : ∀ u ∈ valI i, u.oneCell' = true := by
  intro u hu
  simp [valI] at hu
  rcases hu with rfl | rfl | rfl | rfl | rfl | rfl <;> rfl
theorem one_bytes (ns : List Int) : ∀ u ∈ ns.map (Value.int .u8), u.oneCell' = true := ints_oneCell .u8 ns
end Go.Proofs.YtechpdfcgimkkaaDoor
