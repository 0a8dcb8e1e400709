/-
  What P2.4 says, in plain lists: the image that the bytes say may be walked over; an image's bytes are the bytes that it was read from.
-/
import Derived.Test.YtmibbjjfijcgpacWalkMk
namespace Go.Proofs.Ytmibbjjfijcgpac
open Go.RowKit Go.Joins
abbrev Rd.byt (r : Rd) : Prop := ∀ x ∈ r.left, 0 ≤ x ∧ x ≤ 255
theorem many_inv {σ α : Type} (I : Nat → σ → Prop) (P : α → Prop) (f : σ → α × σ) (n : Nat) (s : σ) (h0 : I 0 s) (hs : ∀ k s, k < n → I k s → P (f s).1 ∧ I (k + 1) (f s).2) : (∀ a ∈ (many f n s).1, P a) ∧ I n (many f n s).2 := by
  induction n with
  | zero => exact ⟨fun a ha => (by cases ha), h0⟩
  | succ n ih =>
    obtain ⟨h1, h2⟩ := ih (fun k s hk => hs k s (by omega))
    obtain ⟨h3, h4⟩ := hs n _ (by omega) h2
    refine ⟨fun a ha => ?_, h4⟩
    rw [many] at ha
    rcases List.mem_append.1 ha with q | q
    · exact h1 a q
    · rw [List.mem_singleton.1 q]; exact h3
theorem jstr_list (ns : List Int) : ∀ acc : ByteArray, (ns.foldl (fun r n => r.push (UInt8.ofNat n.toNat)) acc).data.toList = acc.data.toList ++ ns.map (fun n => UInt8.ofNat n.toNat) := by
  induction ns with
  | nil => intro acc; simp
  | cons n ns ih => intro acc; rw [List.foldl_cons, ih]; simp [ByteArray.push]
theorem jstr_data (ns : List Int) : (jstr ns).data.toList = ns.map (fun n => UInt8.ofNat n.toNat) := by unfold jstr; rw [jstr_list]; rfl
theorem jstr_size (ns : List Int) : (jstr ns).size = ns.length := by
  have := congrArg List.length (jstr_data ns)
  simpa using this
theorem nameB_jstr (ns : List Int) (h : ∀ x ∈ ns, 0 ≤ x ∧ x ≤ 255) : nameB (jstr ns) = ns := by
  unfold nameB
  rw [jstr_data, List.map_map]
  have : ∀ x ∈ ns, ((fun b : UInt8 => (b.toNat : Int)) ∘ fun n : Int => UInt8.ofNat n.toNat) x = x := fun x hx => by
    obtain ⟨h1, h2⟩ := h x hx
    simp [UInt8.toNat_ofNat']
    omega
  rw [List.map_congr_left this]
  simp
theorem num8_bd (r : Rd) (h : r.byt) : i64 (r.num 8).1 := by
  have b1 := bval_bd _ (take_bytes r 8 h)
  have c1 := bval_64 _ (take_bytes r 8 h) 8 (take_len r 8)
  have e1 : bval (r.take 8).1 < 18446744073709551616 := c1
  unfold Rd.num toI i64
  simp only []
  split <;> omega
theorem fn_okm (n : Nat) (hn : n ≤ 255) (r : Rd) (h : r.byt) : ∀ f ∈ (many rdFn n (r, 0)).1, f.ok :=
  (many_inv (fun (k : Nat) (s : Rd × Int) => s.1.byt ∧ (0 : Int) ≤ s.2 ∧ s.2 ≤ (k : Int) * 65535) Fn.ok rdFn n (r, 0) ⟨h, by simp, by simp⟩ (fun k s hk ⟨h1, h2, h3⟩ => by
    obtain ⟨z1, z2, z3⟩ := rdFn_size s h1
    obtain ⟨⟨y1, y2⟩, _⟩ := num_bd _ h1
    have hl := take_len (s.1.num 1).2 (s.1.num 1).1.toNat
    have hsz : (rdFn s).1.name.size = ((s.1.num 1).2.take (s.1.num 1).1.toNat).1.length := jstr_size _
    have hst : (rdFn s).1.start = s.2 := rfl
    refine ⟨⟨by rw [hsz]; unfold maxLen; omega, by rw [hst]; unfold i64; omega, by unfold i64; omega⟩, rdFn_left s h1, by rw [z3]; omega, by rw [z3]; omega⟩)).1
theorem tab_okm (s : Rd) (hs : s.byt) : ∀ x ∈ s.tab.1, i64 x :=
  (many_inv (fun (_ : Nat) (s : Rd) => s.byt) i64 (fun r : Rd => r.num 2) (s.num 1).1.toNat (s.num 1).2 (num_left s 1 hs) (fun k s _ h1 => by
    obtain ⟨_, ⟨y1, y2⟩⟩ := num_bd s h1
    exact ⟨by unfold i64; omega, num_left s 2 h1⟩)).1
theorem tabs_okm (n : Nat) (r : Rd) (h : r.byt) : ∀ t ∈ (many Rd.tab n r).1, ∀ x ∈ t, i64 x :=
  (many_inv (fun (_ : Nat) (s : Rd) => s.byt) (fun t : List Int => ∀ x ∈ t, i64 x) Rd.tab n r h (fun _ s _ h1 => ⟨tab_okm s h1, tab_left s h1⟩)).1
theorem data_okm (n : Nat) (r : Rd) (h : r.byt) : ∀ x ∈ (many (fun r : Rd => r.num 8) n r).1, i64 x :=
  (many_inv (fun (_ : Nat) (s : Rd) => s.byt) i64 (fun r : Rd => r.num 8) n r h (fun _ s _ h1 => ⟨num8_bd s h1, num_left s 8 h1⟩)).1
theorem lines_okm (n : Nat) (r : Rd) (h : r.byt) : ∀ x ∈ (many Rd.line n r).1, x.ok :=
  (many_inv (fun (_ : Nat) (s : Rd) => s.byt) Ln.ok Rd.line n r h (fun k s _ h1 => by
    obtain ⟨_, ⟨y1, y2⟩⟩ := num_bd s h1
    obtain ⟨_, ⟨y3, y4⟩⟩ := num_bd _ (num_left s 2 h1)
    exact ⟨⟨by show i64 (s.num 2).1; unfold i64; omega, by show i64 ((s.num 2).2.num 2).1; unfold i64; omega⟩, line_left s h1⟩)).1
/-- What is left stays bytes, step by step. -/
theorem rdImg_bytes {r ra r1 r2 r3 r4 r5 r6 r7 r8 r9 r10 : Rd} {n nf nt nd nl : Nat} {xs : List Int} {fs : List Fn} {z en : Int} {ts : List (List Int)} {ds : List Int} {ls : List Ln} (hb : r.byt)
    (e1 : r.num 2 = ((n : Int), ra)) (e2 : ra.take n = (xs, r1)) (e3 : r1.num 1 = ((nf : Int), r2)) (e4 : many rdFn nf (r2, 0) = (fs, (r3, z))) (e5 : r3.num 1 = (en, r4)) (e6 : r4.num 1 = ((nt : Int), r5)) (e7 : many Rd.tab nt r5 = (ts, r6))
    (e8 : r6.num 1 = ((nd : Int), r7)) (e9 : many (fun r : Rd => r.num 8) nd r7 = (ds, r8)) (e10 : r8.num 2 = ((nl : Int), r9)) (_e11 : many Rd.line nl r9 = (ls, r10)) : ra.byt ∧ r1.byt ∧ r2.byt ∧ r3.byt ∧ r4.byt ∧ r5.byt ∧ r6.byt ∧ r7.byt ∧ r8.byt ∧ r9.byt := by
  have la : ra.byt := by have := num_left r 2 hb; rw [e1] at this; exact this
  have l1 : r1.byt := by have := take_left ra n la; rw [e2] at this; exact this
  have l2 : r2.byt := by have := num_left r1 1 l1; rw [e3] at this; exact this
  have l3 : r3.byt := by have := many_left Prod.fst rdFn rdFn_left nf (r2, 0) l2; rw [e4] at this; exact this
  have l4 : r4.byt := by have := num_left r3 1 l3; rw [e5] at this; exact this
  have l5 : r5.byt := by have := num_left r4 1 l4; rw [e6] at this; exact this
  have l6 : r6.byt := by have := many_left id Rd.tab tab_left nt r5 l5; rw [e7] at this; exact this
  have l7 : r7.byt := by have := num_left r6 1 l6; rw [e8] at this; exact this
  have l8 : r8.byt := by have := many_left id (fun r : Rd => r.num 8) (fun s hs => num_left s 8 hs) nd r7 l7; rw [e9] at this; exact this
  have l9 : r9.byt := by have := num_left r8 2 l8; rw [e10] at this; exact this
  exact ⟨la, l1, l2, l3, l4, l5, l6, l7, l8, l9⟩
theorem rdImg_ok (r : Rd) (h : r.byt) : (rdImg r).1.ok := by
  obtain ⟨ra, r1, r2, r3, r4, r5, r6, r7, r8, r9, r10, n, nf, nt, nd, nl, xs, fs, z, en, ts, ds, ls, ⟨e1, e2, e3, e4, e5, e6, e7, e8, e9, e10, e11⟩, b1, b2, b3, b4, b5, b6, z1, z2, z3, z4, z5⟩ := rdImg_all r h
  obtain ⟨la, l1, l2, l3, l4, l5, l6, l7, l8, l9⟩ := rdImg_bytes h e1 e2 e3 e4 e5 e6 e7 e8 e9 e10 e11
  rw [rdImg_parts e1 e2 e3 e4 e5 e6 e7 e8 e9 e10 e11]
  obtain ⟨⟨en1, en2⟩, _⟩ := num_bd r3 l3
  rw [e5] at en1 en2
  simp only [] at en1 en2
  have k1 := take_bytes ra n la
  rw [e2] at k1
  have k2 := fn_okm nf (by omega) r2 l2
  rw [e4] at k2
  have k3 := tabs_okm nt r5 l5
  rw [e7] at k3
  have k4 := data_okm nd r7 l7
  rw [e9] at k4
  have k5 := lines_okm nl r9 l9
  rw [e11] at k5
  exact ⟨k1, k2, k3, k4, k5, by show i64 en; unfold i64; omega⟩
theorem p256 (k : Nat) : (2 : Int) ^ (8 * k) = 256 ^ k := by
  have h : (2 : Nat) ^ (8 * k) = 256 ^ k := by rw [Nat.pow_mul]
  have := congrArg (fun n : Nat => (n : Int)) h
  simpa using this
theorem bval_from (bs : List Int) : ∀ a : Int, bs.foldl (fun n b => n * 256 + b) a = a * 256 ^ bs.length + bval bs := by
  induction bs with
  | nil => intro a; simp [bval]
  | cons b bs ih =>
    intro a
    have e : bval (b :: bs) = b * 256 ^ bs.length + bval bs := by unfold bval; rw [List.foldl_cons, ih]; simp [bval]
    rw [List.foldl_cons, ih, e, List.length_cons, Int.pow_succ, Int.add_mul, Int.mul_assoc, Int.mul_comm 256, Int.add_assoc]
theorem bval_cons (b : Int) (bs : List Int) : bval (b :: bs) = b * 256 ^ bs.length + bval bs := by unfold bval; rw [List.foldl_cons, bval_from]; simp [bval]
theorem be_of (bs : List Int) (h : ∀ x ∈ bs, 0 ≤ x ∧ x ≤ 255) : ∀ c : Int, be bs.length (bval bs + c * 256 ^ bs.length) = bs := by
  induction bs with
  | nil => intro c; rfl
  | cons b bs ih =>
    intro c
    obtain ⟨b1, b2⟩ := h b (List.mem_cons_self ..)
    have hb : ∀ x ∈ bs, 0 ≤ x ∧ x ≤ 255 := fun x hx => h x (List.mem_cons_of_mem _ hx)
    obtain ⟨v1, v2⟩ := bval_bd bs hb
    have ih' := ih hb (b + c * 256)
    have e : bval (b :: bs) + c * 256 ^ (b :: bs).length = bval bs + (b + c * 256) * 256 ^ bs.length := by
      rw [bval_cons, List.length_cons, Int.pow_succ, Int.add_mul, Int.mul_assoc, Int.mul_comm 256]
      omega
    rw [e, List.length_cons, be, ih', p256]
    have hp : (0 : Int) < 256 ^ bs.length := by omega
    rw [Int.add_mul_ediv_right _ _ (by omega), Int.ediv_eq_zero_of_lt v1 v2]
    congr 1
    omega
theorem be_num (bs : List Int) (h : ∀ x ∈ bs, 0 ≤ x ∧ x ≤ 255) (k : Nat) (hk : bs.length = k) (h8 : k ≤ 8) : be k (toI (bval bs)) = bs := by
  subst hk
  obtain ⟨v1, v2⟩ := bval_bd bs h
  unfold toI
  split
  · have := be_of bs h 0
    rw [Int.zero_mul, Int.add_zero] at this
    exact this
  · rename_i q
    have h8' : bs.length = 8 := by
      rcases Nat.lt_or_ge bs.length 8 with q2 | q2
      · have := bval_64 bs h 7 (by omega)
        have e : (256 : Int) ^ 7 = 72057594037927936 := by decide
        rw [e] at this
        omega
      · omega
    have := be_of bs h (-1)
    rw [h8'] at this ⊢
    have e : (256 : Int) ^ 8 = 18446744073709551616 := by decide
    rw [e] at this
    rw [show bval bs - 18446744073709551616 = bval bs + -1 * 18446744073709551616 by omega]
    exact this
theorem take_keep (r : Rd) (n : Nat) (h : (r.take n).2.short = false) : r.short = false ∧ r.left = (r.take n).1 ++ (r.take n).2.left ∧ (r.take n).1.length = n := by
  unfold Rd.take at h ⊢
  split at h
  · cases h
  · rename_i q
    rw [if_neg q]
    exact ⟨h, (List.take_append_drop n r.left).symm, by rw [List.length_take]; omega⟩
theorem num_keep (r : Rd) (hb : r.byt) (k : Nat) (hk : k ≤ 8) (h : (r.num k).2.short = false) : r.short = false ∧ r.left = be k (r.num k).1 ++ (r.num k).2.left := by
  obtain ⟨h1, h2, h3⟩ := take_keep r k h
  refine ⟨h1, ?_⟩
  have e : be k (r.num k).1 = (r.take k).1 := be_num _ (take_bytes r k hb) k h3 hk
  rw [e]
  exact h2
theorem many_keep {σ α : Type} (p : σ → Rd) (f : σ → α × σ) (enc : α → List Int) (hb : ∀ s, (p s).byt → (p (f s).2).byt) (hf : ∀ s, (p s).byt → (p (f s).2).short = false → (p s).short = false ∧ (p s).left = enc (f s).1 ++ (p (f s).2).left) (n : Nat) (s : σ) (h : (p s).byt) (hs : (p (many f n s).2).short = false) :
    (p s).short = false ∧ (p s).left = (many f n s).1.flatMap enc ++ (p (many f n s).2).left := by
  induction n with
  | zero => exact ⟨hs, rfl⟩
  | succ n ih =>
    obtain ⟨h1, h2⟩ := hf _ (many_left p f hb n s h) hs
    obtain ⟨h3, h4⟩ := ih h1
    refine ⟨h3, ?_⟩
    rw [h4, h2]
    show _ = ((many f n s).1 ++ [(f (many f n s).2).1]).flatMap enc ++ (p (f (many f n s).2).2).left
    rw [List.flatMap_append, List.append_assoc]
    simp
theorem rdFn_keep (s : Rd × Int) (hb : s.1.byt) (h : (rdFn s).2.1.short = false) : s.1.short = false ∧ s.1.left = encF (rdFn s).1 ++ (rdFn s).2.1.left := by
  have l1 := num_left s.1 1 hb
  have l2 := take_left _ (s.1.num 1).1.toNat l1
  obtain ⟨⟨y1, y2⟩, _⟩ := num_bd _ hb
  obtain ⟨a1, a2⟩ := num_keep _ l2 2 (by omega) h
  obtain ⟨b1, b2, b3⟩ := take_keep _ _ a1
  obtain ⟨c1, c2⟩ := num_keep _ hb 1 (by omega) b1
  refine ⟨c1, ?_⟩
  have e1 : nameB (rdFn s).1.name = ((s.1.num 1).2.take (s.1.num 1).1.toNat).1 := nameB_jstr _ (take_bytes _ _ l1)
  have e2 : ((rdFn s).1.name.size : Int) = (s.1.num 1).1 := by
    have : (rdFn s).1.name.size = ((s.1.num 1).2.take (s.1.num 1).1.toNat).1.length := jstr_size _
    rw [this, b3]; omega
  unfold encF
  rw [e1, e2, c2, b2, a2, List.append_assoc, List.append_assoc]
  rfl
theorem tab_keep (r : Rd) (hb : r.byt) (h : r.tab.2.short = false) : r.short = false ∧ r.left = encT r.tab.1 ++ r.tab.2.left := by
  obtain ⟨⟨y1, y2⟩, _⟩ := num_bd _ hb
  obtain ⟨a1, a2⟩ := many_keep id (fun r : Rd => r.num 2) (be 2) (fun s hs => num_left s 2 hs) (fun s hs h => num_keep s hs 2 (by omega) h) _ _ (num_left r 1 hb) h
  obtain ⟨c1, c2⟩ := num_keep _ hb 1 (by omega) a1
  refine ⟨c1, ?_⟩
  have e : (r.tab.1.length : Int) = (r.num 1).1 := by unfold Rd.tab; rw [many_len]; omega
  unfold encT
  rw [e, c2, List.append_assoc]
  exact congrArg (be 1 (r.num 1).1 ++ ·) a2
theorem line_keep (r : Rd) (hb : r.byt) (h : r.line.2.short = false) : r.short = false ∧ r.left = encLn r.line.1 ++ r.line.2.left := by
  obtain ⟨a1, a2⟩ := num_keep _ (num_left r 2 hb) 2 (by omega) h
  obtain ⟨c1, c2⟩ := num_keep _ hb 2 (by omega) a1
  refine ⟨c1, ?_⟩
  unfold encLn
  rw [c2, a2, List.append_assoc]
  rfl
/-- No image has two forms. -/
theorem rdImg_keep (r : Rd) (hb : r.byt) (h : (rdImg r).2.short = false) : r.short = false ∧ magic ++ r.left = encImg (rdImg r).1 ++ (rdImg r).2.left := by
  obtain ⟨ra, r1, r2, r3, r4, r5, r6, r7, r8, r9, r10, n, nf, nt, nd, nl, xs, fs, z, en, ts, ds, ls, ⟨e1, e2, e3, e4, e5, e6, e7, e8, e9, e10, e11⟩, b1, b2, b3, b4, b5, b6, z1, z2, z3, z4, z5⟩ := rdImg_all r hb
  rw [rdImg_parts e1 e2 e3 e4 e5 e6 e7 e8 e9 e10 e11] at h ⊢
  obtain ⟨la, l1, l2, l3, l4, l5, l6, l7, l8, l9⟩ := rdImg_bytes hb e1 e2 e3 e4 e5 e6 e7 e8 e9 e10 e11
  have k11 := many_keep id Rd.line encLn line_left line_keep nl r9 l9 (by rw [e11]; exact h)
  rw [e11] at k11
  have k10 := num_keep r8 l8 2 (by omega) (by rw [e10]; exact k11.1)
  rw [e10] at k10
  have k9 := many_keep id (fun r : Rd => r.num 8) (be 8) (fun s hs => num_left s 8 hs) (fun s hs h => num_keep s hs 8 (by omega) h) nd r7 l7 (by rw [e9]; exact k10.1)
  rw [e9] at k9
  have k8 := num_keep r6 l6 1 (by omega) (by rw [e8]; exact k9.1)
  rw [e8] at k8
  have k7 := many_keep id Rd.tab encT tab_left tab_keep nt r5 l5 (by rw [e7]; exact k8.1)
  rw [e7] at k7
  have k6 := num_keep r4 l4 1 (by omega) (by rw [e6]; exact k7.1)
  rw [e6] at k6
  have k5 := num_keep r3 l3 1 (by omega) (by rw [e5]; exact k6.1)
  rw [e5] at k5
  have k4 := many_keep Prod.fst rdFn encF rdFn_left rdFn_keep nf (r2, 0) l2 (by rw [e4]; exact k5.1)
  rw [e4] at k4
  have k3 := num_keep r1 l1 1 (by omega) (by rw [e3]; exact k4.1)
  rw [e3] at k3
  have k2 := take_keep ra n (by rw [e2]; exact k3.1)
  rw [e2] at k2
  have k1 := num_keep r hb 2 (by omega) (by rw [e1]; exact k2.1)
  rw [e1] at k1
  refine ⟨k1.1, ?_⟩
  have x1 := k1.2
  have x2 := k2.2.1
  have x3 := k3.2
  have x4 : r2.left = fs.flatMap encF ++ r3.left := k4.2
  have x5 := k5.2
  have x6 := k6.2
  have x7 : r5.left = ts.flatMap encT ++ r6.left := k7.2
  have x8 := k8.2
  have x9 : r7.left = ds.flatMap (be 8) ++ r8.left := k9.2
  have x10 := k10.2
  have x11 : r9.left = ls.flatMap encLn ++ r10.left := k11.2
  have y2 : xs.length = n := k2.2.2
  simp only [] at x1 x2 x3 x5 x6 x8 x10
  rw [x1, x2, x3, x4, x5, x6, x7, x8, x9, x10, x11]
  unfold encImg
  simp only [y2, z1, z2, z3, z4, List.append_assoc]
/-- P2.4: what is wrong with the bytes. -/
def decErr (bs : List Int) : Int :=
  if 100000 < bs.length then 1
  else if markChk magic bs ≠ 0 then markChk magic bs
  else if (rdImg ⟨bs.drop 4, false⟩).2.short = true then 5
  else if 0 < (rdImg ⟨bs.drop 4, false⟩).2.left.length then 4
  else imgChk (rdImg ⟨bs.drop 4, false⟩).1
def decImg (bs : List Int) : Img := (rdImg ⟨bs.drop 4, false⟩).1
theorem mark_zero (ms : List Int) : ∀ bs, markChk ms bs = 0 → bs = ms ++ bs.drop ms.length := by
  induction ms with
  | nil => intro bs _; rfl
  | cons m ms ih =>
    intro bs h
    cases bs with
    | nil => cases h
    | cons b bs =>
      rw [markChk] at h
      split at h
      · rename_i q
        rw [q, List.length_cons, List.drop_succ_cons, List.cons_append]
        exact congrArg (m :: ·) (ih bs h)
      · cases h
theorem dec_parts (bs : List Int) (h : decErr bs = 0) : bs.length ≤ 100000 ∧ markChk magic bs = 0 ∧ (rdImg ⟨bs.drop 4, false⟩).2.short = false ∧ (rdImg ⟨bs.drop 4, false⟩).2.left = [] ∧ imgChk (decImg bs) = 0 := by
  unfold decErr at h
  split at h
  · cases h
  · split at h
    · rename_i q; exact absurd h q
    · split at h
      · cases h
      · split at h
        · cases h
        · rename_i q1 q2 q3 q4
          exact ⟨by omega, by simpa using q2, by simpa using q3, List.length_eq_zero_iff.1 (by omega), h⟩
theorem dec_enc (bs : List Int) (hb : ∀ x ∈ bs, 0 ≤ x ∧ x ≤ 255) (h : decErr bs = 0) : encImg (decImg bs) = bs := by
  obtain ⟨_, h2, h3, h4, _⟩ := dec_parts bs h
  obtain ⟨_, k⟩ := rdImg_keep ⟨bs.drop 4, false⟩ (fun x hx => hb x (List.mem_of_mem_drop hx)) h3
  rw [h4, List.append_nil] at k
  unfold decImg
  rw [← k]
  exact (mark_zero magic bs h2).symm
end Go.Proofs.Ytmibbjjfijcgpac
