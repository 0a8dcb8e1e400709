/-
  Plain: lines in order: the last one that is not behind an address; an image with two functions more.
-/
import Derived.Test.YtechpdfcgimkkaaDoorMXC
namespace Go.Proofs.YtechpdfcgimkkaaDoor
open Go.RowKit Go.Joins Isa
theorem lchk_gt (size : Int) : ∀ (ls : List Ln) (ah : Int), lchk size ls ah = 0 → ∀ l ∈ ls, ah < l.a
  | [], _, _, l, h => by cases h
  | y :: r, ah, h, l, hl => by
    simp only [lchk] at h
    split at h
    · cases h
    · split at h
      · cases h
      · rcases List.mem_cons.1 hl with rfl | hl
        · omega
        · have := lchk_gt size r y.a h l hl; omega
theorem lineOf_none (p : Int) : ∀ (ls : List Ln) (n : Int), (∀ l ∈ ls, p < l.a) → ls.foldl (fun n x => if x.a ≤ p then x.n else n) n = n
  | [], n, _ => rfl
  | y :: r, n, h => by
    rw [List.foldl_cons, if_neg (by have := h y (List.mem_cons_self ..); omega)]
    exact lineOf_none p r n fun l hl => h l (List.mem_cons_of_mem _ hl)
theorem lineOf_stop_from (size p : Int) : ∀ (ls : List Ln) (ah : Int) (k : Nat) (x : Ln) (n : Int), lchk size ls ah = 0 → ls[k]? = some x → p < x.a → ls.foldl (fun n x => if x.a ≤ p then x.n else n) n = (ls.take k).foldl (fun n x => if x.a ≤ p then x.n else n) n
  | [], _, _, _, _, _, h, _ => by simp at h
  | y :: r, ah, 0, x, n, hc, hx, hp => by
    simp only [List.getElem?_cons_zero, Option.some.injEq] at hx
    subst hx
    simp only [lchk] at hc
    split at hc
    · cases hc
    · split at hc
      · cases hc
      · rw [List.take_zero, List.foldl_nil]
        refine lineOf_none p _ _ fun l hl => ?_
        rcases List.mem_cons.1 hl with rfl | hl
        · exact hp
        · have := lchk_gt size r y.a hc l hl; omega
  | y :: r, ah, k + 1, x, n, hc, hx, hp => by
    simp only [lchk] at hc
    split at hc
    · cases hc
    · split at hc
      · cases hc
      · rw [List.take_succ_cons, List.foldl_cons, List.foldl_cons]
        exact lineOf_stop_from size p r y.a k x _ hc (by simpa using hx) hp
theorem lineOf_stop {size p : Int} {ls : List Ln} {k : Nat} {x : Ln} (hc : lchk size ls (-1) = 0) (hx : ls[k]? = some x) (hp : p < x.a) : lineOf ls p = lineOf (ls.take k) p :=
  lineOf_stop_from size p ls (-1) k x 0 hc hx hp
theorem lineOf_ahead {size : Int} {ls : List Ln} (hc : lchk size ls (-1) = 0) : lineOf ls (-1) = 0 := lineOf_none (-1) ls 0 (lchk_gt size ls (-1) hc)
theorem imgChk_lines {m : Img} (h : imgChk m = 0) : lchk m.text.length m.lines (-1) = 0 := by
  unfold imgChk at h
  repeat' split at h
  all_goals first
    | exact h
    | exact absurd h (by decide)
    | (exfalso; rename_i q; exact q h)
    | (exfalso; rename_i q _; exact q h)
    | contradiction
end Go.Proofs.YtechpdfcgimkkaaDoor
