/-
  boltholekeep.Program answers the image of a plan of its raw things (ProgI), in memory of its own.
-/
import Derived.Test.YtechpdfcgimkkaaDoorWalkPgC
import Derived.Test.YtechpdfcgimkkaaDoorWalkAsC
import Derived.Test.YtechpdfcgimkkaaDoorMZC
namespace Go.Proofs.YtechpdfcgimkkaaDoor
open Go.RowKit Go.Joins Isa
theorem len_nSp {bs : List (List Sp)} {b : List Sp} (h : b ∈ bs) : b.length ≤ nSp bs := by
  induction bs with
  | nil => cases h
  | cons c r ih =>
    have e : nSp (c :: r) = c.length + nSp r := by simp [nSp]
    rcases List.mem_cons.1 h with rfl | h
    · omega
    · have := ih h; omega
theorem program_img (v : Value) (l : List Rw) (w : World) (hR : RawsAt w v l) (hT : Tabs w) :
    Calls Tryd.prog 16 #[v] w fun e w' => ∃ vT vF vB vD vL m, e = .returned (.agg #[vT, vF, vB, vD, vL, .int .i64 0]) ∧ ProgI l m ∧ OwnImg w' (w.heap.size + 1) vT vF vB vD vL m ∧ Below w.heap.size w w' := by
  have hz := hT.sz
  have hg := plan_good l
  refine (program_any v l w hR (fun x w2 => ∃ vT vF vB vD vL m, x = .agg #[vT, vF, vB, vD, vL, .int .i64 0] ∧ ProgI l m ∧ OwnImg w2 (w.heap.size + 1) vT vF vB vD vL m) ?_).mono ?_
  · intro w1 gp vB vF vs u hb hz1 hu hP
    refine (assembled_any w1 (w.heap.size + 1) gp vB vF u vs _ _ (l.take 150) (by omega) hP hg (fun b hb' => by have := len_nSp hb'; have := hg.sp; omega) (hT.below hT.sz hb) w hu (by omega) hb).mono ?_
    rintro e w' ⟨v0, v1, v2, v4, rfl, o0, o1, o2, o4, hb', cs, hl, ha, hO⟩
    refine ⟨_, _, _, _, _, _, rfl, o0, o1, o2, rfl, o4, rfl, hb', fun w2 _ hk => ⟨_, _, _, _, _, _, rfl, ⟨cs, hl, hg.lng hl, ha, rfl⟩, ?_⟩⟩
    exact OwnImg.same hO fun k c T hB _ _ => hk k (by omega)
  · rintro e w' ⟨x, rfl, ⟨vT, vF, vB, vD, vL, m, rfl, hm, hO⟩, hb⟩
    exact ⟨_, _, _, _, _, _, rfl, hm, hO, hb⟩
end Go.Proofs.YtechpdfcgimkkaaDoor
