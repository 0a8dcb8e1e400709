/-
  The call of boltholekeep.ImageNames returns true at every slice of Raws and every number (written by genna.py).
-/
import Derived.Test.YtechpdfcgimkkaaDoorLawNa0C
import Derived.Test.YtechpdfcgimkkaaDoorLawNa1C
import Derived.Test.YtechpdfcgimkkaaDoorLawNa2C
import Derived.Test.YtechpdfcgimkkaaDoorLawNa3C
import Derived.Test.YtechpdfcgimkkaaDoorLawNa4C
import Derived.Test.YtechpdfcgimkkaaDoorLawNa5C
namespace Go.Proofs.YtechpdfcgimkkaaDoor
open Go.RowKit Go.Joins Isa
theorem imageNames_law (v : Value) (l : List Rw) (a : Int) (w : World) (ht : Tabs w) (hR : RawsAt w v l) (a1 : -9223372036854775808 ≤ a) (a2 : a ≤ 9223372036854775807) :
    Calls Tryd.prog 5 #[v, .int .i64 a] w fun e w' => e = .returned (.bool true) ∧ Below w.heap.size w w' := by
  obtain ⟨p0, p1⟩ := pk_bd a 6 (by decide)
  rcases (show pk a 6 = 0 ∨ pk a 6 = 1 ∨ pk a 6 = 2 ∨ pk a 6 = 3 ∨ pk a 6 = 4 ∨ pk a 6 = 5 by omega) with h | h | h | h | h | h
  · exact imageNames_0 v l a w ht hR a1 a2 h
  · exact imageNames_1 v l a w ht hR a1 a2 h
  · exact imageNames_2 v l a w ht hR a1 a2 h
  · exact imageNames_3 v l a w ht hR a1 a2 h
  · exact imageNames_4 v l a w ht hR a1 a2 h
  · exact imageNames_5 v l a w ht hR a1 a2 h
end Go.Proofs.YtechpdfcgimkkaaDoor
