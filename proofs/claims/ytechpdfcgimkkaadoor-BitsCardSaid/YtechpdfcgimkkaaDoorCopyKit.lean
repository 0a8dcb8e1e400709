/-
  A copy of a list, in memory of its own: image.copyOf.
-/
import Derived.Test.YtechpdfcgimkkaaDoorFlatKit
namespace Go.Proofs.YtechpdfcgimkkaaDoor
open Go.RowKit Go.Joins
theorem icell_len (a : Int) : (icell a).length = 1 := rfl
theorem ucell_len (a : Int) : (ucell a).length = 1 := rfl
theorem vcell_len (a : Value) : (vcell a).length = 1 := rfl
theorem fcell_len (a : Fn) : (Fn.cells a).length = 3 := rfl
theorem lcell_len (a : Ln) : (Ln.cells a).length = 2 := rfl
theorem icell_one (a : Int) : ∀ u ∈ icell a, u.oneCell' = true := by intro u hu; simp [icell] at hu; subst hu; rfl
theorem ucell_one (a : Int) : ∀ u ∈ ucell a, u.oneCell' = true := by intro u hu; simp [ucell] at hu; subst hu; rfl
theorem fcell_one (a : Fn) : ∀ u ∈ Fn.cells a, u.oneCell' = true := by intro u hu; simp [Fn.cells] at hu; rcases hu with rfl | rfl | rfl <;> rfl
theorem lcell_one (a : Ln) : ∀ u ∈ Ln.cells a, u.oneCell' = true := by intro u hu; simp [Ln.cells] at hu; rcases hu with rfl | rfl <;> rfl
theorem inInt : (Tryd.prog.info? 3).map (fun i => (i.zero, i.size, i.bytes)) = some (some (.int .i64 0), 1, 8) := by kernel_rfl
theorem inByte : (Tryd.prog.info? 5).map (fun i => (i.zero, i.size, i.bytes)) = some (some (.int .u8 0), 1, 1) := by kernel_rfl
theorem inFn : (Tryd.prog.info? 47).map (fun i => (i.zero, i.size, i.bytes)) = some (some (.agg #[.string ByteArray.empty, .int .i64 0, .int .i64 0]), 3, 32) := by kernel_rfl
theorem inLn : (Tryd.prog.info? 43).map (fun i => (i.zero, i.size, i.bytes)) = some (some (.agg #[.int .i64 0, .int .i64 0]), 2, 16) := by kernel_rfl
theorem inInts : (Tryd.prog.info? 26).map (fun i => (i.zero, i.size, i.bytes)) = some (some (.slice none 0 0), 1, 24) := by kernel_rfl
end Go.Proofs.YtechpdfcgimkkaaDoor
