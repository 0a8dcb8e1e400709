/-
  NARROWER THAN 'FOR EVERY INPUT', by the rows' own cells (each row's printed sentence says how): ImageBack: laid · LinesAt: laid · ImageNames: laid · ImageApart: laid · StepRuns: laid · Sums: laid · Bits: laid · Memory: laid · Branches: laid · Calls: laid · FuelRuns: laid · InputsIn: laid · Loops: laid.
  DERIVED. THE GIVEN ROWS OF THIS SEAT. 13 by the template 'for every input the law returns true; each argument reads behind the call as it read before'; 0 by the template 'total and deterministic' (their statements: YtechpdfcgimkkaaDoorTotals.lean).
  GIVEN WITH THE SEED: the statements are not yours to turn. If you find one false, say at which input.
  Laid BY PROGRAM, IN A SANDBOX (cutbox-rows.mjs): the forced cells as the released guide's own fill.sh prints them over the translation 03fb9dfdeb093762… (all of the seat's roots in one cut). By AI agents, Wed Nov 11 2026. No macro, syntax, notation, axiom, sorry.
-/
import Derived.Test.YtechpdfcgimkkaaDoorChecked
import GoSem.Claim
import GoSem.ClaimJoined
import GoSem.ClaimMapViews
import Derived.JoinedTies
import Derived.KernelRfl
namespace Go.Proofs.YtechpdfcgimkkaaDoor
/- THE CELL 'sum', in the pinned program and in every row, IS THE sha256 OF THE DUMP (.gsa) THAT YtechpdfcgimkkaaDoorProg.lean LOADS. Nothing in Lean hashes anything: it is a label: what it is worth is what the hold of that sum in a sandbox is worth. -/
noncomputable def Tryd.pinned : Pinned := { name := "ytechpdfcgimkkaadoor", sum := "03fb9dfdeb09376282e52131615c0958d1553bc96403e43ac8f64d0e25a59419", checked := Tryd.checked }
namespace Rows
def none {H : Type} : Left H := { results := [], args := [] }

/- WHAT THE LISTED PACKAGE-LEVEL VARIABLES READ AS WHEN THE CALL BEGINS. Each datum BY PROGRAM (the guide's laid-datum.mjs) off the statement by which the dump's own 'gosem.cut.vars' lays the variable. In a bare row this is a premise. The card (YtechpdfcgimkkaaDoorCards.lean) ties it to the program's text. -/
def laid_math_bits_deBruijn32tab {H : Type} : DataW H := .agg [.lit (.int .u8 0), .lit (.int .u8 1), .lit (.int .u8 28), .lit (.int .u8 2), .lit (.int .u8 29), .lit (.int .u8 14), .lit (.int .u8 24), .lit (.int .u8 3), .lit (.int .u8 30), .lit (.int .u8 22), .lit (.int .u8 20), .lit (.int .u8 15), .lit (.int .u8 25), .lit (.int .u8 17), .lit (.int .u8 4), .lit (.int .u8 8), .lit (.int .u8 31), .lit (.int .u8 27), .lit (.int .u8 13), .lit (.int .u8 23), .lit (.int .u8 21), .lit (.int .u8 19), .lit (.int .u8 16), .lit (.int .u8 7), .lit (.int .u8 26), .lit (.int .u8 12), .lit (.int .u8 18), .lit (.int .u8 6), .lit (.int .u8 11), .lit (.int .u8 5), .lit (.int .u8 10), .lit (.int .u8 9)]
def laid_math_bits_deBruijn64tab {H : Type} : DataW H := .agg [.lit (.int .u8 0), .lit (.int .u8 1), .lit (.int .u8 56), .lit (.int .u8 2), .lit (.int .u8 57), .lit (.int .u8 49), .lit (.int .u8 28), .lit (.int .u8 3), .lit (.int .u8 61), .lit (.int .u8 58), .lit (.int .u8 42), .lit (.int .u8 50), .lit (.int .u8 38), .lit (.int .u8 29), .lit (.int .u8 17), .lit (.int .u8 4), .lit (.int .u8 62), .lit (.int .u8 47), .lit (.int .u8 59), .lit (.int .u8 36), .lit (.int .u8 45), .lit (.int .u8 43), .lit (.int .u8 51), .lit (.int .u8 22), .lit (.int .u8 53), .lit (.int .u8 39), .lit (.int .u8 33), .lit (.int .u8 30), .lit (.int .u8 24), .lit (.int .u8 18), .lit (.int .u8 12), .lit (.int .u8 5), .lit (.int .u8 63), .lit (.int .u8 55), .lit (.int .u8 48), .lit (.int .u8 27), .lit (.int .u8 60), .lit (.int .u8 41), .lit (.int .u8 37), .lit (.int .u8 16), .lit (.int .u8 46), .lit (.int .u8 35), .lit (.int .u8 44), .lit (.int .u8 21), .lit (.int .u8 52), .lit (.int .u8 32), .lit (.int .u8 23), .lit (.int .u8 11), .lit (.int .u8 54), .lit (.int .u8 26), .lit (.int .u8 40), .lit (.int .u8 15), .lit (.int .u8 34), .lit (.int .u8 20), .lit (.int .u8 31), .lit (.int .u8 10), .lit (.int .u8 25), .lit (.int .u8 14), .lit (.int .u8 19), .lit (.int .u8 9), .lit (.int .u8 13), .lit (.int .u8 8), .lit (.int .u8 7), .lit (.int .u8 6)]
def laid_internal_strconv_uint64pow10 {H : Type} : DataW H := .agg [.lit (.int .u64 1), .lit (.int .u64 10), .lit (.int .u64 100), .lit (.int .u64 1000), .lit (.int .u64 10000), .lit (.int .u64 100000), .lit (.int .u64 1000000), .lit (.int .u64 10000000), .lit (.int .u64 100000000), .lit (.int .u64 1000000000), .lit (.int .u64 10000000000), .lit (.int .u64 100000000000), .lit (.int .u64 1000000000000), .lit (.int .u64 10000000000000), .lit (.int .u64 100000000000000), .lit (.int .u64 1000000000000000), .lit (.int .u64 10000000000000000), .lit (.int .u64 100000000000000000), .lit (.int .u64 1000000000000000000), .lit (.int .u64 10000000000000000000)]
def laid_bolthole_isa_operators {H : Type} : DataW H := .agg [.agg [.lit (.int .u8 0), .lit (.int .u8 0), .lit (.int .i64 0)], .agg [.lit (.int .u8 0), .lit (.int .u8 0), .lit (.int .i64 0)], .agg [.lit (.int .u8 1), .lit (.int .u8 0), .lit (.int .i64 0)], .agg [.lit (.int .u8 2), .lit (.int .u8 0), .lit (.int .i64 0)], .agg [.lit (.int .u8 3), .lit (.int .u8 0), .lit (.int .i64 0)], .agg [.lit (.int .u8 16), .lit (.int .u8 0), .lit (.int .i64 1)], .agg [.lit (.int .u8 17), .lit (.int .u8 0), .lit (.int .i64 2)], .agg [.lit (.int .u8 32), .lit (.int .u8 0), .lit (.int .i64 3)], .agg [.lit (.int .u8 33), .lit (.int .u8 0), .lit (.int .i64 3)], .agg [.lit (.int .u8 34), .lit (.int .u8 0), .lit (.int .i64 3)], .agg [.lit (.int .u8 35), .lit (.int .u8 0), .lit (.int .i64 3)], .agg [.lit (.int .u8 36), .lit (.int .u8 0), .lit (.int .i64 3)], .agg [.lit (.int .u8 37), .lit (.int .u8 0), .lit (.int .i64 3)], .agg [.lit (.int .u8 38), .lit (.int .u8 0), .lit (.int .i64 3)], .agg [.lit (.int .u8 48), .lit (.int .u8 0), .lit (.int .i64 2)], .agg [.lit (.int .u8 49), .lit (.int .u8 0), .lit (.int .i64 4)], .agg [.lit (.int .u8 64), .lit (.int .u8 0), .lit (.int .i64 5)], .agg [.lit (.int .u8 65), .lit (.int .u8 0), .lit (.int .i64 6)], .agg [.lit (.int .u8 80), .lit (.int .u8 84), .lit (.int .i64 7)], .agg [.lit (.int .u8 81), .lit (.int .u8 85), .lit (.int .i64 7)], .agg [.lit (.int .u8 82), .lit (.int .u8 86), .lit (.int .i64 7)], .agg [.lit (.int .u8 83), .lit (.int .u8 87), .lit (.int .i64 7)], .agg [.lit (.int .u8 96), .lit (.int .u8 97), .lit (.int .i64 8)], .agg [.lit (.int .u8 98), .lit (.int .u8 0), .lit (.int .i64 9)], .agg [.lit (.int .u8 99), .lit (.int .u8 0), .lit (.int .i64 10)]]
def laid_bolthole_isa_shapes {H : Type} : DataW H := .agg [.agg [.lit (.int .i64 0), .lit (.int .i64 0), .lit (.int .i64 0), .lit (.int .i64 0)], .agg [.lit (.int .i64 0), .lit (.int .i64 1), .lit (.int .i64 0), .lit (.int .i64 2)], .agg [.lit (.int .i64 1), .lit (.int .i64 2), .lit (.int .i64 0), .lit (.int .i64 1)], .agg [.lit (.int .i64 1), .lit (.int .i64 2), .lit (.int .i64 3), .lit (.int .i64 0)], .agg [.lit (.int .i64 3), .lit (.int .i64 2), .lit (.int .i64 0), .lit (.int .i64 1)], .agg [.lit (.int .i64 0), .lit (.int .i64 1), .lit (.int .i64 0), .lit (.int .i64 0)], .agg [.lit (.int .i64 0), .lit (.int .i64 2), .lit (.int .i64 0), .lit (.int .i64 0)], .agg [.lit (.int .i64 2), .lit (.int .i64 3), .lit (.int .i64 0), .lit (.int .i64 1)], .agg [.lit (.int .i64 0), .lit (.int .i64 0), .lit (.int .i64 0), .lit (.int .i64 1)], .agg [.lit (.int .i64 0), .lit (.int .i64 0), .lit (.int .i64 0), .lit (.int .i64 2)], .agg [.lit (.int .i64 0), .lit (.int .i64 2), .lit (.int .i64 0), .lit (.int .i64 1)]]

/-- 'boltholekeep.ImageBack': WHATEVER THE INPUT: true; the input reads as it did. -/
def imageBackSpec : ChangeSpec := { name := "imageBack", fn := fun _ => fun
  | [d1, d2, d3] => { results := [.lit (.bool true)], args := [d1, d2, d3] }
  | _ => none }
def imageBackRow : OpenClaim := { program := "ytechpdfcgimkkaadoor", sum := "03fb9dfdeb09376282e52131615c0958d1553bc96403e43ac8f64d0e25a59419", func := "bolthole/boltholekeep.ImageBack", spec := "imageBack", unfollowed := true, recurses := true, named := ["bolthole/isa.operators", "bolthole/isa.shapes", "internal/strconv.uint64pow10", "math/bits.deBruijn32tab", "math/bits.deBruijn64tab"], apart := false, laid := [("math/bits.deBruijn32tab", laid_math_bits_deBruijn32tab), ("math/bits.deBruijn64tab", laid_math_bits_deBruijn64tab), ("internal/strconv.uint64pow10", laid_internal_strconv_uint64pow10), ("bolthole/isa.operators", laid_bolthole_isa_operators), ("bolthole/isa.shapes", laid_bolthole_isa_shapes)] }
def ImageBackSaid : Prop := imageBackRow.holds Tryd.pinned (OpenSpec.ofChange imageBackSpec)

/-- ITS FALSE NEIGHBOUR: 'it returns false'. Refute it at one input. -/
def imageBackWrong : ChangeSpec := { name := "imageBack", fn := fun _ => fun
  | [d1, d2, d3] => { results := [.lit (.bool false)], args := [d1, d2, d3] }
  | _ => none }
def ImageBackWrongFalsely : Prop := imageBackRow.holds Tryd.pinned (OpenSpec.ofChange imageBackWrong)

/-- 'boltholekeep.LinesAt': WHATEVER THE INPUT: true; the input reads as it did. -/
def linesAtSpec : ChangeSpec := { name := "linesAt", fn := fun _ => fun
  | [d1, d2] => { results := [.lit (.bool true)], args := [d1, d2] }
  | _ => none }
def linesAtRow : OpenClaim := { program := "ytechpdfcgimkkaadoor", sum := "03fb9dfdeb09376282e52131615c0958d1553bc96403e43ac8f64d0e25a59419", func := "bolthole/boltholekeep.LinesAt", spec := "linesAt", unfollowed := true, recurses := true, named := ["bolthole/isa.operators", "bolthole/isa.shapes", "internal/strconv.uint64pow10", "math/bits.deBruijn32tab", "math/bits.deBruijn64tab"], apart := false, laid := [("math/bits.deBruijn32tab", laid_math_bits_deBruijn32tab), ("math/bits.deBruijn64tab", laid_math_bits_deBruijn64tab), ("internal/strconv.uint64pow10", laid_internal_strconv_uint64pow10), ("bolthole/isa.operators", laid_bolthole_isa_operators), ("bolthole/isa.shapes", laid_bolthole_isa_shapes)] }
def LinesAtSaid : Prop := linesAtRow.holds Tryd.pinned (OpenSpec.ofChange linesAtSpec)

/-- ITS FALSE NEIGHBOUR: 'it returns false'. Refute it at one input. -/
def linesAtWrong : ChangeSpec := { name := "linesAt", fn := fun _ => fun
  | [d1, d2] => { results := [.lit (.bool false)], args := [d1, d2] }
  | _ => none }
def LinesAtWrongFalsely : Prop := linesAtRow.holds Tryd.pinned (OpenSpec.ofChange linesAtWrong)

/-- 'boltholekeep.ImageNames': WHATEVER THE INPUT: true; the input reads as it did. -/
def imageNamesSpec : ChangeSpec := { name := "imageNames", fn := fun _ => fun
  | [d1, d2] => { results := [.lit (.bool true)], args := [d1, d2] }
  | _ => none }
def imageNamesRow : OpenClaim := { program := "ytechpdfcgimkkaadoor", sum := "03fb9dfdeb09376282e52131615c0958d1553bc96403e43ac8f64d0e25a59419", func := "bolthole/boltholekeep.ImageNames", spec := "imageNames", unfollowed := true, recurses := true, named := ["bolthole/isa.operators", "bolthole/isa.shapes", "internal/strconv.uint64pow10", "math/bits.deBruijn32tab", "math/bits.deBruijn64tab"], apart := false, laid := [("math/bits.deBruijn32tab", laid_math_bits_deBruijn32tab), ("math/bits.deBruijn64tab", laid_math_bits_deBruijn64tab), ("internal/strconv.uint64pow10", laid_internal_strconv_uint64pow10), ("bolthole/isa.operators", laid_bolthole_isa_operators), ("bolthole/isa.shapes", laid_bolthole_isa_shapes)] }
def ImageNamesSaid : Prop := imageNamesRow.holds Tryd.pinned (OpenSpec.ofChange imageNamesSpec)

/-- ITS FALSE NEIGHBOUR: 'it returns false'. Refute it at one input. -/
def imageNamesWrong : ChangeSpec := { name := "imageNames", fn := fun _ => fun
  | [d1, d2] => { results := [.lit (.bool false)], args := [d1, d2] }
  | _ => none }
def ImageNamesWrongFalsely : Prop := imageNamesRow.holds Tryd.pinned (OpenSpec.ofChange imageNamesWrong)

/-- 'boltholekeep.ImageApart': WHATEVER THE INPUT: true; the input reads as it did. -/
def imageApartSpec : ChangeSpec := { name := "imageApart", fn := fun _ => fun
  | [d] => { results := [.lit (.bool true)], args := [d] }
  | _ => none }
def imageApartRow : OpenClaim := { program := "ytechpdfcgimkkaadoor", sum := "03fb9dfdeb09376282e52131615c0958d1553bc96403e43ac8f64d0e25a59419", func := "bolthole/boltholekeep.ImageApart", spec := "imageApart", unfollowed := true, recurses := true, named := ["bolthole/isa.operators", "bolthole/isa.shapes", "internal/strconv.uint64pow10", "math/bits.deBruijn32tab", "math/bits.deBruijn64tab"], apart := false, laid := [("math/bits.deBruijn32tab", laid_math_bits_deBruijn32tab), ("math/bits.deBruijn64tab", laid_math_bits_deBruijn64tab), ("internal/strconv.uint64pow10", laid_internal_strconv_uint64pow10), ("bolthole/isa.operators", laid_bolthole_isa_operators), ("bolthole/isa.shapes", laid_bolthole_isa_shapes)] }
def ImageApartSaid : Prop := imageApartRow.holds Tryd.pinned (OpenSpec.ofChange imageApartSpec)

/-- ITS FALSE NEIGHBOUR: 'it returns false'. Refute it at one input. -/
def imageApartWrong : ChangeSpec := { name := "imageApart", fn := fun _ => fun
  | [d] => { results := [.lit (.bool false)], args := [d] }
  | _ => none }
def ImageApartWrongFalsely : Prop := imageApartRow.holds Tryd.pinned (OpenSpec.ofChange imageApartWrong)

/-- 'boltholelaw.StepRuns': WHATEVER THE INPUT: true; the input reads as it did. -/
def stepRunsSpec : ChangeSpec := { name := "stepRuns", fn := fun _ => fun
  | [d1, d2, d3] => { results := [.lit (.bool true)], args := [d1, d2, d3] }
  | _ => none }
def stepRunsRow : OpenClaim := { program := "ytechpdfcgimkkaadoor", sum := "03fb9dfdeb09376282e52131615c0958d1553bc96403e43ac8f64d0e25a59419", func := "bolthole/boltholelaw.StepRuns", spec := "stepRuns", unfollowed := true, recurses := true, named := ["bolthole/isa.operators", "bolthole/isa.shapes", "math/bits.divideError", "math/bits.overflowError"], apart := false, laid := [("bolthole/isa.operators", laid_bolthole_isa_operators), ("bolthole/isa.shapes", laid_bolthole_isa_shapes)] }
def StepRunsSaid : Prop := stepRunsRow.holds Tryd.pinned (OpenSpec.ofChange stepRunsSpec)

/-- ITS FALSE NEIGHBOUR: 'it returns false'. Refute it at one input. -/
def stepRunsWrong : ChangeSpec := { name := "stepRuns", fn := fun _ => fun
  | [d1, d2, d3] => { results := [.lit (.bool false)], args := [d1, d2, d3] }
  | _ => none }
def StepRunsWrongFalsely : Prop := stepRunsRow.holds Tryd.pinned (OpenSpec.ofChange stepRunsWrong)

/-- 'boltholekeep.Sums': WHATEVER THE INPUT: true; the input reads as it did. -/
def sumsSpec : ChangeSpec := { name := "sums", fn := fun _ => fun
  | [d1, d2] => { results := [.lit (.bool true)], args := [d1, d2] }
  | _ => none }
def sumsRow : OpenClaim := { program := "ytechpdfcgimkkaadoor", sum := "03fb9dfdeb09376282e52131615c0958d1553bc96403e43ac8f64d0e25a59419", func := "bolthole/boltholekeep.Sums", spec := "sums", unfollowed := true, recurses := true, named := ["bolthole/isa.operators", "bolthole/isa.shapes", "math/bits.divideError", "math/bits.overflowError"], apart := false, laid := [("bolthole/isa.operators", laid_bolthole_isa_operators), ("bolthole/isa.shapes", laid_bolthole_isa_shapes)] }
def SumsSaid : Prop := sumsRow.holds Tryd.pinned (OpenSpec.ofChange sumsSpec)

/-- ITS FALSE NEIGHBOUR: 'it returns false'. Refute it at one input. -/
def sumsWrong : ChangeSpec := { name := "sums", fn := fun _ => fun
  | [d1, d2] => { results := [.lit (.bool false)], args := [d1, d2] }
  | _ => none }
def SumsWrongFalsely : Prop := sumsRow.holds Tryd.pinned (OpenSpec.ofChange sumsWrong)

/-- 'boltholekeep.Bits': WHATEVER THE INPUT: true; the input reads as it did. -/
def bitsSpec : ChangeSpec := { name := "bits", fn := fun _ => fun
  | [d1, d2] => { results := [.lit (.bool true)], args := [d1, d2] }
  | _ => none }
def bitsRow : OpenClaim := { program := "ytechpdfcgimkkaadoor", sum := "03fb9dfdeb09376282e52131615c0958d1553bc96403e43ac8f64d0e25a59419", func := "bolthole/boltholekeep.Bits", spec := "bits", unfollowed := true, recurses := true, named := ["bolthole/isa.operators", "bolthole/isa.shapes", "math/bits.divideError", "math/bits.overflowError"], apart := false, laid := [("bolthole/isa.operators", laid_bolthole_isa_operators), ("bolthole/isa.shapes", laid_bolthole_isa_shapes)] }
def BitsSaid : Prop := bitsRow.holds Tryd.pinned (OpenSpec.ofChange bitsSpec)

/-- ITS FALSE NEIGHBOUR: 'it returns false'. Refute it at one input. -/
def bitsWrong : ChangeSpec := { name := "bits", fn := fun _ => fun
  | [d1, d2] => { results := [.lit (.bool false)], args := [d1, d2] }
  | _ => none }
def BitsWrongFalsely : Prop := bitsRow.holds Tryd.pinned (OpenSpec.ofChange bitsWrong)

/-- 'boltholekeep.Memory': WHATEVER THE INPUT: true; the input reads as it did. -/
def memorySpec : ChangeSpec := { name := "memory", fn := fun _ => fun
  | [d1, d2, d3] => { results := [.lit (.bool true)], args := [d1, d2, d3] }
  | _ => none }
def memoryRow : OpenClaim := { program := "ytechpdfcgimkkaadoor", sum := "03fb9dfdeb09376282e52131615c0958d1553bc96403e43ac8f64d0e25a59419", func := "bolthole/boltholekeep.Memory", spec := "memory", unfollowed := true, recurses := true, named := ["bolthole/isa.operators", "bolthole/isa.shapes", "math/bits.divideError", "math/bits.overflowError"], apart := false, laid := [("bolthole/isa.operators", laid_bolthole_isa_operators), ("bolthole/isa.shapes", laid_bolthole_isa_shapes)] }
def MemorySaid : Prop := memoryRow.holds Tryd.pinned (OpenSpec.ofChange memorySpec)

/-- ITS FALSE NEIGHBOUR: 'it returns false'. Refute it at one input. -/
def memoryWrong : ChangeSpec := { name := "memory", fn := fun _ => fun
  | [d1, d2, d3] => { results := [.lit (.bool false)], args := [d1, d2, d3] }
  | _ => none }
def MemoryWrongFalsely : Prop := memoryRow.holds Tryd.pinned (OpenSpec.ofChange memoryWrong)

/-- 'boltholekeep.Branches': WHATEVER THE INPUT: true; the input reads as it did. -/
def branchesSpec : ChangeSpec := { name := "branches", fn := fun _ => fun
  | [d1, d2, d3, d4] => { results := [.lit (.bool true)], args := [d1, d2, d3, d4] }
  | _ => none }
def branchesRow : OpenClaim := { program := "ytechpdfcgimkkaadoor", sum := "03fb9dfdeb09376282e52131615c0958d1553bc96403e43ac8f64d0e25a59419", func := "bolthole/boltholekeep.Branches", spec := "branches", unfollowed := true, recurses := true, named := ["bolthole/isa.operators", "bolthole/isa.shapes", "math/bits.divideError", "math/bits.overflowError"], apart := false, laid := [("bolthole/isa.operators", laid_bolthole_isa_operators), ("bolthole/isa.shapes", laid_bolthole_isa_shapes)] }
def BranchesSaid : Prop := branchesRow.holds Tryd.pinned (OpenSpec.ofChange branchesSpec)

/-- ITS FALSE NEIGHBOUR: 'it returns false'. Refute it at one input. -/
def branchesWrong : ChangeSpec := { name := "branches", fn := fun _ => fun
  | [d1, d2, d3, d4] => { results := [.lit (.bool false)], args := [d1, d2, d3, d4] }
  | _ => none }
def BranchesWrongFalsely : Prop := branchesRow.holds Tryd.pinned (OpenSpec.ofChange branchesWrong)

/-- 'boltholekeep.Calls': WHATEVER THE INPUT: true; the input reads as it did. -/
def callsSpec : ChangeSpec := { name := "calls", fn := fun _ => fun
  | [d] => { results := [.lit (.bool true)], args := [d] }
  | _ => none }
def callsRow : OpenClaim := { program := "ytechpdfcgimkkaadoor", sum := "03fb9dfdeb09376282e52131615c0958d1553bc96403e43ac8f64d0e25a59419", func := "bolthole/boltholekeep.Calls", spec := "calls", unfollowed := true, recurses := true, named := ["bolthole/isa.operators", "bolthole/isa.shapes", "math/bits.divideError", "math/bits.overflowError"], apart := false, laid := [("bolthole/isa.operators", laid_bolthole_isa_operators), ("bolthole/isa.shapes", laid_bolthole_isa_shapes)] }
def CallsSaid : Prop := callsRow.holds Tryd.pinned (OpenSpec.ofChange callsSpec)

/-- ITS FALSE NEIGHBOUR: 'it returns false'. Refute it at one input. -/
def callsWrong : ChangeSpec := { name := "calls", fn := fun _ => fun
  | [d] => { results := [.lit (.bool false)], args := [d] }
  | _ => none }
def CallsWrongFalsely : Prop := callsRow.holds Tryd.pinned (OpenSpec.ofChange callsWrong)

/-- 'boltholekeep.FuelRuns': WHATEVER THE INPUT: true; the input reads as it did. -/
def fuelRunsSpec : ChangeSpec := { name := "fuelRuns", fn := fun _ => fun
  | [d1, d2, d3, d4] => { results := [.lit (.bool true)], args := [d1, d2, d3, d4] }
  | _ => none }
def fuelRunsRow : OpenClaim := { program := "ytechpdfcgimkkaadoor", sum := "03fb9dfdeb09376282e52131615c0958d1553bc96403e43ac8f64d0e25a59419", func := "bolthole/boltholekeep.FuelRuns", spec := "fuelRuns", unfollowed := true, recurses := true, named := ["bolthole/isa.operators", "bolthole/isa.shapes", "internal/strconv.uint64pow10", "math/bits.deBruijn32tab", "math/bits.deBruijn64tab", "math/bits.divideError", "math/bits.overflowError"], apart := false, laid := [("math/bits.deBruijn32tab", laid_math_bits_deBruijn32tab), ("math/bits.deBruijn64tab", laid_math_bits_deBruijn64tab), ("internal/strconv.uint64pow10", laid_internal_strconv_uint64pow10), ("bolthole/isa.operators", laid_bolthole_isa_operators), ("bolthole/isa.shapes", laid_bolthole_isa_shapes)] }
def FuelRunsSaid : Prop := fuelRunsRow.holds Tryd.pinned (OpenSpec.ofChange fuelRunsSpec)

/-- ITS FALSE NEIGHBOUR: 'it returns false'. Refute it at one input. -/
def fuelRunsWrong : ChangeSpec := { name := "fuelRuns", fn := fun _ => fun
  | [d1, d2, d3, d4] => { results := [.lit (.bool false)], args := [d1, d2, d3, d4] }
  | _ => none }
def FuelRunsWrongFalsely : Prop := fuelRunsRow.holds Tryd.pinned (OpenSpec.ofChange fuelRunsWrong)

/-- 'boltholekeep.InputsIn': WHATEVER THE INPUT: true; the input reads as it did. -/
def inputsInSpec : ChangeSpec := { name := "inputsIn", fn := fun _ => fun
  | [d1, d2] => { results := [.lit (.bool true)], args := [d1, d2] }
  | _ => none }
def inputsInRow : OpenClaim := { program := "ytechpdfcgimkkaadoor", sum := "03fb9dfdeb09376282e52131615c0958d1553bc96403e43ac8f64d0e25a59419", func := "bolthole/boltholekeep.InputsIn", spec := "inputsIn", unfollowed := true, recurses := true, named := ["bolthole/isa.operators", "bolthole/isa.shapes", "math/bits.divideError", "math/bits.overflowError", "internal/strconv.uint64pow10", "math/bits.deBruijn32tab", "math/bits.deBruijn64tab"], apart := false, laid := [("math/bits.deBruijn32tab", laid_math_bits_deBruijn32tab), ("math/bits.deBruijn64tab", laid_math_bits_deBruijn64tab), ("internal/strconv.uint64pow10", laid_internal_strconv_uint64pow10), ("bolthole/isa.operators", laid_bolthole_isa_operators), ("bolthole/isa.shapes", laid_bolthole_isa_shapes)] }
def InputsInSaid : Prop := inputsInRow.holds Tryd.pinned (OpenSpec.ofChange inputsInSpec)

/-- ITS FALSE NEIGHBOUR: 'it returns false'. Refute it at one input. -/
def inputsInWrong : ChangeSpec := { name := "inputsIn", fn := fun _ => fun
  | [d1, d2] => { results := [.lit (.bool false)], args := [d1, d2] }
  | _ => none }
def InputsInWrongFalsely : Prop := inputsInRow.holds Tryd.pinned (OpenSpec.ofChange inputsInWrong)

/-- 'boltholekeep.Loops': WHATEVER THE INPUT: true; the input reads as it did. -/
def loopsSpec : ChangeSpec := { name := "loops", fn := fun _ => fun
  | [d] => { results := [.lit (.bool true)], args := [d] }
  | _ => none }
def loopsRow : OpenClaim := { program := "ytechpdfcgimkkaadoor", sum := "03fb9dfdeb09376282e52131615c0958d1553bc96403e43ac8f64d0e25a59419", func := "bolthole/boltholekeep.Loops", spec := "loops", unfollowed := true, recurses := true, named := ["bolthole/isa.operators", "bolthole/isa.shapes", "math/bits.divideError", "math/bits.overflowError"], apart := false, laid := [("bolthole/isa.operators", laid_bolthole_isa_operators), ("bolthole/isa.shapes", laid_bolthole_isa_shapes)] }
def LoopsSaid : Prop := loopsRow.holds Tryd.pinned (OpenSpec.ofChange loopsSpec)

/-- ITS FALSE NEIGHBOUR: 'it returns false'. Refute it at one input. -/
def loopsWrong : ChangeSpec := { name := "loops", fn := fun _ => fun
  | [d] => { results := [.lit (.bool false)], args := [d] }
  | _ => none }
def LoopsWrongFalsely : Prop := loopsRow.holds Tryd.pinned (OpenSpec.ofChange loopsWrong)

/- THE SECOND FORM. 'bulk': how many values and letters a reading holds, each counted each time it is reached (what is shared counts as often as it is met; a slice's spare places count too). A statement '..UptoSaid' is the law's where the arguments, and the package variables that the reading takes, are together of bulk at most 1048576: NARROWER than '..Said'. Prove '..Said' where nothing that the law and all that it calls make is longer than what came in: it says more and counts as full. Else prove '..UptoSaid'. A law counts once. -/
mutual
def uptoBulk {H : Type} : DataW H → Nat
  | .lit (.string bytes) => bytes.length + 1
  | .lit _ => 1
  | .nil => 1
  | .ptr d => uptoBulk d + 1
  | .slice elems spare => uptoBulkAll elems + uptoBulkAll spare + 1
  | .agg parts => uptoBulkAll parts + 1
  | .iface _ d => uptoBulk d + 1
  | .map entries => uptoBulkEntries entries + 1
  | .held _ => 1
def uptoBulkAll {H : Type} : List (DataW H) → Nat
  | [] => 0
  | d :: r => uptoBulk d + uptoBulkAll r
def uptoBulkEntries {H : Type} : List (Lit × DataW H) → Nat
  | [] => 0
  | x :: r => uptoBulkEntry x + uptoBulkEntries r
def uptoBulkEntry {H : Type} : Lit × DataW H → Nat
  | (.string bytes, d) => bytes.length + uptoBulk d + 1
  | (_, d) => uptoBulk d + 1
 end
def uptoSmall : (H : Type) → List (DataW H) → Bool := fun _ ds => decide (uptoBulkAll ds ≤ 1048576)
def OpenSpec.upto (s : _root_.Go.ChangeSpec) : _root_.Go.OpenSpec := { _root_.Go.OpenSpec.ofChange s with cond := some uptoSmall }

/-- 'boltholekeep.ImageBack', WHERE WHAT IT READS IS OF BULK AT MOST 1048576: true; the input reads as it did. -/
def imageBackUptoRow : OpenClaim := { program := "ytechpdfcgimkkaadoor", sum := "03fb9dfdeb09376282e52131615c0958d1553bc96403e43ac8f64d0e25a59419", func := "bolthole/boltholekeep.ImageBack", spec := "imageBack", unfollowed := true, recurses := true, named := ["bolthole/isa.operators", "bolthole/isa.shapes", "internal/strconv.uint64pow10", "math/bits.deBruijn32tab", "math/bits.deBruijn64tab"], apart := false, laid := [("math/bits.deBruijn32tab", laid_math_bits_deBruijn32tab), ("math/bits.deBruijn64tab", laid_math_bits_deBruijn64tab), ("internal/strconv.uint64pow10", laid_internal_strconv_uint64pow10), ("bolthole/isa.operators", laid_bolthole_isa_operators), ("bolthole/isa.shapes", laid_bolthole_isa_shapes)], narrowed := true }
def ImageBackUptoSaid : Prop := imageBackUptoRow.holds Tryd.pinned (OpenSpec.upto imageBackSpec)

/-- 'boltholekeep.LinesAt', WHERE WHAT IT READS IS OF BULK AT MOST 1048576: true; the input reads as it did. -/
def linesAtUptoRow : OpenClaim := { program := "ytechpdfcgimkkaadoor", sum := "03fb9dfdeb09376282e52131615c0958d1553bc96403e43ac8f64d0e25a59419", func := "bolthole/boltholekeep.LinesAt", spec := "linesAt", unfollowed := true, recurses := true, named := ["bolthole/isa.operators", "bolthole/isa.shapes", "internal/strconv.uint64pow10", "math/bits.deBruijn32tab", "math/bits.deBruijn64tab"], apart := false, laid := [("math/bits.deBruijn32tab", laid_math_bits_deBruijn32tab), ("math/bits.deBruijn64tab", laid_math_bits_deBruijn64tab), ("internal/strconv.uint64pow10", laid_internal_strconv_uint64pow10), ("bolthole/isa.operators", laid_bolthole_isa_operators), ("bolthole/isa.shapes", laid_bolthole_isa_shapes)], narrowed := true }
def LinesAtUptoSaid : Prop := linesAtUptoRow.holds Tryd.pinned (OpenSpec.upto linesAtSpec)

/-- 'boltholekeep.ImageNames', WHERE WHAT IT READS IS OF BULK AT MOST 1048576: true; the input reads as it did. -/
def imageNamesUptoRow : OpenClaim := { program := "ytechpdfcgimkkaadoor", sum := "03fb9dfdeb09376282e52131615c0958d1553bc96403e43ac8f64d0e25a59419", func := "bolthole/boltholekeep.ImageNames", spec := "imageNames", unfollowed := true, recurses := true, named := ["bolthole/isa.operators", "bolthole/isa.shapes", "internal/strconv.uint64pow10", "math/bits.deBruijn32tab", "math/bits.deBruijn64tab"], apart := false, laid := [("math/bits.deBruijn32tab", laid_math_bits_deBruijn32tab), ("math/bits.deBruijn64tab", laid_math_bits_deBruijn64tab), ("internal/strconv.uint64pow10", laid_internal_strconv_uint64pow10), ("bolthole/isa.operators", laid_bolthole_isa_operators), ("bolthole/isa.shapes", laid_bolthole_isa_shapes)], narrowed := true }
def ImageNamesUptoSaid : Prop := imageNamesUptoRow.holds Tryd.pinned (OpenSpec.upto imageNamesSpec)

/-- 'boltholekeep.ImageApart', WHERE WHAT IT READS IS OF BULK AT MOST 1048576: true; the input reads as it did. -/
def imageApartUptoRow : OpenClaim := { program := "ytechpdfcgimkkaadoor", sum := "03fb9dfdeb09376282e52131615c0958d1553bc96403e43ac8f64d0e25a59419", func := "bolthole/boltholekeep.ImageApart", spec := "imageApart", unfollowed := true, recurses := true, named := ["bolthole/isa.operators", "bolthole/isa.shapes", "internal/strconv.uint64pow10", "math/bits.deBruijn32tab", "math/bits.deBruijn64tab"], apart := false, laid := [("math/bits.deBruijn32tab", laid_math_bits_deBruijn32tab), ("math/bits.deBruijn64tab", laid_math_bits_deBruijn64tab), ("internal/strconv.uint64pow10", laid_internal_strconv_uint64pow10), ("bolthole/isa.operators", laid_bolthole_isa_operators), ("bolthole/isa.shapes", laid_bolthole_isa_shapes)], narrowed := true }
def ImageApartUptoSaid : Prop := imageApartUptoRow.holds Tryd.pinned (OpenSpec.upto imageApartSpec)

/-- 'boltholelaw.StepRuns', WHERE WHAT IT READS IS OF BULK AT MOST 1048576: true; the input reads as it did. -/
def stepRunsUptoRow : OpenClaim := { program := "ytechpdfcgimkkaadoor", sum := "03fb9dfdeb09376282e52131615c0958d1553bc96403e43ac8f64d0e25a59419", func := "bolthole/boltholelaw.StepRuns", spec := "stepRuns", unfollowed := true, recurses := true, named := ["bolthole/isa.operators", "bolthole/isa.shapes", "math/bits.divideError", "math/bits.overflowError"], apart := false, laid := [("bolthole/isa.operators", laid_bolthole_isa_operators), ("bolthole/isa.shapes", laid_bolthole_isa_shapes)], narrowed := true }
def StepRunsUptoSaid : Prop := stepRunsUptoRow.holds Tryd.pinned (OpenSpec.upto stepRunsSpec)

/-- 'boltholekeep.Sums', WHERE WHAT IT READS IS OF BULK AT MOST 1048576: true; the input reads as it did. -/
def sumsUptoRow : OpenClaim := { program := "ytechpdfcgimkkaadoor", sum := "03fb9dfdeb09376282e52131615c0958d1553bc96403e43ac8f64d0e25a59419", func := "bolthole/boltholekeep.Sums", spec := "sums", unfollowed := true, recurses := true, named := ["bolthole/isa.operators", "bolthole/isa.shapes", "math/bits.divideError", "math/bits.overflowError"], apart := false, laid := [("bolthole/isa.operators", laid_bolthole_isa_operators), ("bolthole/isa.shapes", laid_bolthole_isa_shapes)], narrowed := true }
def SumsUptoSaid : Prop := sumsUptoRow.holds Tryd.pinned (OpenSpec.upto sumsSpec)

/-- 'boltholekeep.Bits', WHERE WHAT IT READS IS OF BULK AT MOST 1048576: true; the input reads as it did. -/
def bitsUptoRow : OpenClaim := { program := "ytechpdfcgimkkaadoor", sum := "03fb9dfdeb09376282e52131615c0958d1553bc96403e43ac8f64d0e25a59419", func := "bolthole/boltholekeep.Bits", spec := "bits", unfollowed := true, recurses := true, named := ["bolthole/isa.operators", "bolthole/isa.shapes", "math/bits.divideError", "math/bits.overflowError"], apart := false, laid := [("bolthole/isa.operators", laid_bolthole_isa_operators), ("bolthole/isa.shapes", laid_bolthole_isa_shapes)], narrowed := true }
def BitsUptoSaid : Prop := bitsUptoRow.holds Tryd.pinned (OpenSpec.upto bitsSpec)

/-- 'boltholekeep.Memory', WHERE WHAT IT READS IS OF BULK AT MOST 1048576: true; the input reads as it did. -/
def memoryUptoRow : OpenClaim := { program := "ytechpdfcgimkkaadoor", sum := "03fb9dfdeb09376282e52131615c0958d1553bc96403e43ac8f64d0e25a59419", func := "bolthole/boltholekeep.Memory", spec := "memory", unfollowed := true, recurses := true, named := ["bolthole/isa.operators", "bolthole/isa.shapes", "math/bits.divideError", "math/bits.overflowError"], apart := false, laid := [("bolthole/isa.operators", laid_bolthole_isa_operators), ("bolthole/isa.shapes", laid_bolthole_isa_shapes)], narrowed := true }
def MemoryUptoSaid : Prop := memoryUptoRow.holds Tryd.pinned (OpenSpec.upto memorySpec)

/-- 'boltholekeep.Branches', WHERE WHAT IT READS IS OF BULK AT MOST 1048576: true; the input reads as it did. -/
def branchesUptoRow : OpenClaim := { program := "ytechpdfcgimkkaadoor", sum := "03fb9dfdeb09376282e52131615c0958d1553bc96403e43ac8f64d0e25a59419", func := "bolthole/boltholekeep.Branches", spec := "branches", unfollowed := true, recurses := true, named := ["bolthole/isa.operators", "bolthole/isa.shapes", "math/bits.divideError", "math/bits.overflowError"], apart := false, laid := [("bolthole/isa.operators", laid_bolthole_isa_operators), ("bolthole/isa.shapes", laid_bolthole_isa_shapes)], narrowed := true }
def BranchesUptoSaid : Prop := branchesUptoRow.holds Tryd.pinned (OpenSpec.upto branchesSpec)

/-- 'boltholekeep.Calls', WHERE WHAT IT READS IS OF BULK AT MOST 1048576: true; the input reads as it did. -/
def callsUptoRow : OpenClaim := { program := "ytechpdfcgimkkaadoor", sum := "03fb9dfdeb09376282e52131615c0958d1553bc96403e43ac8f64d0e25a59419", func := "bolthole/boltholekeep.Calls", spec := "calls", unfollowed := true, recurses := true, named := ["bolthole/isa.operators", "bolthole/isa.shapes", "math/bits.divideError", "math/bits.overflowError"], apart := false, laid := [("bolthole/isa.operators", laid_bolthole_isa_operators), ("bolthole/isa.shapes", laid_bolthole_isa_shapes)], narrowed := true }
def CallsUptoSaid : Prop := callsUptoRow.holds Tryd.pinned (OpenSpec.upto callsSpec)

/-- 'boltholekeep.FuelRuns', WHERE WHAT IT READS IS OF BULK AT MOST 1048576: true; the input reads as it did. -/
def fuelRunsUptoRow : OpenClaim := { program := "ytechpdfcgimkkaadoor", sum := "03fb9dfdeb09376282e52131615c0958d1553bc96403e43ac8f64d0e25a59419", func := "bolthole/boltholekeep.FuelRuns", spec := "fuelRuns", unfollowed := true, recurses := true, named := ["bolthole/isa.operators", "bolthole/isa.shapes", "internal/strconv.uint64pow10", "math/bits.deBruijn32tab", "math/bits.deBruijn64tab", "math/bits.divideError", "math/bits.overflowError"], apart := false, laid := [("math/bits.deBruijn32tab", laid_math_bits_deBruijn32tab), ("math/bits.deBruijn64tab", laid_math_bits_deBruijn64tab), ("internal/strconv.uint64pow10", laid_internal_strconv_uint64pow10), ("bolthole/isa.operators", laid_bolthole_isa_operators), ("bolthole/isa.shapes", laid_bolthole_isa_shapes)], narrowed := true }
def FuelRunsUptoSaid : Prop := fuelRunsUptoRow.holds Tryd.pinned (OpenSpec.upto fuelRunsSpec)

/-- 'boltholekeep.InputsIn', WHERE WHAT IT READS IS OF BULK AT MOST 1048576: true; the input reads as it did. -/
def inputsInUptoRow : OpenClaim := { program := "ytechpdfcgimkkaadoor", sum := "03fb9dfdeb09376282e52131615c0958d1553bc96403e43ac8f64d0e25a59419", func := "bolthole/boltholekeep.InputsIn", spec := "inputsIn", unfollowed := true, recurses := true, named := ["bolthole/isa.operators", "bolthole/isa.shapes", "math/bits.divideError", "math/bits.overflowError", "internal/strconv.uint64pow10", "math/bits.deBruijn32tab", "math/bits.deBruijn64tab"], apart := false, laid := [("math/bits.deBruijn32tab", laid_math_bits_deBruijn32tab), ("math/bits.deBruijn64tab", laid_math_bits_deBruijn64tab), ("internal/strconv.uint64pow10", laid_internal_strconv_uint64pow10), ("bolthole/isa.operators", laid_bolthole_isa_operators), ("bolthole/isa.shapes", laid_bolthole_isa_shapes)], narrowed := true }
def InputsInUptoSaid : Prop := inputsInUptoRow.holds Tryd.pinned (OpenSpec.upto inputsInSpec)

/-- 'boltholekeep.Loops', WHERE WHAT IT READS IS OF BULK AT MOST 1048576: true; the input reads as it did. -/
def loopsUptoRow : OpenClaim := { program := "ytechpdfcgimkkaadoor", sum := "03fb9dfdeb09376282e52131615c0958d1553bc96403e43ac8f64d0e25a59419", func := "bolthole/boltholekeep.Loops", spec := "loops", unfollowed := true, recurses := true, named := ["bolthole/isa.operators", "bolthole/isa.shapes", "math/bits.divideError", "math/bits.overflowError"], apart := false, laid := [("bolthole/isa.operators", laid_bolthole_isa_operators), ("bolthole/isa.shapes", laid_bolthole_isa_shapes)], narrowed := true }
def LoopsUptoSaid : Prop := loopsUptoRow.holds Tryd.pinned (OpenSpec.upto loopsSpec)

end Rows
end Go.Proofs.YtechpdfcgimkkaaDoor
