/-
  NARROWER THAN 'FOR EVERY INPUT', by the rows' own cells (each row's printed sentence says how): IsaChecks: laid · IsaSizes: laid · IsaEncodes: laid · IsaDecodes: laid · InstrBack: laid · InstrFixed: laid.
  DERIVED. THE GIVEN ROWS OF THIS SEAT. 6 by the template 'for every input the law returns true; each argument reads behind the call as it read before'; 0 by the template 'total and deterministic' (their statements: YtkofnmeononlaaaDoorTotals.lean).
  GIVEN WITH THE SEED: the statements are not yours to turn. If you find one false, say at which input.
  Laid BY PROGRAM, IN A SANDBOX (cutbox-rows.mjs): the forced cells as the released guide's own fill.sh prints them over the translation 31ef8c38c7ec3098… (all of the seat's roots in one cut). By AI agents, Wed Nov 11 2026. No macro, syntax, notation, axiom, sorry.
-/
import Derived.Test.YtkofnmeononlaaaDoorChecked
import GoSem.Claim
import GoSem.ClaimJoined
import GoSem.ClaimMapViews
import Derived.JoinedTies
import Derived.KernelRfl
namespace Go.Proofs.YtkofnmeononlaaaDoor
/- THE CELL 'sum', in the pinned program and in every row, IS THE sha256 OF THE DUMP (.gsa) THAT YtkofnmeononlaaaDoorProg.lean LOADS. Nothing in Lean hashes anything: it is a label: what it is worth is what the hold of that sum in a sandbox is worth. -/
noncomputable def Tryd.pinned : Pinned := { name := "ytkofnmeononlaaadoor", sum := "31ef8c38c7ec3098d512426809919982e1cc154be43e59d824fc465e906510da", checked := Tryd.checked }
namespace Rows
def none {H : Type} : Left H := { results := [], args := [] }

/- WHAT THE LISTED PACKAGE-LEVEL VARIABLES READ AS WHEN THE CALL BEGINS. Each datum BY PROGRAM (the guide's laid-datum.mjs) off the statement by which the dump's own 'gosem.cut.vars' lays the variable. In a bare row this is a premise. The card (YtkofnmeononlaaaDoorCards.lean) ties it to the program's text. -/
def laid_bolthole_isa_operators {H : Type} : DataW H := .agg [.agg [.lit (.int .u8 0), .lit (.int .u8 0), .lit (.int .i64 0)], .agg [.lit (.int .u8 0), .lit (.int .u8 0), .lit (.int .i64 0)], .agg [.lit (.int .u8 1), .lit (.int .u8 0), .lit (.int .i64 0)], .agg [.lit (.int .u8 2), .lit (.int .u8 0), .lit (.int .i64 0)], .agg [.lit (.int .u8 3), .lit (.int .u8 0), .lit (.int .i64 0)], .agg [.lit (.int .u8 16), .lit (.int .u8 0), .lit (.int .i64 1)], .agg [.lit (.int .u8 17), .lit (.int .u8 0), .lit (.int .i64 2)], .agg [.lit (.int .u8 32), .lit (.int .u8 0), .lit (.int .i64 3)], .agg [.lit (.int .u8 33), .lit (.int .u8 0), .lit (.int .i64 3)], .agg [.lit (.int .u8 34), .lit (.int .u8 0), .lit (.int .i64 3)], .agg [.lit (.int .u8 35), .lit (.int .u8 0), .lit (.int .i64 3)], .agg [.lit (.int .u8 36), .lit (.int .u8 0), .lit (.int .i64 3)], .agg [.lit (.int .u8 37), .lit (.int .u8 0), .lit (.int .i64 3)], .agg [.lit (.int .u8 38), .lit (.int .u8 0), .lit (.int .i64 3)], .agg [.lit (.int .u8 48), .lit (.int .u8 0), .lit (.int .i64 2)], .agg [.lit (.int .u8 49), .lit (.int .u8 0), .lit (.int .i64 4)], .agg [.lit (.int .u8 64), .lit (.int .u8 0), .lit (.int .i64 5)], .agg [.lit (.int .u8 65), .lit (.int .u8 0), .lit (.int .i64 6)], .agg [.lit (.int .u8 80), .lit (.int .u8 84), .lit (.int .i64 7)], .agg [.lit (.int .u8 81), .lit (.int .u8 85), .lit (.int .i64 7)], .agg [.lit (.int .u8 82), .lit (.int .u8 86), .lit (.int .i64 7)], .agg [.lit (.int .u8 83), .lit (.int .u8 87), .lit (.int .i64 7)], .agg [.lit (.int .u8 96), .lit (.int .u8 97), .lit (.int .i64 8)], .agg [.lit (.int .u8 98), .lit (.int .u8 0), .lit (.int .i64 9)], .agg [.lit (.int .u8 99), .lit (.int .u8 0), .lit (.int .i64 10)]]
def laid_bolthole_isa_shapes {H : Type} : DataW H := .agg [.agg [.lit (.int .i64 0), .lit (.int .i64 0), .lit (.int .i64 0), .lit (.int .i64 0)], .agg [.lit (.int .i64 0), .lit (.int .i64 1), .lit (.int .i64 0), .lit (.int .i64 2)], .agg [.lit (.int .i64 1), .lit (.int .i64 2), .lit (.int .i64 0), .lit (.int .i64 1)], .agg [.lit (.int .i64 1), .lit (.int .i64 2), .lit (.int .i64 3), .lit (.int .i64 0)], .agg [.lit (.int .i64 3), .lit (.int .i64 2), .lit (.int .i64 0), .lit (.int .i64 1)], .agg [.lit (.int .i64 0), .lit (.int .i64 1), .lit (.int .i64 0), .lit (.int .i64 0)], .agg [.lit (.int .i64 0), .lit (.int .i64 2), .lit (.int .i64 0), .lit (.int .i64 0)], .agg [.lit (.int .i64 2), .lit (.int .i64 3), .lit (.int .i64 0), .lit (.int .i64 1)], .agg [.lit (.int .i64 0), .lit (.int .i64 0), .lit (.int .i64 0), .lit (.int .i64 1)], .agg [.lit (.int .i64 0), .lit (.int .i64 0), .lit (.int .i64 0), .lit (.int .i64 2)], .agg [.lit (.int .i64 0), .lit (.int .i64 2), .lit (.int .i64 0), .lit (.int .i64 1)]]

/-- 'boltholelaw.IsaChecks': WHATEVER THE INPUT: true; the input reads as it did. -/
def isaChecksSpec : ChangeSpec := { name := "isaChecks", fn := fun _ => fun
  | [d] => { results := [.lit (.bool true)], args := [d] }
  | _ => none }
def isaChecksRow : OpenClaim := { program := "ytkofnmeononlaaadoor", sum := "31ef8c38c7ec3098d512426809919982e1cc154be43e59d824fc465e906510da", func := "bolthole/boltholelaw.IsaChecks", spec := "isaChecks", named := ["bolthole/isa.operators", "bolthole/isa.shapes"], apart := false, laid := [("bolthole/isa.operators", laid_bolthole_isa_operators), ("bolthole/isa.shapes", laid_bolthole_isa_shapes)] }
def IsaChecksSaid : Prop := isaChecksRow.holds Tryd.pinned (OpenSpec.ofChange isaChecksSpec)

/-- ITS FALSE NEIGHBOUR: 'it returns false'. Refute it at one input. -/
def isaChecksWrong : ChangeSpec := { name := "isaChecks", fn := fun _ => fun
  | [d] => { results := [.lit (.bool false)], args := [d] }
  | _ => none }
def IsaChecksWrongFalsely : Prop := isaChecksRow.holds Tryd.pinned (OpenSpec.ofChange isaChecksWrong)

/-- 'boltholelaw.IsaSizes': WHATEVER THE INPUT: true; the input reads as it did. -/
def isaSizesSpec : ChangeSpec := { name := "isaSizes", fn := fun _ => fun
  | [d] => { results := [.lit (.bool true)], args := [d] }
  | _ => none }
def isaSizesRow : OpenClaim := { program := "ytkofnmeononlaaadoor", sum := "31ef8c38c7ec3098d512426809919982e1cc154be43e59d824fc465e906510da", func := "bolthole/boltholelaw.IsaSizes", spec := "isaSizes", named := ["bolthole/isa.operators", "bolthole/isa.shapes"], apart := false, laid := [("bolthole/isa.operators", laid_bolthole_isa_operators), ("bolthole/isa.shapes", laid_bolthole_isa_shapes)] }
def IsaSizesSaid : Prop := isaSizesRow.holds Tryd.pinned (OpenSpec.ofChange isaSizesSpec)

/-- ITS FALSE NEIGHBOUR: 'it returns false'. Refute it at one input. -/
def isaSizesWrong : ChangeSpec := { name := "isaSizes", fn := fun _ => fun
  | [d] => { results := [.lit (.bool false)], args := [d] }
  | _ => none }
def IsaSizesWrongFalsely : Prop := isaSizesRow.holds Tryd.pinned (OpenSpec.ofChange isaSizesWrong)

/-- 'boltholelaw.IsaEncodes': WHATEVER THE INPUT: true; the input reads as it did. -/
def isaEncodesSpec : ChangeSpec := { name := "isaEncodes", fn := fun _ => fun
  | [d] => { results := [.lit (.bool true)], args := [d] }
  | _ => none }
def isaEncodesRow : OpenClaim := { program := "ytkofnmeononlaaadoor", sum := "31ef8c38c7ec3098d512426809919982e1cc154be43e59d824fc465e906510da", func := "bolthole/boltholelaw.IsaEncodes", spec := "isaEncodes", named := ["bolthole/isa.operators", "bolthole/isa.shapes"], apart := false, laid := [("bolthole/isa.operators", laid_bolthole_isa_operators), ("bolthole/isa.shapes", laid_bolthole_isa_shapes)] }
def IsaEncodesSaid : Prop := isaEncodesRow.holds Tryd.pinned (OpenSpec.ofChange isaEncodesSpec)

/-- ITS FALSE NEIGHBOUR: 'it returns false'. Refute it at one input. -/
def isaEncodesWrong : ChangeSpec := { name := "isaEncodes", fn := fun _ => fun
  | [d] => { results := [.lit (.bool false)], args := [d] }
  | _ => none }
def IsaEncodesWrongFalsely : Prop := isaEncodesRow.holds Tryd.pinned (OpenSpec.ofChange isaEncodesWrong)

/-- 'boltholelaw.IsaDecodes': WHATEVER THE INPUT: true; the input reads as it did. -/
def isaDecodesSpec : ChangeSpec := { name := "isaDecodes", fn := fun _ => fun
  | [d1, d2] => { results := [.lit (.bool true)], args := [d1, d2] }
  | _ => none }
def isaDecodesRow : OpenClaim := { program := "ytkofnmeononlaaadoor", sum := "31ef8c38c7ec3098d512426809919982e1cc154be43e59d824fc465e906510da", func := "bolthole/boltholelaw.IsaDecodes", spec := "isaDecodes", unfollowed := true, recurses := true, named := ["bolthole/isa.operators", "bolthole/isa.shapes"], apart := false, laid := [("bolthole/isa.operators", laid_bolthole_isa_operators), ("bolthole/isa.shapes", laid_bolthole_isa_shapes)] }
def IsaDecodesSaid : Prop := isaDecodesRow.holds Tryd.pinned (OpenSpec.ofChange isaDecodesSpec)

/-- ITS FALSE NEIGHBOUR: 'it returns false'. Refute it at one input. -/
def isaDecodesWrong : ChangeSpec := { name := "isaDecodes", fn := fun _ => fun
  | [d1, d2] => { results := [.lit (.bool false)], args := [d1, d2] }
  | _ => none }
def IsaDecodesWrongFalsely : Prop := isaDecodesRow.holds Tryd.pinned (OpenSpec.ofChange isaDecodesWrong)

/-- 'boltholekeep.InstrBack': WHATEVER THE INPUT: true; the input reads as it did. -/
def instrBackSpec : ChangeSpec := { name := "instrBack", fn := fun _ => fun
  | [d1, d2, d3] => { results := [.lit (.bool true)], args := [d1, d2, d3] }
  | _ => none }
def instrBackRow : OpenClaim := { program := "ytkofnmeononlaaadoor", sum := "31ef8c38c7ec3098d512426809919982e1cc154be43e59d824fc465e906510da", func := "bolthole/boltholekeep.InstrBack", spec := "instrBack", unfollowed := true, recurses := true, named := ["bolthole/isa.operators", "bolthole/isa.shapes"], apart := false, laid := [("bolthole/isa.operators", laid_bolthole_isa_operators), ("bolthole/isa.shapes", laid_bolthole_isa_shapes)] }
def InstrBackSaid : Prop := instrBackRow.holds Tryd.pinned (OpenSpec.ofChange instrBackSpec)

/-- ITS FALSE NEIGHBOUR: 'it returns false'. Refute it at one input. -/
def instrBackWrong : ChangeSpec := { name := "instrBack", fn := fun _ => fun
  | [d1, d2, d3] => { results := [.lit (.bool false)], args := [d1, d2, d3] }
  | _ => none }
def InstrBackWrongFalsely : Prop := instrBackRow.holds Tryd.pinned (OpenSpec.ofChange instrBackWrong)

/-- 'boltholekeep.InstrFixed': WHATEVER THE INPUT: true; the input reads as it did. -/
def instrFixedSpec : ChangeSpec := { name := "instrFixed", fn := fun _ => fun
  | [d] => { results := [.lit (.bool true)], args := [d] }
  | _ => none }
def instrFixedRow : OpenClaim := { program := "ytkofnmeononlaaadoor", sum := "31ef8c38c7ec3098d512426809919982e1cc154be43e59d824fc465e906510da", func := "bolthole/boltholekeep.InstrFixed", spec := "instrFixed", unfollowed := true, recurses := true, named := ["bolthole/isa.operators", "bolthole/isa.shapes"], apart := false, laid := [("bolthole/isa.operators", laid_bolthole_isa_operators), ("bolthole/isa.shapes", laid_bolthole_isa_shapes)] }
def InstrFixedSaid : Prop := instrFixedRow.holds Tryd.pinned (OpenSpec.ofChange instrFixedSpec)

/-- ITS FALSE NEIGHBOUR: 'it returns false'. Refute it at one input. -/
def instrFixedWrong : ChangeSpec := { name := "instrFixed", fn := fun _ => fun
  | [d] => { results := [.lit (.bool false)], args := [d] }
  | _ => none }
def InstrFixedWrongFalsely : Prop := instrFixedRow.holds Tryd.pinned (OpenSpec.ofChange instrFixedWrong)

/- THE SECOND FORM. 'bulk': how many values and letters a reading holds, each counted each time it is reached (what is shared counts as often as it is met; a slice's spare places count too). A statement '..UptoSaid' is the law's where the arguments, and the package variables that the reading takes, are together of bulk at most 1048576: NARROWER than '..Said'. Prove '..Said' where nothing that the law and all that it calls make is longer than what came in: it says more and counts as full. Else prove '..UptoSaid'. A law counts once. -/
mutual
def uptoBulk {H : Type} : DataW H → Nat
  | .lit (.string bytes) => bytes.length + 1
  | .lit _ => 1
  | .nil => 1
  | .ptr d => uptoBulk d + 1
  | .slice elems spare => uptoBulkAll elems + uptoBulkAll spare + 1
  | .agg parts => uptoBulkAll parts + 1
  | .iface _ d => uptoBulk d + 1
  | .map entries => uptoBulkEntries entries + 1
  | .held _ => 1
def uptoBulkAll {H : Type} : List (DataW H) → Nat
  | [] => 0
  | d :: r => uptoBulk d + uptoBulkAll r
def uptoBulkEntries {H : Type} : List (Lit × DataW H) → Nat
  | [] => 0
  | x :: r => uptoBulkEntry x + uptoBulkEntries r
def uptoBulkEntry {H : Type} : Lit × DataW H → Nat
  | (.string bytes, d) => bytes.length + uptoBulk d + 1
  | (_, d) => uptoBulk d + 1
 end
def uptoSmall : (H : Type) → List (DataW H) → Bool := fun _ ds => decide (uptoBulkAll ds ≤ 1048576)
def OpenSpec.upto (s : _root_.Go.ChangeSpec) : _root_.Go.OpenSpec := { _root_.Go.OpenSpec.ofChange s with cond := some uptoSmall }

/-- 'boltholelaw.IsaChecks', WHERE WHAT IT READS IS OF BULK AT MOST 1048576: true; the input reads as it did. -/
def isaChecksUptoRow : OpenClaim := { program := "ytkofnmeononlaaadoor", sum := "31ef8c38c7ec3098d512426809919982e1cc154be43e59d824fc465e906510da", func := "bolthole/boltholelaw.IsaChecks", spec := "isaChecks", named := ["bolthole/isa.operators", "bolthole/isa.shapes"], apart := false, laid := [("bolthole/isa.operators", laid_bolthole_isa_operators), ("bolthole/isa.shapes", laid_bolthole_isa_shapes)], narrowed := true }
def IsaChecksUptoSaid : Prop := isaChecksUptoRow.holds Tryd.pinned (OpenSpec.upto isaChecksSpec)

/-- 'boltholelaw.IsaSizes', WHERE WHAT IT READS IS OF BULK AT MOST 1048576: true; the input reads as it did. -/
def isaSizesUptoRow : OpenClaim := { program := "ytkofnmeononlaaadoor", sum := "31ef8c38c7ec3098d512426809919982e1cc154be43e59d824fc465e906510da", func := "bolthole/boltholelaw.IsaSizes", spec := "isaSizes", named := ["bolthole/isa.operators", "bolthole/isa.shapes"], apart := false, laid := [("bolthole/isa.operators", laid_bolthole_isa_operators), ("bolthole/isa.shapes", laid_bolthole_isa_shapes)], narrowed := true }
def IsaSizesUptoSaid : Prop := isaSizesUptoRow.holds Tryd.pinned (OpenSpec.upto isaSizesSpec)

/-- 'boltholelaw.IsaEncodes', WHERE WHAT IT READS IS OF BULK AT MOST 1048576: true; the input reads as it did. -/
def isaEncodesUptoRow : OpenClaim := { program := "ytkofnmeononlaaadoor", sum := "31ef8c38c7ec3098d512426809919982e1cc154be43e59d824fc465e906510da", func := "bolthole/boltholelaw.IsaEncodes", spec := "isaEncodes", named := ["bolthole/isa.operators", "bolthole/isa.shapes"], apart := false, laid := [("bolthole/isa.operators", laid_bolthole_isa_operators), ("bolthole/isa.shapes", laid_bolthole_isa_shapes)], narrowed := true }
def IsaEncodesUptoSaid : Prop := isaEncodesUptoRow.holds Tryd.pinned (OpenSpec.upto isaEncodesSpec)

/-- 'boltholelaw.IsaDecodes', WHERE WHAT IT READS IS OF BULK AT MOST 1048576: true; the input reads as it did. -/
def isaDecodesUptoRow : OpenClaim := { program := "ytkofnmeononlaaadoor", sum := "31ef8c38c7ec3098d512426809919982e1cc154be43e59d824fc465e906510da", func := "bolthole/boltholelaw.IsaDecodes", spec := "isaDecodes", unfollowed := true, recurses := true, named := ["bolthole/isa.operators", "bolthole/isa.shapes"], apart := false, laid := [("bolthole/isa.operators", laid_bolthole_isa_operators), ("bolthole/isa.shapes", laid_bolthole_isa_shapes)], narrowed := true }
def IsaDecodesUptoSaid : Prop := isaDecodesUptoRow.holds Tryd.pinned (OpenSpec.upto isaDecodesSpec)

/-- 'boltholekeep.InstrBack', WHERE WHAT IT READS IS OF BULK AT MOST 1048576: true; the input reads as it did. -/
def instrBackUptoRow : OpenClaim := { program := "ytkofnmeononlaaadoor", sum := "31ef8c38c7ec3098d512426809919982e1cc154be43e59d824fc465e906510da", func := "bolthole/boltholekeep.InstrBack", spec := "instrBack", unfollowed := true, recurses := true, named := ["bolthole/isa.operators", "bolthole/isa.shapes"], apart := false, laid := [("bolthole/isa.operators", laid_bolthole_isa_operators), ("bolthole/isa.shapes", laid_bolthole_isa_shapes)], narrowed := true }
def InstrBackUptoSaid : Prop := instrBackUptoRow.holds Tryd.pinned (OpenSpec.upto instrBackSpec)

/-- 'boltholekeep.InstrFixed', WHERE WHAT IT READS IS OF BULK AT MOST 1048576: true; the input reads as it did. -/
def instrFixedUptoRow : OpenClaim := { program := "ytkofnmeononlaaadoor", sum := "31ef8c38c7ec3098d512426809919982e1cc154be43e59d824fc465e906510da", func := "bolthole/boltholekeep.InstrFixed", spec := "instrFixed", unfollowed := true, recurses := true, named := ["bolthole/isa.operators", "bolthole/isa.shapes"], apart := false, laid := [("bolthole/isa.operators", laid_bolthole_isa_operators), ("bolthole/isa.shapes", laid_bolthole_isa_shapes)], narrowed := true }
def InstrFixedUptoSaid : Prop := instrFixedUptoRow.holds Tryd.pinned (OpenSpec.upto instrFixedSpec)

end Rows
end Go.Proofs.YtkofnmeononlaaaDoor
