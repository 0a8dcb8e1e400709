/-
  No cell of these rows narrows 'for every input' (looked for: loops, veiled, ifaces, maps, wideKeys, modest, calm, conditions, laid).
  DERIVED. THE GIVEN ROWS OF THIS SEAT. 5 by the template 'for every input the law returns true; each argument reads behind the call as it read before'; 0 by the template 'total and deterministic' (their statements: YtmibbjjfijcgpacTotals.lean).
  GIVEN WITH THE SEED: the statements are not yours to turn. If you find one false, say at which input.
  Laid BY PROGRAM, IN A SANDBOX (cutbox-rows.mjs): the forced cells as the released guide's own fill.sh prints them over the translation 1f500529f7ec73c8… (all of the seat's roots in one cut). By AI agents, Wed Nov 11 2026. No macro, syntax, notation, axiom, sorry.
-/
import Derived.Test.YtmibbjjfijcgpacChecked
import GoSem.Claim
import GoSem.ClaimJoined
import GoSem.ClaimMapViews
import Derived.JoinedTies
import Derived.KernelRfl
namespace Go.Proofs.Ytmibbjjfijcgpac
/- THE CELL 'sum', in the pinned program and in every row, IS THE sha256 OF THE DUMP (.gsa) THAT YtmibbjjfijcgpacProg.lean LOADS. Nothing in Lean hashes anything: it is a label: what it is worth is what the hold of that sum in a sandbox is worth. -/
noncomputable def Try.pinned : Pinned := { name := "ytmibbjjfijcgpac", sum := "1f500529f7ec73c8b8ba286537c6f3b975e47221574770627bc031053e7c99c7", checked := Try.checked }
namespace Rows
def none {H : Type} : Left H := { results := [], args := [] }

/-- 'boltholelaw.ImageLines': WHATEVER THE INPUT: true; the input reads as it did. -/
def imageLinesSpec : ChangeSpec := { name := "imageLines", fn := fun _ => fun
  | [d1, d2] => { results := [.lit (.bool true)], args := [d1, d2] }
  | _ => none }
def imageLinesRow : OpenClaim := { program := "ytmibbjjfijcgpac", sum := "1f500529f7ec73c8b8ba286537c6f3b975e47221574770627bc031053e7c99c7", func := "bolthole/boltholelaw.ImageLines", spec := "imageLines", apart := false }
def ImageLinesSaid : Prop := imageLinesRow.holds Try.pinned (OpenSpec.ofChange imageLinesSpec)

/-- ITS FALSE NEIGHBOUR: 'it returns false'. Refute it at one input. -/
def imageLinesWrong : ChangeSpec := { name := "imageLines", fn := fun _ => fun
  | [d1, d2] => { results := [.lit (.bool false)], args := [d1, d2] }
  | _ => none }
def ImageLinesWrongFalsely : Prop := imageLinesRow.holds Try.pinned (OpenSpec.ofChange imageLinesWrong)

/-- 'boltholelaw.ImageCopies': WHATEVER THE INPUT: true; the input reads as it did. -/
def imageCopiesSpec : ChangeSpec := { name := "imageCopies", fn := fun _ => fun
  | [d] => { results := [.lit (.bool true)], args := [d] }
  | _ => none }
def imageCopiesRow : OpenClaim := { program := "ytmibbjjfijcgpac", sum := "1f500529f7ec73c8b8ba286537c6f3b975e47221574770627bc031053e7c99c7", func := "bolthole/boltholelaw.ImageCopies", spec := "imageCopies", apart := false }
def ImageCopiesSaid : Prop := imageCopiesRow.holds Try.pinned (OpenSpec.ofChange imageCopiesSpec)

/-- ITS FALSE NEIGHBOUR: 'it returns false'. Refute it at one input. -/
def imageCopiesWrong : ChangeSpec := { name := "imageCopies", fn := fun _ => fun
  | [d] => { results := [.lit (.bool false)], args := [d] }
  | _ => none }
def ImageCopiesWrongFalsely : Prop := imageCopiesRow.holds Try.pinned (OpenSpec.ofChange imageCopiesWrong)

/-- 'boltholelaw.ImageEncodes': WHATEVER THE INPUT: true; the input reads as it did. -/
def imageEncodesSpec : ChangeSpec := { name := "imageEncodes", fn := fun _ => fun
  | [d] => { results := [.lit (.bool true)], args := [d] }
  | _ => none }
def imageEncodesRow : OpenClaim := { program := "ytmibbjjfijcgpac", sum := "1f500529f7ec73c8b8ba286537c6f3b975e47221574770627bc031053e7c99c7", func := "bolthole/boltholelaw.ImageEncodes", spec := "imageEncodes", unfollowed := true, recurses := true, apart := false }
def ImageEncodesSaid : Prop := imageEncodesRow.holds Try.pinned (OpenSpec.ofChange imageEncodesSpec)

/-- ITS FALSE NEIGHBOUR: 'it returns false'. Refute it at one input. -/
def imageEncodesWrong : ChangeSpec := { name := "imageEncodes", fn := fun _ => fun
  | [d] => { results := [.lit (.bool false)], args := [d] }
  | _ => none }
def ImageEncodesWrongFalsely : Prop := imageEncodesRow.holds Try.pinned (OpenSpec.ofChange imageEncodesWrong)

/-- 'boltholelaw.ImageDecodes': WHATEVER THE INPUT: true; the input reads as it did. -/
def imageDecodesSpec : ChangeSpec := { name := "imageDecodes", fn := fun _ => fun
  | [d] => { results := [.lit (.bool true)], args := [d] }
  | _ => none }
def imageDecodesRow : OpenClaim := { program := "ytmibbjjfijcgpac", sum := "1f500529f7ec73c8b8ba286537c6f3b975e47221574770627bc031053e7c99c7", func := "bolthole/boltholelaw.ImageDecodes", spec := "imageDecodes", unfollowed := true, recurses := true, apart := false }
def ImageDecodesSaid : Prop := imageDecodesRow.holds Try.pinned (OpenSpec.ofChange imageDecodesSpec)

/-- ITS FALSE NEIGHBOUR: 'it returns false'. Refute it at one input. -/
def imageDecodesWrong : ChangeSpec := { name := "imageDecodes", fn := fun _ => fun
  | [d] => { results := [.lit (.bool false)], args := [d] }
  | _ => none }
def ImageDecodesWrongFalsely : Prop := imageDecodesRow.holds Try.pinned (OpenSpec.ofChange imageDecodesWrong)

/-- 'boltholekeep.ImageFixed': WHATEVER THE INPUT: true; the input reads as it did. -/
def imageFixedSpec : ChangeSpec := { name := "imageFixed", fn := fun _ => fun
  | [d] => { results := [.lit (.bool true)], args := [d] }
  | _ => none }
def imageFixedRow : OpenClaim := { program := "ytmibbjjfijcgpac", sum := "1f500529f7ec73c8b8ba286537c6f3b975e47221574770627bc031053e7c99c7", func := "bolthole/boltholekeep.ImageFixed", spec := "imageFixed", unfollowed := true, recurses := true, apart := false }
def ImageFixedSaid : Prop := imageFixedRow.holds Try.pinned (OpenSpec.ofChange imageFixedSpec)

/-- ITS FALSE NEIGHBOUR: 'it returns false'. Refute it at one input. -/
def imageFixedWrong : ChangeSpec := { name := "imageFixed", fn := fun _ => fun
  | [d] => { results := [.lit (.bool false)], args := [d] }
  | _ => none }
def ImageFixedWrongFalsely : Prop := imageFixedRow.holds Try.pinned (OpenSpec.ofChange imageFixedWrong)

/- THE SECOND FORM. 'bulk': how many values and letters a reading holds, each counted each time it is reached (what is shared counts as often as it is met; a slice's spare places count too). A statement '..UptoSaid' is the law's where the arguments, and the package variables that the reading takes, are together of bulk at most 1048576: NARROWER than '..Said'. Prove '..Said' where nothing that the law and all that it calls make is longer than what came in: it says more and counts as full. Else prove '..UptoSaid'. A law counts once. -/
mutual
def uptoBulk {H : Type} : DataW H → Nat
  | .lit (.string bytes) => bytes.length + 1
  | .lit _ => 1
  | .nil => 1
  | .ptr d => uptoBulk d + 1
  | .slice elems spare => uptoBulkAll elems + uptoBulkAll spare + 1
  | .agg parts => uptoBulkAll parts + 1
  | .iface _ d => uptoBulk d + 1
  | .map entries => uptoBulkEntries entries + 1
  | .held _ => 1
def uptoBulkAll {H : Type} : List (DataW H) → Nat
  | [] => 0
  | d :: r => uptoBulk d + uptoBulkAll r
def uptoBulkEntries {H : Type} : List (Lit × DataW H) → Nat
  | [] => 0
  | x :: r => uptoBulkEntry x + uptoBulkEntries r
def uptoBulkEntry {H : Type} : Lit × DataW H → Nat
  | (.string bytes, d) => bytes.length + uptoBulk d + 1
  | (_, d) => uptoBulk d + 1
 end
def uptoSmall : (H : Type) → List (DataW H) → Bool := fun _ ds => decide (uptoBulkAll ds ≤ 1048576)
def OpenSpec.upto (s : _root_.Go.ChangeSpec) : _root_.Go.OpenSpec := { _root_.Go.OpenSpec.ofChange s with cond := some uptoSmall }

/-- 'boltholelaw.ImageLines', WHERE WHAT IT READS IS OF BULK AT MOST 1048576: true; the input reads as it did. -/
def imageLinesUptoRow : OpenClaim := { program := "ytmibbjjfijcgpac", sum := "1f500529f7ec73c8b8ba286537c6f3b975e47221574770627bc031053e7c99c7", func := "bolthole/boltholelaw.ImageLines", spec := "imageLines", apart := false, narrowed := true }
def ImageLinesUptoSaid : Prop := imageLinesUptoRow.holds Try.pinned (OpenSpec.upto imageLinesSpec)

/-- 'boltholelaw.ImageCopies', WHERE WHAT IT READS IS OF BULK AT MOST 1048576: true; the input reads as it did. -/
def imageCopiesUptoRow : OpenClaim := { program := "ytmibbjjfijcgpac", sum := "1f500529f7ec73c8b8ba286537c6f3b975e47221574770627bc031053e7c99c7", func := "bolthole/boltholelaw.ImageCopies", spec := "imageCopies", apart := false, narrowed := true }
def ImageCopiesUptoSaid : Prop := imageCopiesUptoRow.holds Try.pinned (OpenSpec.upto imageCopiesSpec)

/-- 'boltholelaw.ImageEncodes', WHERE WHAT IT READS IS OF BULK AT MOST 1048576: true; the input reads as it did. -/
def imageEncodesUptoRow : OpenClaim := { program := "ytmibbjjfijcgpac", sum := "1f500529f7ec73c8b8ba286537c6f3b975e47221574770627bc031053e7c99c7", func := "bolthole/boltholelaw.ImageEncodes", spec := "imageEncodes", unfollowed := true, recurses := true, apart := false, narrowed := true }
def ImageEncodesUptoSaid : Prop := imageEncodesUptoRow.holds Try.pinned (OpenSpec.upto imageEncodesSpec)

/-- 'boltholelaw.ImageDecodes', WHERE WHAT IT READS IS OF BULK AT MOST 1048576: true; the input reads as it did. -/
def imageDecodesUptoRow : OpenClaim := { program := "ytmibbjjfijcgpac", sum := "1f500529f7ec73c8b8ba286537c6f3b975e47221574770627bc031053e7c99c7", func := "bolthole/boltholelaw.ImageDecodes", spec := "imageDecodes", unfollowed := true, recurses := true, apart := false, narrowed := true }
def ImageDecodesUptoSaid : Prop := imageDecodesUptoRow.holds Try.pinned (OpenSpec.upto imageDecodesSpec)

/-- 'boltholekeep.ImageFixed', WHERE WHAT IT READS IS OF BULK AT MOST 1048576: true; the input reads as it did. -/
def imageFixedUptoRow : OpenClaim := { program := "ytmibbjjfijcgpac", sum := "1f500529f7ec73c8b8ba286537c6f3b975e47221574770627bc031053e7c99c7", func := "bolthole/boltholekeep.ImageFixed", spec := "imageFixed", unfollowed := true, recurses := true, apart := false, narrowed := true }
def ImageFixedUptoSaid : Prop := imageFixedUptoRow.holds Try.pinned (OpenSpec.upto imageFixedSpec)

end Rows
end Go.Proofs.Ytmibbjjfijcgpac
