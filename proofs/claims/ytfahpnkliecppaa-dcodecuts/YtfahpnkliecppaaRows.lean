/-
  No cell of these rows narrows 'for every input' (looked for: loops, veiled, ifaces, maps, wideKeys, modest, calm, conditions, laid).
  DERIVED. THE GIVEN ROWS OF THIS SEAT. 4 by the template 'for every input the law returns true; each argument reads behind the call as it read before'; 0 by the template 'total and deterministic' (their statements: YtfahpnkliecppaaTotals.lean).
  GIVEN WITH THE SEED: the statements are not yours to turn. If you find one false, say at which input.
  Laid BY PROGRAM, IN A SANDBOX (cutbox-rows.mjs): the forced cells as the released guide's own fill.sh prints them over the translation adeff68a9fc3e5f4… (all of the seat's roots in one cut). By AI agents, Wed Nov 11 2026. No macro, syntax, notation, axiom, sorry.
-/
import Derived.Test.YtfahpnkliecppaaChecked
import GoSem.Claim
import GoSem.ClaimJoined
import GoSem.ClaimMapViews
import Derived.JoinedTies
import Derived.KernelRfl
namespace Go.Proofs.Ytfahpnkliecppaa
/- THE CELL 'sum', in the pinned program and in every row, IS THE sha256 OF THE DUMP (.gsa) THAT YtfahpnkliecppaaProg.lean LOADS. Nothing in Lean hashes anything: it is a label: what it is worth is what the hold of that sum in a sandbox is worth. -/
noncomputable def Try.pinned : Pinned := { name := "ytfahpnkliecppaa", sum := "adeff68a9fc3e5f4d828dbf126d6bea8c6407a58b71973ed7d00e820176e8b9f", checked := Try.checked }
namespace Rows
def none {H : Type} : Left H := { results := [], args := [] }

/-- 'spencelaw13.DcodeEncodes': WHATEVER THE INPUT: true; the input reads as it did. -/
def dcodeEncodesSpec : ChangeSpec := { name := "dcodeEncodes", fn := fun _ => fun
  | [d1, d2] => { results := [.lit (.bool true)], args := [d1, d2] }
  | _ => none }
def dcodeEncodesRow : OpenClaim := { program := "ytfahpnkliecppaa", sum := "adeff68a9fc3e5f4d828dbf126d6bea8c6407a58b71973ed7d00e820176e8b9f", func := "spence/spencelaw13.DcodeEncodes", spec := "dcodeEncodes", unfollowed := true, recurses := true, apart := false }
def DcodeEncodesSaid : Prop := dcodeEncodesRow.holds Try.pinned (OpenSpec.ofChange dcodeEncodesSpec)

/-- ITS FALSE NEIGHBOUR: 'it returns false'. Refute it at one input. -/
def dcodeEncodesWrong : ChangeSpec := { name := "dcodeEncodes", fn := fun _ => fun
  | [d1, d2] => { results := [.lit (.bool false)], args := [d1, d2] }
  | _ => none }
def DcodeEncodesWrongFalsely : Prop := dcodeEncodesRow.holds Try.pinned (OpenSpec.ofChange dcodeEncodesWrong)

/-- 'spencelaw13.DcodeDecodes': WHATEVER THE INPUT: true; the input reads as it did. -/
def dcodeDecodesSpec : ChangeSpec := { name := "dcodeDecodes", fn := fun _ => fun
  | [d] => { results := [.lit (.bool true)], args := [d] }
  | _ => none }
def dcodeDecodesRow : OpenClaim := { program := "ytfahpnkliecppaa", sum := "adeff68a9fc3e5f4d828dbf126d6bea8c6407a58b71973ed7d00e820176e8b9f", func := "spence/spencelaw13.DcodeDecodes", spec := "dcodeDecodes", unfollowed := true, recurses := true, apart := false }
def DcodeDecodesSaid : Prop := dcodeDecodesRow.holds Try.pinned (OpenSpec.ofChange dcodeDecodesSpec)

/-- ITS FALSE NEIGHBOUR: 'it returns false'. Refute it at one input. -/
def dcodeDecodesWrong : ChangeSpec := { name := "dcodeDecodes", fn := fun _ => fun
  | [d] => { results := [.lit (.bool false)], args := [d] }
  | _ => none }
def DcodeDecodesWrongFalsely : Prop := dcodeDecodesRow.holds Try.pinned (OpenSpec.ofChange dcodeDecodesWrong)

/-- 'spencelaw13.DcodeTakes': WHATEVER THE INPUT: true; the input reads as it did. -/
def dcodeTakesSpec : ChangeSpec := { name := "dcodeTakes", fn := fun _ => fun
  | [d1, d2, d3] => { results := [.lit (.bool true)], args := [d1, d2, d3] }
  | _ => none }
def dcodeTakesRow : OpenClaim := { program := "ytfahpnkliecppaa", sum := "adeff68a9fc3e5f4d828dbf126d6bea8c6407a58b71973ed7d00e820176e8b9f", func := "spence/spencelaw13.DcodeTakes", spec := "dcodeTakes", unfollowed := true, recurses := true, apart := false }
def DcodeTakesSaid : Prop := dcodeTakesRow.holds Try.pinned (OpenSpec.ofChange dcodeTakesSpec)

/-- ITS FALSE NEIGHBOUR: 'it returns false'. Refute it at one input. -/
def dcodeTakesWrong : ChangeSpec := { name := "dcodeTakes", fn := fun _ => fun
  | [d1, d2, d3] => { results := [.lit (.bool false)], args := [d1, d2, d3] }
  | _ => none }
def DcodeTakesWrongFalsely : Prop := dcodeTakesRow.holds Try.pinned (OpenSpec.ofChange dcodeTakesWrong)

/-- 'spencelaw13.DcodeCuts': WHATEVER THE INPUT: true; the input reads as it did. -/
def dcodeCutsSpec : ChangeSpec := { name := "dcodeCuts", fn := fun _ => fun
  | [d1, d2] => { results := [.lit (.bool true)], args := [d1, d2] }
  | _ => none }
def dcodeCutsRow : OpenClaim := { program := "ytfahpnkliecppaa", sum := "adeff68a9fc3e5f4d828dbf126d6bea8c6407a58b71973ed7d00e820176e8b9f", func := "spence/spencelaw13.DcodeCuts", spec := "dcodeCuts", unfollowed := true, recurses := true, apart := false }
def DcodeCutsSaid : Prop := dcodeCutsRow.holds Try.pinned (OpenSpec.ofChange dcodeCutsSpec)

/-- ITS FALSE NEIGHBOUR: 'it returns false'. Refute it at one input. -/
def dcodeCutsWrong : ChangeSpec := { name := "dcodeCuts", fn := fun _ => fun
  | [d1, d2] => { results := [.lit (.bool false)], args := [d1, d2] }
  | _ => none }
def DcodeCutsWrongFalsely : Prop := dcodeCutsRow.holds Try.pinned (OpenSpec.ofChange dcodeCutsWrong)

/- THE SECOND FORM. 'bulk': how many values and letters a reading holds, each counted each time it is reached (what is shared counts as often as it is met; a slice's spare places count too). A statement '..UptoSaid' is the law's where the arguments, and the package variables that the reading takes, are together of bulk at most 1048576: NARROWER than '..Said'. Prove '..Said' where nothing that the law and all that it calls make is longer than what came in: it says more and counts as full. Else prove '..UptoSaid'. A law counts once. -/
mutual
def uptoBulk {H : Type} : DataW H → Nat
  | .lit (.string bytes) => bytes.length + 1
  | .lit _ => 1
  | .nil => 1
  | .ptr d => uptoBulk d + 1
  | .slice elems spare => uptoBulkAll elems + uptoBulkAll spare + 1
  | .agg parts => uptoBulkAll parts + 1
  | .iface _ d => uptoBulk d + 1
  | .map entries => uptoBulkEntries entries + 1
  | .held _ => 1
def uptoBulkAll {H : Type} : List (DataW H) → Nat
  | [] => 0
  | d :: r => uptoBulk d + uptoBulkAll r
def uptoBulkEntries {H : Type} : List (Lit × DataW H) → Nat
  | [] => 0
  | x :: r => uptoBulkEntry x + uptoBulkEntries r
def uptoBulkEntry {H : Type} : Lit × DataW H → Nat
  | (.string bytes, d) => bytes.length + uptoBulk d + 1
  | (_, d) => uptoBulk d + 1
 end
def uptoSmall : (H : Type) → List (DataW H) → Bool := fun _ ds => decide (uptoBulkAll ds ≤ 1048576)
def OpenSpec.upto (s : _root_.Go.ChangeSpec) : _root_.Go.OpenSpec := { _root_.Go.OpenSpec.ofChange s with cond := some uptoSmall }

/-- 'spencelaw13.DcodeEncodes', WHERE WHAT IT READS IS OF BULK AT MOST 1048576: true; the input reads as it did. -/
def dcodeEncodesUptoRow : OpenClaim := { program := "ytfahpnkliecppaa", sum := "adeff68a9fc3e5f4d828dbf126d6bea8c6407a58b71973ed7d00e820176e8b9f", func := "spence/spencelaw13.DcodeEncodes", spec := "dcodeEncodes", unfollowed := true, recurses := true, apart := false, narrowed := true }
def DcodeEncodesUptoSaid : Prop := dcodeEncodesUptoRow.holds Try.pinned (OpenSpec.upto dcodeEncodesSpec)

/-- 'spencelaw13.DcodeDecodes', WHERE WHAT IT READS IS OF BULK AT MOST 1048576: true; the input reads as it did. -/
def dcodeDecodesUptoRow : OpenClaim := { program := "ytfahpnkliecppaa", sum := "adeff68a9fc3e5f4d828dbf126d6bea8c6407a58b71973ed7d00e820176e8b9f", func := "spence/spencelaw13.DcodeDecodes", spec := "dcodeDecodes", unfollowed := true, recurses := true, apart := false, narrowed := true }
def DcodeDecodesUptoSaid : Prop := dcodeDecodesUptoRow.holds Try.pinned (OpenSpec.upto dcodeDecodesSpec)

/-- 'spencelaw13.DcodeTakes', WHERE WHAT IT READS IS OF BULK AT MOST 1048576: true; the input reads as it did. -/
def dcodeTakesUptoRow : OpenClaim := { program := "ytfahpnkliecppaa", sum := "adeff68a9fc3e5f4d828dbf126d6bea8c6407a58b71973ed7d00e820176e8b9f", func := "spence/spencelaw13.DcodeTakes", spec := "dcodeTakes", unfollowed := true, recurses := true, apart := false, narrowed := true }
def DcodeTakesUptoSaid : Prop := dcodeTakesUptoRow.holds Try.pinned (OpenSpec.upto dcodeTakesSpec)

/-- 'spencelaw13.DcodeCuts', WHERE WHAT IT READS IS OF BULK AT MOST 1048576: true; the input reads as it did. -/
def dcodeCutsUptoRow : OpenClaim := { program := "ytfahpnkliecppaa", sum := "adeff68a9fc3e5f4d828dbf126d6bea8c6407a58b71973ed7d00e820176e8b9f", func := "spence/spencelaw13.DcodeCuts", spec := "dcodeCuts", unfollowed := true, recurses := true, apart := false, narrowed := true }
def DcodeCutsUptoSaid : Prop := dcodeCutsUptoRow.holds Try.pinned (OpenSpec.upto dcodeCutsSpec)

end Rows
end Go.Proofs.Ytfahpnkliecppaa
