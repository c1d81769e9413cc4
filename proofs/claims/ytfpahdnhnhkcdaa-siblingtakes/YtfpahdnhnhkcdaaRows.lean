/-
  No cell of these rows narrows 'for every input' (looked for: loops, veiled, ifaces, maps, wideKeys, modest, calm, conditions, laid).
  DERIVED. THE GIVEN ROWS OF THIS SEAT. 5 by the template 'for every input the law returns true; each argument reads behind the call as it read before'; 0 by the template 'total and deterministic' (their statements: YtfpahdnhnhkcdaaTotals.lean).
  GIVEN WITH THE SEED: the statements are not yours to turn. If you find one false, say at which input.
  Laid BY PROGRAM, IN A SANDBOX (cutbox-rows.mjs): the forced cells as the released guide's own fill.sh prints them over the translation 1ca0b2cac4051518… (all of the seat's roots in one cut). By AI agents, Wed Nov 11 2026. No macro, syntax, notation, axiom, sorry.
-/
import Derived.Test.YtfpahdnhnhkcdaaChecked
import GoSem.Claim
import GoSem.ClaimJoined
import GoSem.ClaimMapViews
import Derived.JoinedTies
import Derived.KernelRfl
namespace Go.Proofs.Ytfpahdnhnhkcdaa
/- THE CELL 'sum', in the pinned program and in every row, IS THE sha256 OF THE DUMP (.gsa) THAT YtfpahdnhnhkcdaaProg.lean LOADS. Nothing in Lean hashes anything: it is a label: what it is worth is what the hold of that sum in a sandbox is worth. -/
noncomputable def Try.pinned : Pinned := { name := "ytfpahdnhnhkcdaa", sum := "1ca0b2cac4051518244829ddbd1db53d3a0214f32f36565d01de951bf004977c", checked := Try.checked }
namespace Rows
def none {H : Type} : Left H := { results := [], args := [] }

/-- 'spencelaw15.SiblingEncodes': WHATEVER THE INPUT: true; the input reads as it did. -/
def siblingEncodesSpec : ChangeSpec := { name := "siblingEncodes", fn := fun _ => fun
  | [d1, d2] => { results := [.lit (.bool true)], args := [d1, d2] }
  | _ => none }
def siblingEncodesRow : OpenClaim := { program := "ytfpahdnhnhkcdaa", sum := "1ca0b2cac4051518244829ddbd1db53d3a0214f32f36565d01de951bf004977c", func := "spence/spencelaw15.SiblingEncodes", spec := "siblingEncodes", unfollowed := true, recurses := true, apart := false }
def SiblingEncodesSaid : Prop := siblingEncodesRow.holds Try.pinned (OpenSpec.ofChange siblingEncodesSpec)

/-- ITS FALSE NEIGHBOUR: 'it returns false'. Refute it at one input. -/
def siblingEncodesWrong : ChangeSpec := { name := "siblingEncodes", fn := fun _ => fun
  | [d1, d2] => { results := [.lit (.bool false)], args := [d1, d2] }
  | _ => none }
def SiblingEncodesWrongFalsely : Prop := siblingEncodesRow.holds Try.pinned (OpenSpec.ofChange siblingEncodesWrong)

/-- 'spencelaw15.SiblingDecodes': WHATEVER THE INPUT: true; the input reads as it did. -/
def siblingDecodesSpec : ChangeSpec := { name := "siblingDecodes", fn := fun _ => fun
  | [d] => { results := [.lit (.bool true)], args := [d] }
  | _ => none }
def siblingDecodesRow : OpenClaim := { program := "ytfpahdnhnhkcdaa", sum := "1ca0b2cac4051518244829ddbd1db53d3a0214f32f36565d01de951bf004977c", func := "spence/spencelaw15.SiblingDecodes", spec := "siblingDecodes", unfollowed := true, recurses := true, apart := false }
def SiblingDecodesSaid : Prop := siblingDecodesRow.holds Try.pinned (OpenSpec.ofChange siblingDecodesSpec)

/-- ITS FALSE NEIGHBOUR: 'it returns false'. Refute it at one input. -/
def siblingDecodesWrong : ChangeSpec := { name := "siblingDecodes", fn := fun _ => fun
  | [d] => { results := [.lit (.bool false)], args := [d] }
  | _ => none }
def SiblingDecodesWrongFalsely : Prop := siblingDecodesRow.holds Try.pinned (OpenSpec.ofChange siblingDecodesWrong)

/-- 'spencelaw15.SiblingTakes': WHATEVER THE INPUT: true; the input reads as it did. -/
def siblingTakesSpec : ChangeSpec := { name := "siblingTakes", fn := fun _ => fun
  | [d1, d2, d3] => { results := [.lit (.bool true)], args := [d1, d2, d3] }
  | _ => none }
def siblingTakesRow : OpenClaim := { program := "ytfpahdnhnhkcdaa", sum := "1ca0b2cac4051518244829ddbd1db53d3a0214f32f36565d01de951bf004977c", func := "spence/spencelaw15.SiblingTakes", spec := "siblingTakes", unfollowed := true, recurses := true, apart := false }
def SiblingTakesSaid : Prop := siblingTakesRow.holds Try.pinned (OpenSpec.ofChange siblingTakesSpec)

/-- ITS FALSE NEIGHBOUR: 'it returns false'. Refute it at one input. -/
def siblingTakesWrong : ChangeSpec := { name := "siblingTakes", fn := fun _ => fun
  | [d1, d2, d3] => { results := [.lit (.bool false)], args := [d1, d2, d3] }
  | _ => none }
def SiblingTakesWrongFalsely : Prop := siblingTakesRow.holds Try.pinned (OpenSpec.ofChange siblingTakesWrong)

/-- 'spencelaw15.SiblingGreat': WHATEVER THE INPUT: true; the input reads as it did. -/
def siblingGreatSpec : ChangeSpec := { name := "siblingGreat", fn := fun _ => fun
  | [d1, d2, d3] => { results := [.lit (.bool true)], args := [d1, d2, d3] }
  | _ => none }
def siblingGreatRow : OpenClaim := { program := "ytfpahdnhnhkcdaa", sum := "1ca0b2cac4051518244829ddbd1db53d3a0214f32f36565d01de951bf004977c", func := "spence/spencelaw15.SiblingGreat", spec := "siblingGreat", unfollowed := true, recurses := true, apart := false }
def SiblingGreatSaid : Prop := siblingGreatRow.holds Try.pinned (OpenSpec.ofChange siblingGreatSpec)

/-- ITS FALSE NEIGHBOUR: 'it returns false'. Refute it at one input. -/
def siblingGreatWrong : ChangeSpec := { name := "siblingGreat", fn := fun _ => fun
  | [d1, d2, d3] => { results := [.lit (.bool false)], args := [d1, d2, d3] }
  | _ => none }
def SiblingGreatWrongFalsely : Prop := siblingGreatRow.holds Try.pinned (OpenSpec.ofChange siblingGreatWrong)

/-- 'spencelaw15.SiblingCuts': WHATEVER THE INPUT: true; the input reads as it did. -/
def siblingCutsSpec : ChangeSpec := { name := "siblingCuts", fn := fun _ => fun
  | [d1, d2] => { results := [.lit (.bool true)], args := [d1, d2] }
  | _ => none }
def siblingCutsRow : OpenClaim := { program := "ytfpahdnhnhkcdaa", sum := "1ca0b2cac4051518244829ddbd1db53d3a0214f32f36565d01de951bf004977c", func := "spence/spencelaw15.SiblingCuts", spec := "siblingCuts", unfollowed := true, recurses := true, apart := false }
def SiblingCutsSaid : Prop := siblingCutsRow.holds Try.pinned (OpenSpec.ofChange siblingCutsSpec)

/-- ITS FALSE NEIGHBOUR: 'it returns false'. Refute it at one input. -/
def siblingCutsWrong : ChangeSpec := { name := "siblingCuts", fn := fun _ => fun
  | [d1, d2] => { results := [.lit (.bool false)], args := [d1, d2] }
  | _ => none }
def SiblingCutsWrongFalsely : Prop := siblingCutsRow.holds Try.pinned (OpenSpec.ofChange siblingCutsWrong)

/- THE SECOND FORM. 'bulk': how many values and letters a reading holds, each counted each time it is reached (what is shared counts as often as it is met; a slice's spare places count too). A statement '..UptoSaid' is the law's where the arguments, and the package variables that the reading takes, are together of bulk at most 1048576: NARROWER than '..Said'. Prove '..Said' where nothing that the law and all that it calls make is longer than what came in: it says more and counts as full. Else prove '..UptoSaid'. A law counts once. -/
mutual
def uptoBulk {H : Type} : DataW H → Nat
  | .lit (.string bytes) => bytes.length + 1
  | .lit _ => 1
  | .nil => 1
  | .ptr d => uptoBulk d + 1
  | .slice elems spare => uptoBulkAll elems + uptoBulkAll spare + 1
  | .agg parts => uptoBulkAll parts + 1
  | .iface _ d => uptoBulk d + 1
  | .map entries => uptoBulkEntries entries + 1
  | .held _ => 1
def uptoBulkAll {H : Type} : List (DataW H) → Nat
  | [] => 0
  | d :: r => uptoBulk d + uptoBulkAll r
def uptoBulkEntries {H : Type} : List (Lit × DataW H) → Nat
  | [] => 0
  | x :: r => uptoBulkEntry x + uptoBulkEntries r
def uptoBulkEntry {H : Type} : Lit × DataW H → Nat
  | (.string bytes, d) => bytes.length + uptoBulk d + 1
  | (_, d) => uptoBulk d + 1
 end
def uptoSmall : (H : Type) → List (DataW H) → Bool := fun _ ds => decide (uptoBulkAll ds ≤ 1048576)
def OpenSpec.upto (s : _root_.Go.ChangeSpec) : _root_.Go.OpenSpec := { _root_.Go.OpenSpec.ofChange s with cond := some uptoSmall }

/-- 'spencelaw15.SiblingEncodes', WHERE WHAT IT READS IS OF BULK AT MOST 1048576: true; the input reads as it did. -/
def siblingEncodesUptoRow : OpenClaim := { program := "ytfpahdnhnhkcdaa", sum := "1ca0b2cac4051518244829ddbd1db53d3a0214f32f36565d01de951bf004977c", func := "spence/spencelaw15.SiblingEncodes", spec := "siblingEncodes", unfollowed := true, recurses := true, apart := false, narrowed := true }
def SiblingEncodesUptoSaid : Prop := siblingEncodesUptoRow.holds Try.pinned (OpenSpec.upto siblingEncodesSpec)

/-- 'spencelaw15.SiblingDecodes', WHERE WHAT IT READS IS OF BULK AT MOST 1048576: true; the input reads as it did. -/
def siblingDecodesUptoRow : OpenClaim := { program := "ytfpahdnhnhkcdaa", sum := "1ca0b2cac4051518244829ddbd1db53d3a0214f32f36565d01de951bf004977c", func := "spence/spencelaw15.SiblingDecodes", spec := "siblingDecodes", unfollowed := true, recurses := true, apart := false, narrowed := true }
def SiblingDecodesUptoSaid : Prop := siblingDecodesUptoRow.holds Try.pinned (OpenSpec.upto siblingDecodesSpec)

/-- 'spencelaw15.SiblingTakes', WHERE WHAT IT READS IS OF BULK AT MOST 1048576: true; the input reads as it did. -/
def siblingTakesUptoRow : OpenClaim := { program := "ytfpahdnhnhkcdaa", sum := "1ca0b2cac4051518244829ddbd1db53d3a0214f32f36565d01de951bf004977c", func := "spence/spencelaw15.SiblingTakes", spec := "siblingTakes", unfollowed := true, recurses := true, apart := false, narrowed := true }
def SiblingTakesUptoSaid : Prop := siblingTakesUptoRow.holds Try.pinned (OpenSpec.upto siblingTakesSpec)

/-- 'spencelaw15.SiblingGreat', WHERE WHAT IT READS IS OF BULK AT MOST 1048576: true; the input reads as it did. -/
def siblingGreatUptoRow : OpenClaim := { program := "ytfpahdnhnhkcdaa", sum := "1ca0b2cac4051518244829ddbd1db53d3a0214f32f36565d01de951bf004977c", func := "spence/spencelaw15.SiblingGreat", spec := "siblingGreat", unfollowed := true, recurses := true, apart := false, narrowed := true }
def SiblingGreatUptoSaid : Prop := siblingGreatUptoRow.holds Try.pinned (OpenSpec.upto siblingGreatSpec)

/-- 'spencelaw15.SiblingCuts', WHERE WHAT IT READS IS OF BULK AT MOST 1048576: true; the input reads as it did. -/
def siblingCutsUptoRow : OpenClaim := { program := "ytfpahdnhnhkcdaa", sum := "1ca0b2cac4051518244829ddbd1db53d3a0214f32f36565d01de951bf004977c", func := "spence/spencelaw15.SiblingCuts", spec := "siblingCuts", unfollowed := true, recurses := true, apart := false, narrowed := true }
def SiblingCutsUptoSaid : Prop := siblingCutsUptoRow.holds Try.pinned (OpenSpec.upto siblingCutsSpec)

end Rows
end Go.Proofs.Ytfpahdnhnhkcdaa
