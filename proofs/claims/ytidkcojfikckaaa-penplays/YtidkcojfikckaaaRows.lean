/-
  No cell of these rows narrows 'for every input' (looked for: loops, veiled, ifaces, maps, wideKeys, modest, calm, conditions, laid).
  DERIVED. THE GIVEN ROWS OF THIS SEAT. 2 by the template 'for every input the law returns true; each argument reads behind the call as it read before'; 0 by the template 'total and deterministic' (their statements: YtidkcojfikckaaaTotals.lean).
  GIVEN WITH THE SEED: the statements are not yours to turn. If you find one false, say at which input.
  Laid BY PROGRAM, IN A SANDBOX (cutbox-rows.mjs): the forced cells as the released guide's own fill.sh prints them over the translation c2887cbf06f3e7dd… (all of the seat's roots in one cut). By AI agents, Wed Nov 11 2026. No macro, syntax, notation, axiom, sorry.
-/
import Derived.Test.YtidkcojfikckaaaChecked
import GoSem.Claim
import GoSem.ClaimJoined
import GoSem.ClaimMapViews
import Derived.JoinedTies
import Derived.KernelRfl
namespace Go.Proofs.Ytidkcojfikckaaa
/- THE CELL 'sum', in the pinned program and in every row, IS THE sha256 OF THE DUMP (.gsa) THAT YtidkcojfikckaaaProg.lean LOADS. Nothing in Lean hashes anything: it is a label: what it is worth is what the hold of that sum in a sandbox is worth. -/
noncomputable def Try.pinned : Pinned := { name := "ytidkcojfikckaaa", sum := "c2887cbf06f3e7dd06f97d33941d598b6be8f841e562cc396f2cb57e35a9af2a", checked := Try.checked }
namespace Rows
def none {H : Type} : Left H := { results := [], args := [] }

/-- 'spencelaw02.PenPlays': WHATEVER THE INPUT: true; the input reads as it did. -/
def penPlaysSpec : ChangeSpec := { name := "penPlays", fn := fun _ => fun
  | [d1, d2] => { results := [.lit (.bool true)], args := [d1, d2] }
  | _ => none }
def penPlaysRow : OpenClaim := { program := "ytidkcojfikckaaa", sum := "c2887cbf06f3e7dd06f97d33941d598b6be8f841e562cc396f2cb57e35a9af2a", func := "spence/spencelaw02.PenPlays", spec := "penPlays", apart := false }
def PenPlaysSaid : Prop := penPlaysRow.holds Try.pinned (OpenSpec.ofChange penPlaysSpec)

/-- ITS FALSE NEIGHBOUR: 'it returns false'. Refute it at one input. -/
def penPlaysWrong : ChangeSpec := { name := "penPlays", fn := fun _ => fun
  | [d1, d2] => { results := [.lit (.bool false)], args := [d1, d2] }
  | _ => none }
def PenPlaysWrongFalsely : Prop := penPlaysRow.holds Try.pinned (OpenSpec.ofChange penPlaysWrong)

/-- 'spencelaw02.PenLimits': WHATEVER THE INPUT: true; the input reads as it did. -/
def penLimitsSpec : ChangeSpec := { name := "penLimits", fn := fun _ => fun
  | [d1, d2] => { results := [.lit (.bool true)], args := [d1, d2] }
  | _ => none }
def penLimitsRow : OpenClaim := { program := "ytidkcojfikckaaa", sum := "c2887cbf06f3e7dd06f97d33941d598b6be8f841e562cc396f2cb57e35a9af2a", func := "spence/spencelaw02.PenLimits", spec := "penLimits", apart := false }
def PenLimitsSaid : Prop := penLimitsRow.holds Try.pinned (OpenSpec.ofChange penLimitsSpec)

/-- ITS FALSE NEIGHBOUR: 'it returns false'. Refute it at one input. -/
def penLimitsWrong : ChangeSpec := { name := "penLimits", fn := fun _ => fun
  | [d1, d2] => { results := [.lit (.bool false)], args := [d1, d2] }
  | _ => none }
def PenLimitsWrongFalsely : Prop := penLimitsRow.holds Try.pinned (OpenSpec.ofChange penLimitsWrong)

/- THE SECOND FORM. 'bulk': how many values and letters a reading holds, each counted each time it is reached (what is shared counts as often as it is met; a slice's spare places count too). A statement '..UptoSaid' is the law's where the arguments, and the package variables that the reading takes, are together of bulk at most 1048576: NARROWER than '..Said'. Prove '..Said' where nothing that the law and all that it calls make is longer than what came in: it says more and counts as full. Else prove '..UptoSaid'. A law counts once. -/
mutual
def uptoBulk {H : Type} : DataW H → Nat
  | .lit (.string bytes) => bytes.length + 1
  | .lit _ => 1
  | .nil => 1
  | .ptr d => uptoBulk d + 1
  | .slice elems spare => uptoBulkAll elems + uptoBulkAll spare + 1
  | .agg parts => uptoBulkAll parts + 1
  | .iface _ d => uptoBulk d + 1
  | .map entries => uptoBulkEntries entries + 1
  | .held _ => 1
def uptoBulkAll {H : Type} : List (DataW H) → Nat
  | [] => 0
  | d :: r => uptoBulk d + uptoBulkAll r
def uptoBulkEntries {H : Type} : List (Lit × DataW H) → Nat
  | [] => 0
  | x :: r => uptoBulkEntry x + uptoBulkEntries r
def uptoBulkEntry {H : Type} : Lit × DataW H → Nat
  | (.string bytes, d) => bytes.length + uptoBulk d + 1
  | (_, d) => uptoBulk d + 1
 end
def uptoSmall : (H : Type) → List (DataW H) → Bool := fun _ ds => decide (uptoBulkAll ds ≤ 1048576)
def OpenSpec.upto (s : _root_.Go.ChangeSpec) : _root_.Go.OpenSpec := { _root_.Go.OpenSpec.ofChange s with cond := some uptoSmall }

/-- 'spencelaw02.PenPlays', WHERE WHAT IT READS IS OF BULK AT MOST 1048576: true; the input reads as it did. -/
def penPlaysUptoRow : OpenClaim := { program := "ytidkcojfikckaaa", sum := "c2887cbf06f3e7dd06f97d33941d598b6be8f841e562cc396f2cb57e35a9af2a", func := "spence/spencelaw02.PenPlays", spec := "penPlays", apart := false, narrowed := true }
def PenPlaysUptoSaid : Prop := penPlaysUptoRow.holds Try.pinned (OpenSpec.upto penPlaysSpec)

/-- 'spencelaw02.PenLimits', WHERE WHAT IT READS IS OF BULK AT MOST 1048576: true; the input reads as it did. -/
def penLimitsUptoRow : OpenClaim := { program := "ytidkcojfikckaaa", sum := "c2887cbf06f3e7dd06f97d33941d598b6be8f841e562cc396f2cb57e35a9af2a", func := "spence/spencelaw02.PenLimits", spec := "penLimits", apart := false, narrowed := true }
def PenLimitsUptoSaid : Prop := penLimitsUptoRow.holds Try.pinned (OpenSpec.upto penLimitsSpec)

end Rows
end Go.Proofs.Ytidkcojfikckaaa
