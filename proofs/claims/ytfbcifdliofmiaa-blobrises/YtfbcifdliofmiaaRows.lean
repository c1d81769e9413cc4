/-
  No cell of these rows narrows 'for every input' (looked for: loops, veiled, ifaces, maps, wideKeys, modest, calm, conditions, laid).
  DERIVED. THE GIVEN ROWS OF THIS SEAT. 3 by the template 'for every input the law returns true; each argument reads behind the call as it read before'; 0 by the template 'total and deterministic' (their statements: YtfbcifdliofmiaaTotals.lean).
  GIVEN WITH THE SEED: the statements are not yours to turn. If you find one false, say at which input.
  Laid BY PROGRAM, IN A SANDBOX (cutbox-rows.mjs): the forced cells as the released guide's own fill.sh prints them over the translation 7290b2a45a8141e9… (all of the seat's roots in one cut). By AI agents, Wed Nov 11 2026. No macro, syntax, notation, axiom, sorry.
-/
import Derived.Test.YtfbcifdliofmiaaChecked
import GoSem.Claim
import GoSem.ClaimJoined
import GoSem.ClaimMapViews
import Derived.JoinedTies
import Derived.KernelRfl
namespace Go.Proofs.Ytfbcifdliofmiaa
/- THE CELL 'sum', in the pinned program and in every row, IS THE sha256 OF THE DUMP (.gsa) THAT YtfbcifdliofmiaaProg.lean LOADS. Nothing in Lean hashes anything: it is a label: what it is worth is what the hold of that sum in a sandbox is worth. -/
noncomputable def Try.pinned : Pinned := { name := "ytfbcifdliofmiaa", sum := "7290b2a45a8141e93d3388947c4d0580362a492d13fdf601e6030d4d0e0d830b", checked := Try.checked }
namespace Rows
def none {H : Type} : Left H := { results := [], args := [] }

/-- 'spencelaw06.BlobTakes': WHATEVER THE INPUT: true; the input reads as it did. -/
def blobTakesSpec : ChangeSpec := { name := "blobTakes", fn := fun _ => fun
  | [d1, d2] => { results := [.lit (.bool true)], args := [d1, d2] }
  | _ => none }
def blobTakesRow : OpenClaim := { program := "ytfbcifdliofmiaa", sum := "7290b2a45a8141e93d3388947c4d0580362a492d13fdf601e6030d4d0e0d830b", func := "spence/spencelaw06.BlobTakes", spec := "blobTakes", unfollowed := true, recurses := true, apart := false }
def BlobTakesSaid : Prop := blobTakesRow.holds Try.pinned (OpenSpec.ofChange blobTakesSpec)

/-- ITS FALSE NEIGHBOUR: 'it returns false'. Refute it at one input. -/
def blobTakesWrong : ChangeSpec := { name := "blobTakes", fn := fun _ => fun
  | [d1, d2] => { results := [.lit (.bool false)], args := [d1, d2] }
  | _ => none }
def BlobTakesWrongFalsely : Prop := blobTakesRow.holds Try.pinned (OpenSpec.ofChange blobTakesWrong)

/-- 'spencelaw06.BlobPuts': WHATEVER THE INPUT: true; the input reads as it did. -/
def blobPutsSpec : ChangeSpec := { name := "blobPuts", fn := fun _ => fun
  | [d1, d2] => { results := [.lit (.bool true)], args := [d1, d2] }
  | _ => none }
def blobPutsRow : OpenClaim := { program := "ytfbcifdliofmiaa", sum := "7290b2a45a8141e93d3388947c4d0580362a492d13fdf601e6030d4d0e0d830b", func := "spence/spencelaw06.BlobPuts", spec := "blobPuts", unfollowed := true, recurses := true, apart := false }
def BlobPutsSaid : Prop := blobPutsRow.holds Try.pinned (OpenSpec.ofChange blobPutsSpec)

/-- ITS FALSE NEIGHBOUR: 'it returns false'. Refute it at one input. -/
def blobPutsWrong : ChangeSpec := { name := "blobPuts", fn := fun _ => fun
  | [d1, d2] => { results := [.lit (.bool false)], args := [d1, d2] }
  | _ => none }
def BlobPutsWrongFalsely : Prop := blobPutsRow.holds Try.pinned (OpenSpec.ofChange blobPutsWrong)

/-- 'spencelaw06.BlobRises': WHATEVER THE INPUT: true; the input reads as it did. -/
def blobRisesSpec : ChangeSpec := { name := "blobRises", fn := fun _ => fun
  | [d1, d2] => { results := [.lit (.bool true)], args := [d1, d2] }
  | _ => none }
def blobRisesRow : OpenClaim := { program := "ytfbcifdliofmiaa", sum := "7290b2a45a8141e93d3388947c4d0580362a492d13fdf601e6030d4d0e0d830b", func := "spence/spencelaw06.BlobRises", spec := "blobRises", apart := false }
def BlobRisesSaid : Prop := blobRisesRow.holds Try.pinned (OpenSpec.ofChange blobRisesSpec)

/-- ITS FALSE NEIGHBOUR: 'it returns false'. Refute it at one input. -/
def blobRisesWrong : ChangeSpec := { name := "blobRises", fn := fun _ => fun
  | [d1, d2] => { results := [.lit (.bool false)], args := [d1, d2] }
  | _ => none }
def BlobRisesWrongFalsely : Prop := blobRisesRow.holds Try.pinned (OpenSpec.ofChange blobRisesWrong)

/- THE SECOND FORM. 'bulk': how many values and letters a reading holds, each counted each time it is reached (what is shared counts as often as it is met; a slice's spare places count too). A statement '..UptoSaid' is the law's where the arguments, and the package variables that the reading takes, are together of bulk at most 1048576: NARROWER than '..Said'. Prove '..Said' where nothing that the law and all that it calls make is longer than what came in: it says more and counts as full. Else prove '..UptoSaid'. A law counts once. -/
mutual
def uptoBulk {H : Type} : DataW H → Nat
  | .lit (.string bytes) => bytes.length + 1
  | .lit _ => 1
  | .nil => 1
  | .ptr d => uptoBulk d + 1
  | .slice elems spare => uptoBulkAll elems + uptoBulkAll spare + 1
  | .agg parts => uptoBulkAll parts + 1
  | .iface _ d => uptoBulk d + 1
  | .map entries => uptoBulkEntries entries + 1
  | .held _ => 1
def uptoBulkAll {H : Type} : List (DataW H) → Nat
  | [] => 0
  | d :: r => uptoBulk d + uptoBulkAll r
def uptoBulkEntries {H : Type} : List (Lit × DataW H) → Nat
  | [] => 0
  | x :: r => uptoBulkEntry x + uptoBulkEntries r
def uptoBulkEntry {H : Type} : Lit × DataW H → Nat
  | (.string bytes, d) => bytes.length + uptoBulk d + 1
  | (_, d) => uptoBulk d + 1
 end
def uptoSmall : (H : Type) → List (DataW H) → Bool := fun _ ds => decide (uptoBulkAll ds ≤ 1048576)
def OpenSpec.upto (s : _root_.Go.ChangeSpec) : _root_.Go.OpenSpec := { _root_.Go.OpenSpec.ofChange s with cond := some uptoSmall }

/-- 'spencelaw06.BlobTakes', WHERE WHAT IT READS IS OF BULK AT MOST 1048576: true; the input reads as it did. -/
def blobTakesUptoRow : OpenClaim := { program := "ytfbcifdliofmiaa", sum := "7290b2a45a8141e93d3388947c4d0580362a492d13fdf601e6030d4d0e0d830b", func := "spence/spencelaw06.BlobTakes", spec := "blobTakes", unfollowed := true, recurses := true, apart := false, narrowed := true }
def BlobTakesUptoSaid : Prop := blobTakesUptoRow.holds Try.pinned (OpenSpec.upto blobTakesSpec)

/-- 'spencelaw06.BlobPuts', WHERE WHAT IT READS IS OF BULK AT MOST 1048576: true; the input reads as it did. -/
def blobPutsUptoRow : OpenClaim := { program := "ytfbcifdliofmiaa", sum := "7290b2a45a8141e93d3388947c4d0580362a492d13fdf601e6030d4d0e0d830b", func := "spence/spencelaw06.BlobPuts", spec := "blobPuts", unfollowed := true, recurses := true, apart := false, narrowed := true }
def BlobPutsUptoSaid : Prop := blobPutsUptoRow.holds Try.pinned (OpenSpec.upto blobPutsSpec)

/-- 'spencelaw06.BlobRises', WHERE WHAT IT READS IS OF BULK AT MOST 1048576: true; the input reads as it did. -/
def blobRisesUptoRow : OpenClaim := { program := "ytfbcifdliofmiaa", sum := "7290b2a45a8141e93d3388947c4d0580362a492d13fdf601e6030d4d0e0d830b", func := "spence/spencelaw06.BlobRises", spec := "blobRises", apart := false, narrowed := true }
def BlobRisesUptoSaid : Prop := blobRisesUptoRow.holds Try.pinned (OpenSpec.upto blobRisesSpec)

end Rows
end Go.Proofs.Ytfbcifdliofmiaa
