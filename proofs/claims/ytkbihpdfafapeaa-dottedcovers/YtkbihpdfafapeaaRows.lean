/-
  No cell of these rows narrows 'for every input' (looked for: loops, veiled, ifaces, maps, wideKeys, modest, calm, conditions, laid).
  DERIVED. THE GIVEN ROWS OF THIS SEAT. 4 by the template 'for every input the law returns true; each argument reads behind the call as it read before'; 0 by the template 'total and deterministic' (their statements: YtkbihpdfafapeaaTotals.lean).
  GIVEN WITH THE SEED: the statements are not yours to turn. If you find one false, say at which input.
  Laid BY PROGRAM, IN A SANDBOX (cutbox-rows.mjs): the forced cells as the released guide's own fill.sh prints them over the translation 5bf6fa4f39038ddf… (all of the seat's roots in one cut). By AI agents, Wed Nov 11 2026. No macro, syntax, notation, axiom, sorry.
-/
import Derived.Test.YtkbihpdfafapeaaChecked
import GoSem.Claim
import GoSem.ClaimJoined
import GoSem.ClaimMapViews
import Derived.JoinedTies
import Derived.KernelRfl
namespace Go.Proofs.Ytkbihpdfafapeaa
/- THE CELL 'sum', in the pinned program and in every row, IS THE sha256 OF THE DUMP (.gsa) THAT YtkbihpdfafapeaaProg.lean LOADS. Nothing in Lean hashes anything: it is a label: what it is worth is what the hold of that sum in a sandbox is worth. -/
noncomputable def Try.pinned : Pinned := { name := "ytkbihpdfafapeaa", sum := "5bf6fa4f39038ddf8ab9124f7bd9f1bcec745c6d7baa227eced5aaadd1070c98", checked := Try.checked }
namespace Rows
def none {H : Type} : Left H := { results := [], args := [] }

/-- 'spencelaw12.DottedTells': WHATEVER THE INPUT: true; the input reads as it did. -/
def dottedTellsSpec : ChangeSpec := { name := "dottedTells", fn := fun _ => fun
  | [d1, d2, d3, d4] => { results := [.lit (.bool true)], args := [d1, d2, d3, d4] }
  | _ => none }
def dottedTellsRow : OpenClaim := { program := "ytkbihpdfafapeaa", sum := "5bf6fa4f39038ddf8ab9124f7bd9f1bcec745c6d7baa227eced5aaadd1070c98", func := "spence/spencelaw12.DottedTells", spec := "dottedTells", unfollowed := true, recurses := true, apart := false }
def DottedTellsSaid : Prop := dottedTellsRow.holds Try.pinned (OpenSpec.ofChange dottedTellsSpec)

/-- ITS FALSE NEIGHBOUR: 'it returns false'. Refute it at one input. -/
def dottedTellsWrong : ChangeSpec := { name := "dottedTells", fn := fun _ => fun
  | [d1, d2, d3, d4] => { results := [.lit (.bool false)], args := [d1, d2, d3, d4] }
  | _ => none }
def DottedTellsWrongFalsely : Prop := dottedTellsRow.holds Try.pinned (OpenSpec.ofChange dottedTellsWrong)

/-- 'spencelaw12.DottedKeeps': WHATEVER THE INPUT: true; the input reads as it did. -/
def dottedKeepsSpec : ChangeSpec := { name := "dottedKeeps", fn := fun _ => fun
  | [d] => { results := [.lit (.bool true)], args := [d] }
  | _ => none }
def dottedKeepsRow : OpenClaim := { program := "ytkbihpdfafapeaa", sum := "5bf6fa4f39038ddf8ab9124f7bd9f1bcec745c6d7baa227eced5aaadd1070c98", func := "spence/spencelaw12.DottedKeeps", spec := "dottedKeeps", unfollowed := true, recurses := true, apart := false }
def DottedKeepsSaid : Prop := dottedKeepsRow.holds Try.pinned (OpenSpec.ofChange dottedKeepsSpec)

/-- ITS FALSE NEIGHBOUR: 'it returns false'. Refute it at one input. -/
def dottedKeepsWrong : ChangeSpec := { name := "dottedKeeps", fn := fun _ => fun
  | [d] => { results := [.lit (.bool false)], args := [d] }
  | _ => none }
def DottedKeepsWrongFalsely : Prop := dottedKeepsRow.holds Try.pinned (OpenSpec.ofChange dottedKeepsWrong)

/-- 'spencelaw12.DottedLeast': WHATEVER THE INPUT: true; the input reads as it did. -/
def dottedLeastSpec : ChangeSpec := { name := "dottedLeast", fn := fun _ => fun
  | [d] => { results := [.lit (.bool true)], args := [d] }
  | _ => none }
def dottedLeastRow : OpenClaim := { program := "ytkbihpdfafapeaa", sum := "5bf6fa4f39038ddf8ab9124f7bd9f1bcec745c6d7baa227eced5aaadd1070c98", func := "spence/spencelaw12.DottedLeast", spec := "dottedLeast", unfollowed := true, recurses := true, apart := false }
def DottedLeastSaid : Prop := dottedLeastRow.holds Try.pinned (OpenSpec.ofChange dottedLeastSpec)

/-- ITS FALSE NEIGHBOUR: 'it returns false'. Refute it at one input. -/
def dottedLeastWrong : ChangeSpec := { name := "dottedLeast", fn := fun _ => fun
  | [d] => { results := [.lit (.bool false)], args := [d] }
  | _ => none }
def DottedLeastWrongFalsely : Prop := dottedLeastRow.holds Try.pinned (OpenSpec.ofChange dottedLeastWrong)

/-- 'spencelaw12.DottedCovers': WHATEVER THE INPUT: true; the input reads as it did. -/
def dottedCoversSpec : ChangeSpec := { name := "dottedCovers", fn := fun _ => fun
  | [d1, d2, d3] => { results := [.lit (.bool true)], args := [d1, d2, d3] }
  | _ => none }
def dottedCoversRow : OpenClaim := { program := "ytkbihpdfafapeaa", sum := "5bf6fa4f39038ddf8ab9124f7bd9f1bcec745c6d7baa227eced5aaadd1070c98", func := "spence/spencelaw12.DottedCovers", spec := "dottedCovers", unfollowed := true, recurses := true, apart := false }
def DottedCoversSaid : Prop := dottedCoversRow.holds Try.pinned (OpenSpec.ofChange dottedCoversSpec)

/-- ITS FALSE NEIGHBOUR: 'it returns false'. Refute it at one input. -/
def dottedCoversWrong : ChangeSpec := { name := "dottedCovers", fn := fun _ => fun
  | [d1, d2, d3] => { results := [.lit (.bool false)], args := [d1, d2, d3] }
  | _ => none }
def DottedCoversWrongFalsely : Prop := dottedCoversRow.holds Try.pinned (OpenSpec.ofChange dottedCoversWrong)

/- THE SECOND FORM. 'bulk': how many values and letters a reading holds, each counted each time it is reached (what is shared counts as often as it is met; a slice's spare places count too). A statement '..UptoSaid' is the law's where the arguments, and the package variables that the reading takes, are together of bulk at most 1048576: NARROWER than '..Said'. Prove '..Said' where nothing that the law and all that it calls make is longer than what came in: it says more and counts as full. Else prove '..UptoSaid'. A law counts once. -/
mutual
def uptoBulk {H : Type} : DataW H → Nat
  | .lit (.string bytes) => bytes.length + 1
  | .lit _ => 1
  | .nil => 1
  | .ptr d => uptoBulk d + 1
  | .slice elems spare => uptoBulkAll elems + uptoBulkAll spare + 1
  | .agg parts => uptoBulkAll parts + 1
  | .iface _ d => uptoBulk d + 1
  | .map entries => uptoBulkEntries entries + 1
  | .held _ => 1
def uptoBulkAll {H : Type} : List (DataW H) → Nat
  | [] => 0
  | d :: r => uptoBulk d + uptoBulkAll r
def uptoBulkEntries {H : Type} : List (Lit × DataW H) → Nat
  | [] => 0
  | x :: r => uptoBulkEntry x + uptoBulkEntries r
def uptoBulkEntry {H : Type} : Lit × DataW H → Nat
  | (.string bytes, d) => bytes.length + uptoBulk d + 1
  | (_, d) => uptoBulk d + 1
 end
def uptoSmall : (H : Type) → List (DataW H) → Bool := fun _ ds => decide (uptoBulkAll ds ≤ 1048576)
def OpenSpec.upto (s : _root_.Go.ChangeSpec) : _root_.Go.OpenSpec := { _root_.Go.OpenSpec.ofChange s with cond := some uptoSmall }

/-- 'spencelaw12.DottedTells', WHERE WHAT IT READS IS OF BULK AT MOST 1048576: true; the input reads as it did. -/
def dottedTellsUptoRow : OpenClaim := { program := "ytkbihpdfafapeaa", sum := "5bf6fa4f39038ddf8ab9124f7bd9f1bcec745c6d7baa227eced5aaadd1070c98", func := "spence/spencelaw12.DottedTells", spec := "dottedTells", unfollowed := true, recurses := true, apart := false, narrowed := true }
def DottedTellsUptoSaid : Prop := dottedTellsUptoRow.holds Try.pinned (OpenSpec.upto dottedTellsSpec)

/-- 'spencelaw12.DottedKeeps', WHERE WHAT IT READS IS OF BULK AT MOST 1048576: true; the input reads as it did. -/
def dottedKeepsUptoRow : OpenClaim := { program := "ytkbihpdfafapeaa", sum := "5bf6fa4f39038ddf8ab9124f7bd9f1bcec745c6d7baa227eced5aaadd1070c98", func := "spence/spencelaw12.DottedKeeps", spec := "dottedKeeps", unfollowed := true, recurses := true, apart := false, narrowed := true }
def DottedKeepsUptoSaid : Prop := dottedKeepsUptoRow.holds Try.pinned (OpenSpec.upto dottedKeepsSpec)

/-- 'spencelaw12.DottedLeast', WHERE WHAT IT READS IS OF BULK AT MOST 1048576: true; the input reads as it did. -/
def dottedLeastUptoRow : OpenClaim := { program := "ytkbihpdfafapeaa", sum := "5bf6fa4f39038ddf8ab9124f7bd9f1bcec745c6d7baa227eced5aaadd1070c98", func := "spence/spencelaw12.DottedLeast", spec := "dottedLeast", unfollowed := true, recurses := true, apart := false, narrowed := true }
def DottedLeastUptoSaid : Prop := dottedLeastUptoRow.holds Try.pinned (OpenSpec.upto dottedLeastSpec)

/-- 'spencelaw12.DottedCovers', WHERE WHAT IT READS IS OF BULK AT MOST 1048576: true; the input reads as it did. -/
def dottedCoversUptoRow : OpenClaim := { program := "ytkbihpdfafapeaa", sum := "5bf6fa4f39038ddf8ab9124f7bd9f1bcec745c6d7baa227eced5aaadd1070c98", func := "spence/spencelaw12.DottedCovers", spec := "dottedCovers", unfollowed := true, recurses := true, apart := false, narrowed := true }
def DottedCoversUptoSaid : Prop := dottedCoversUptoRow.holds Try.pinned (OpenSpec.upto dottedCoversSpec)

end Rows
end Go.Proofs.Ytkbihpdfafapeaa
