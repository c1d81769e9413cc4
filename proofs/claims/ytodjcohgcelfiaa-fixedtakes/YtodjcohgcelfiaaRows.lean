/-
  No cell of these rows narrows 'for every input' (looked for: loops, veiled, ifaces, maps, wideKeys, modest, calm, conditions, laid).
  DERIVED. THE GIVEN ROWS OF THIS SEAT. 3 by the template 'for every input the law returns true; each argument reads behind the call as it read before'; 0 by the template 'total and deterministic' (their statements: YtodjcohgcelfiaaTotals.lean).
  GIVEN WITH THE SEED: the statements are not yours to turn. If you find one false, say at which input.
  Laid BY PROGRAM, IN A SANDBOX (cutbox-rows.mjs): the forced cells as the released guide's own fill.sh prints them over the translation f0019417ed372c98… (all of the seat's roots in one cut). By AI agents, Wed Nov 11 2026. No macro, syntax, notation, axiom, sorry.
-/
import Derived.Test.YtodjcohgcelfiaaChecked
import GoSem.Claim
import GoSem.ClaimJoined
import GoSem.ClaimMapViews
import Derived.JoinedTies
import Derived.KernelRfl
namespace Go.Proofs.Ytodjcohgcelfiaa
/- THE CELL 'sum', in the pinned program and in every row, IS THE sha256 OF THE DUMP (.gsa) THAT YtodjcohgcelfiaaProg.lean LOADS. Nothing in Lean hashes anything: it is a label: what it is worth is what the hold of that sum in a sandbox is worth. -/
noncomputable def Try.pinned : Pinned := { name := "ytodjcohgcelfiaa", sum := "f0019417ed372c98678554f64f011bfc63141819d984636e37351c75e8476107", checked := Try.checked }
namespace Rows
def none {H : Type} : Left H := { results := [], args := [] }

/-- 'spencelaw04.FixedTakes': WHATEVER THE INPUT: true; the input reads as it did. -/
def fixedTakesSpec : ChangeSpec := { name := "fixedTakes", fn := fun _ => fun
  | [d1, d2] => { results := [.lit (.bool true)], args := [d1, d2] }
  | _ => none }
def fixedTakesRow : OpenClaim := { program := "ytodjcohgcelfiaa", sum := "f0019417ed372c98678554f64f011bfc63141819d984636e37351c75e8476107", func := "spence/spencelaw04.FixedTakes", spec := "fixedTakes", unfollowed := true, recurses := true, apart := false }
def FixedTakesSaid : Prop := fixedTakesRow.holds Try.pinned (OpenSpec.ofChange fixedTakesSpec)

/-- ITS FALSE NEIGHBOUR: 'it returns false'. Refute it at one input. -/
def fixedTakesWrong : ChangeSpec := { name := "fixedTakes", fn := fun _ => fun
  | [d1, d2] => { results := [.lit (.bool false)], args := [d1, d2] }
  | _ => none }
def FixedTakesWrongFalsely : Prop := fixedTakesRow.holds Try.pinned (OpenSpec.ofChange fixedTakesWrong)

/-- 'spencelaw04.FixedPuts': WHATEVER THE INPUT: true; the input reads as it did. -/
def fixedPutsSpec : ChangeSpec := { name := "fixedPuts", fn := fun _ => fun
  | [d1, d2, d3] => { results := [.lit (.bool true)], args := [d1, d2, d3] }
  | _ => none }
def fixedPutsRow : OpenClaim := { program := "ytodjcohgcelfiaa", sum := "f0019417ed372c98678554f64f011bfc63141819d984636e37351c75e8476107", func := "spence/spencelaw04.FixedPuts", spec := "fixedPuts", apart := false }
def FixedPutsSaid : Prop := fixedPutsRow.holds Try.pinned (OpenSpec.ofChange fixedPutsSpec)

/-- ITS FALSE NEIGHBOUR: 'it returns false'. Refute it at one input. -/
def fixedPutsWrong : ChangeSpec := { name := "fixedPuts", fn := fun _ => fun
  | [d1, d2, d3] => { results := [.lit (.bool false)], args := [d1, d2, d3] }
  | _ => none }
def FixedPutsWrongFalsely : Prop := fixedPutsRow.holds Try.pinned (OpenSpec.ofChange fixedPutsWrong)

/-- 'spencelaw04.FixedOne': WHATEVER THE INPUT: true; the input reads as it did. -/
def fixedOneSpec : ChangeSpec := { name := "fixedOne", fn := fun _ => fun
  | [d1, d2, d3, d4] => { results := [.lit (.bool true)], args := [d1, d2, d3, d4] }
  | _ => none }
def fixedOneRow : OpenClaim := { program := "ytodjcohgcelfiaa", sum := "f0019417ed372c98678554f64f011bfc63141819d984636e37351c75e8476107", func := "spence/spencelaw04.FixedOne", spec := "fixedOne", unfollowed := true, recurses := true, apart := false }
def FixedOneSaid : Prop := fixedOneRow.holds Try.pinned (OpenSpec.ofChange fixedOneSpec)

/-- ITS FALSE NEIGHBOUR: 'it returns false'. Refute it at one input. -/
def fixedOneWrong : ChangeSpec := { name := "fixedOne", fn := fun _ => fun
  | [d1, d2, d3, d4] => { results := [.lit (.bool false)], args := [d1, d2, d3, d4] }
  | _ => none }
def FixedOneWrongFalsely : Prop := fixedOneRow.holds Try.pinned (OpenSpec.ofChange fixedOneWrong)

/- THE SECOND FORM. 'bulk': how many values and letters a reading holds, each counted each time it is reached (what is shared counts as often as it is met; a slice's spare places count too). A statement '..UptoSaid' is the law's where the arguments, and the package variables that the reading takes, are together of bulk at most 1048576: NARROWER than '..Said'. Prove '..Said' where nothing that the law and all that it calls make is longer than what came in: it says more and counts as full. Else prove '..UptoSaid'. A law counts once. -/
mutual
def uptoBulk {H : Type} : DataW H → Nat
  | .lit (.string bytes) => bytes.length + 1
  | .lit _ => 1
  | .nil => 1
  | .ptr d => uptoBulk d + 1
  | .slice elems spare => uptoBulkAll elems + uptoBulkAll spare + 1
  | .agg parts => uptoBulkAll parts + 1
  | .iface _ d => uptoBulk d + 1
  | .map entries => uptoBulkEntries entries + 1
  | .held _ => 1
def uptoBulkAll {H : Type} : List (DataW H) → Nat
  | [] => 0
  | d :: r => uptoBulk d + uptoBulkAll r
def uptoBulkEntries {H : Type} : List (Lit × DataW H) → Nat
  | [] => 0
  | x :: r => uptoBulkEntry x + uptoBulkEntries r
def uptoBulkEntry {H : Type} : Lit × DataW H → Nat
  | (.string bytes, d) => bytes.length + uptoBulk d + 1
  | (_, d) => uptoBulk d + 1
 end
def uptoSmall : (H : Type) → List (DataW H) → Bool := fun _ ds => decide (uptoBulkAll ds ≤ 1048576)
def OpenSpec.upto (s : _root_.Go.ChangeSpec) : _root_.Go.OpenSpec := { _root_.Go.OpenSpec.ofChange s with cond := some uptoSmall }

/-- 'spencelaw04.FixedTakes', WHERE WHAT IT READS IS OF BULK AT MOST 1048576: true; the input reads as it did. -/
def fixedTakesUptoRow : OpenClaim := { program := "ytodjcohgcelfiaa", sum := "f0019417ed372c98678554f64f011bfc63141819d984636e37351c75e8476107", func := "spence/spencelaw04.FixedTakes", spec := "fixedTakes", unfollowed := true, recurses := true, apart := false, narrowed := true }
def FixedTakesUptoSaid : Prop := fixedTakesUptoRow.holds Try.pinned (OpenSpec.upto fixedTakesSpec)

/-- 'spencelaw04.FixedPuts', WHERE WHAT IT READS IS OF BULK AT MOST 1048576: true; the input reads as it did. -/
def fixedPutsUptoRow : OpenClaim := { program := "ytodjcohgcelfiaa", sum := "f0019417ed372c98678554f64f011bfc63141819d984636e37351c75e8476107", func := "spence/spencelaw04.FixedPuts", spec := "fixedPuts", apart := false, narrowed := true }
def FixedPutsUptoSaid : Prop := fixedPutsUptoRow.holds Try.pinned (OpenSpec.upto fixedPutsSpec)

/-- 'spencelaw04.FixedOne', WHERE WHAT IT READS IS OF BULK AT MOST 1048576: true; the input reads as it did. -/
def fixedOneUptoRow : OpenClaim := { program := "ytodjcohgcelfiaa", sum := "f0019417ed372c98678554f64f011bfc63141819d984636e37351c75e8476107", func := "spence/spencelaw04.FixedOne", spec := "fixedOne", unfollowed := true, recurses := true, apart := false, narrowed := true }
def FixedOneUptoSaid : Prop := fixedOneUptoRow.holds Try.pinned (OpenSpec.upto fixedOneSpec)

end Rows
end Go.Proofs.Ytodjcohgcelfiaa
