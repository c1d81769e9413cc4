/-
  No cell of these rows narrows 'for every input' (looked for: loops, veiled, ifaces, maps, wideKeys, modest, calm, conditions, laid).
  DERIVED. THE GIVEN ROWS OF THIS SEAT. 4 by the template 'for every input the law returns true; each argument reads behind the call as it read before'; 0 by the template 'total and deterministic' (their statements: YteonkfedgopdiaaGreatTotals.lean).
  GIVEN WITH THE SEED: the statements are not yours to turn. If you find one false, say at which input.
  Laid BY PROGRAM, IN A SANDBOX (cutbox-rows.mjs): the forced cells as the released guide's own fill.sh prints them over the translation 016d587d39e66c10… (all of the seat's roots in one cut). By AI agents, Wed Nov 11 2026. No macro, syntax, notation, axiom, sorry.
-/
import Derived.Test.YteonkfedgopdiaaGreatChecked
import GoSem.Claim
import GoSem.ClaimJoined
import GoSem.ClaimMapViews
import Derived.JoinedTies
import Derived.KernelRfl
namespace Go.Proofs.YteonkfedgopdiaaGreat
/- THE CELL 'sum', in the pinned program and in every row, IS THE sha256 OF THE DUMP (.gsa) THAT YteonkfedgopdiaaGreatProg.lean LOADS. Nothing in Lean hashes anything: it is a label: what it is worth is what the hold of that sum in a sandbox is worth. -/
noncomputable def Tryz.pinned : Pinned := { name := "yteonkfedgopdiaagreat", sum := "016d587d39e66c105800d83274d19d9ba53bfa671306660eb0c242a051e854b9", checked := Tryz.checked }
namespace Rows
def none {H : Type} : Left H := { results := [], args := [] }

/-- 'spencelaw16.ObjectEncodes': WHATEVER THE INPUT: true; the input reads as it did. -/
def objectEncodesSpec : ChangeSpec := { name := "objectEncodes", fn := fun _ => fun
  | [d1, d2] => { results := [.lit (.bool true)], args := [d1, d2] }
  | _ => none }
def objectEncodesRow : OpenClaim := { program := "yteonkfedgopdiaagreat", sum := "016d587d39e66c105800d83274d19d9ba53bfa671306660eb0c242a051e854b9", func := "spence/spencelaw16.ObjectEncodes", spec := "objectEncodes", unfollowed := true, recurses := true, apart := false }
def ObjectEncodesSaid : Prop := objectEncodesRow.holds Tryz.pinned (OpenSpec.ofChange objectEncodesSpec)

/-- ITS FALSE NEIGHBOUR: 'it returns false'. Refute it at one input. -/
def objectEncodesWrong : ChangeSpec := { name := "objectEncodes", fn := fun _ => fun
  | [d1, d2] => { results := [.lit (.bool false)], args := [d1, d2] }
  | _ => none }
def ObjectEncodesWrongFalsely : Prop := objectEncodesRow.holds Tryz.pinned (OpenSpec.ofChange objectEncodesWrong)

/-- 'spencelaw16.ObjectDecodes': WHATEVER THE INPUT: true; the input reads as it did. -/
def objectDecodesSpec : ChangeSpec := { name := "objectDecodes", fn := fun _ => fun
  | [d] => { results := [.lit (.bool true)], args := [d] }
  | _ => none }
def objectDecodesRow : OpenClaim := { program := "yteonkfedgopdiaagreat", sum := "016d587d39e66c105800d83274d19d9ba53bfa671306660eb0c242a051e854b9", func := "spence/spencelaw16.ObjectDecodes", spec := "objectDecodes", unfollowed := true, recurses := true, apart := false }
def ObjectDecodesSaid : Prop := objectDecodesRow.holds Tryz.pinned (OpenSpec.ofChange objectDecodesSpec)

/-- ITS FALSE NEIGHBOUR: 'it returns false'. Refute it at one input. -/
def objectDecodesWrong : ChangeSpec := { name := "objectDecodes", fn := fun _ => fun
  | [d] => { results := [.lit (.bool false)], args := [d] }
  | _ => none }
def ObjectDecodesWrongFalsely : Prop := objectDecodesRow.holds Tryz.pinned (OpenSpec.ofChange objectDecodesWrong)

/-- 'spencelaw16.ObjectSorts': WHATEVER THE INPUT: true; the input reads as it did. -/
def objectSortsSpec : ChangeSpec := { name := "objectSorts", fn := fun _ => fun
  | [d1, d2, d3, d4] => { results := [.lit (.bool true)], args := [d1, d2, d3, d4] }
  | _ => none }
def objectSortsRow : OpenClaim := { program := "yteonkfedgopdiaagreat", sum := "016d587d39e66c105800d83274d19d9ba53bfa671306660eb0c242a051e854b9", func := "spence/spencelaw16.ObjectSorts", spec := "objectSorts", unfollowed := true, recurses := true, apart := false }
def ObjectSortsSaid : Prop := objectSortsRow.holds Tryz.pinned (OpenSpec.ofChange objectSortsSpec)

/-- ITS FALSE NEIGHBOUR: 'it returns false'. Refute it at one input. -/
def objectSortsWrong : ChangeSpec := { name := "objectSorts", fn := fun _ => fun
  | [d1, d2, d3, d4] => { results := [.lit (.bool false)], args := [d1, d2, d3, d4] }
  | _ => none }
def ObjectSortsWrongFalsely : Prop := objectSortsRow.holds Tryz.pinned (OpenSpec.ofChange objectSortsWrong)

/-- 'spencelaw16.ObjectCuts': WHATEVER THE INPUT: true; the input reads as it did. -/
def objectCutsSpec : ChangeSpec := { name := "objectCuts", fn := fun _ => fun
  | [d1, d2] => { results := [.lit (.bool true)], args := [d1, d2] }
  | _ => none }
def objectCutsRow : OpenClaim := { program := "yteonkfedgopdiaagreat", sum := "016d587d39e66c105800d83274d19d9ba53bfa671306660eb0c242a051e854b9", func := "spence/spencelaw16.ObjectCuts", spec := "objectCuts", unfollowed := true, recurses := true, apart := false }
def ObjectCutsSaid : Prop := objectCutsRow.holds Tryz.pinned (OpenSpec.ofChange objectCutsSpec)

/-- ITS FALSE NEIGHBOUR: 'it returns false'. Refute it at one input. -/
def objectCutsWrong : ChangeSpec := { name := "objectCuts", fn := fun _ => fun
  | [d1, d2] => { results := [.lit (.bool false)], args := [d1, d2] }
  | _ => none }
def ObjectCutsWrongFalsely : Prop := objectCutsRow.holds Tryz.pinned (OpenSpec.ofChange objectCutsWrong)

/- THE SECOND FORM. 'bulk': how many values and letters a reading holds, each counted each time it is reached (what is shared counts as often as it is met; a slice's spare places count too). A statement '..UptoSaid' is the law's where the arguments, and the package variables that the reading takes, are together of bulk at most 1048576: NARROWER than '..Said'. Prove '..Said' where nothing that the law and all that it calls make is longer than what came in: it says more and counts as full. Else prove '..UptoSaid'. A law counts once. -/
mutual
def uptoBulk {H : Type} : DataW H → Nat
  | .lit (.string bytes) => bytes.length + 1
  | .lit _ => 1
  | .nil => 1
  | .ptr d => uptoBulk d + 1
  | .slice elems spare => uptoBulkAll elems + uptoBulkAll spare + 1
  | .agg parts => uptoBulkAll parts + 1
  | .iface _ d => uptoBulk d + 1
  | .map entries => uptoBulkEntries entries + 1
  | .held _ => 1
def uptoBulkAll {H : Type} : List (DataW H) → Nat
  | [] => 0
  | d :: r => uptoBulk d + uptoBulkAll r
def uptoBulkEntries {H : Type} : List (Lit × DataW H) → Nat
  | [] => 0
  | x :: r => uptoBulkEntry x + uptoBulkEntries r
def uptoBulkEntry {H : Type} : Lit × DataW H → Nat
  | (.string bytes, d) => bytes.length + uptoBulk d + 1
  | (_, d) => uptoBulk d + 1
 end
def uptoSmall : (H : Type) → List (DataW H) → Bool := fun _ ds => decide (uptoBulkAll ds ≤ 1048576)
def OpenSpec.upto (s : _root_.Go.ChangeSpec) : _root_.Go.OpenSpec := { _root_.Go.OpenSpec.ofChange s with cond := some uptoSmall }

/-- 'spencelaw16.ObjectEncodes', WHERE WHAT IT READS IS OF BULK AT MOST 1048576: true; the input reads as it did. -/
def objectEncodesUptoRow : OpenClaim := { program := "yteonkfedgopdiaagreat", sum := "016d587d39e66c105800d83274d19d9ba53bfa671306660eb0c242a051e854b9", func := "spence/spencelaw16.ObjectEncodes", spec := "objectEncodes", unfollowed := true, recurses := true, apart := false, narrowed := true }
def ObjectEncodesUptoSaid : Prop := objectEncodesUptoRow.holds Tryz.pinned (OpenSpec.upto objectEncodesSpec)

/-- 'spencelaw16.ObjectDecodes', WHERE WHAT IT READS IS OF BULK AT MOST 1048576: true; the input reads as it did. -/
def objectDecodesUptoRow : OpenClaim := { program := "yteonkfedgopdiaagreat", sum := "016d587d39e66c105800d83274d19d9ba53bfa671306660eb0c242a051e854b9", func := "spence/spencelaw16.ObjectDecodes", spec := "objectDecodes", unfollowed := true, recurses := true, apart := false, narrowed := true }
def ObjectDecodesUptoSaid : Prop := objectDecodesUptoRow.holds Tryz.pinned (OpenSpec.upto objectDecodesSpec)

/-- 'spencelaw16.ObjectSorts', WHERE WHAT IT READS IS OF BULK AT MOST 1048576: true; the input reads as it did. -/
def objectSortsUptoRow : OpenClaim := { program := "yteonkfedgopdiaagreat", sum := "016d587d39e66c105800d83274d19d9ba53bfa671306660eb0c242a051e854b9", func := "spence/spencelaw16.ObjectSorts", spec := "objectSorts", unfollowed := true, recurses := true, apart := false, narrowed := true }
def ObjectSortsUptoSaid : Prop := objectSortsUptoRow.holds Tryz.pinned (OpenSpec.upto objectSortsSpec)

/-- 'spencelaw16.ObjectCuts', WHERE WHAT IT READS IS OF BULK AT MOST 1048576: true; the input reads as it did. -/
def objectCutsUptoRow : OpenClaim := { program := "yteonkfedgopdiaagreat", sum := "016d587d39e66c105800d83274d19d9ba53bfa671306660eb0c242a051e854b9", func := "spence/spencelaw16.ObjectCuts", spec := "objectCuts", unfollowed := true, recurses := true, apart := false, narrowed := true }
def ObjectCutsUptoSaid : Prop := objectCutsUptoRow.holds Tryz.pinned (OpenSpec.upto objectCutsSpec)

end Rows
end Go.Proofs.YteonkfedgopdiaaGreat
