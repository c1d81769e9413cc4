/-
  No cell of these rows narrows 'for every input' (looked for: loops, veiled, ifaces, maps, wideKeys, modest, calm, conditions, laid).
  DERIVED. THE GIVEN ROWS OF THIS SEAT. 4 by the template 'for every input the law returns true; each argument reads behind the call as it read before'; 0 by the template 'total and deterministic' (their statements: YtmllchembkpdkaaTotals.lean).
  GIVEN WITH THE SEED: the statements are not yours to turn. If you find one false, say at which input.
  Laid BY PROGRAM, IN A SANDBOX (cutbox-rows.mjs): the forced cells as the released guide's own fill.sh prints them over the translation f8a2ed5564d19bf6… (all of the seat's roots in one cut). By AI agents, Wed Nov 11 2026. No macro, syntax, notation, axiom, sorry.
-/
import Derived.Test.YtmllchembkpdkaaChecked
import GoSem.Claim
import GoSem.ClaimJoined
import GoSem.ClaimMapViews
import Derived.JoinedTies
import Derived.KernelRfl
namespace Go.Proofs.Ytmllchembkpdkaa
/- THE CELL 'sum', in the pinned program and in every row, IS THE sha256 OF THE DUMP (.gsa) THAT YtmllchembkpdkaaProg.lean LOADS. Nothing in Lean hashes anything: it is a label: what it is worth is what the hold of that sum in a sandbox is worth. -/
noncomputable def Try.pinned : Pinned := { name := "ytmllchembkpdkaa", sum := "f8a2ed5564d19bf6563ffd5433f6046901804dedcbfee4671f61b59257b82533", checked := Try.checked }
namespace Rows
def none {H : Type} : Left H := { results := [], args := [] }

/-- 'spencelaw17.LegacyEncodes': WHATEVER THE INPUT: true; the input reads as it did. -/
def legacyEncodesSpec : ChangeSpec := { name := "legacyEncodes", fn := fun _ => fun
  | [d1, d2] => { results := [.lit (.bool true)], args := [d1, d2] }
  | _ => none }
def legacyEncodesRow : OpenClaim := { program := "ytmllchembkpdkaa", sum := "f8a2ed5564d19bf6563ffd5433f6046901804dedcbfee4671f61b59257b82533", func := "spence/spencelaw17.LegacyEncodes", spec := "legacyEncodes", unfollowed := true, recurses := true, apart := false }
def LegacyEncodesSaid : Prop := legacyEncodesRow.holds Try.pinned (OpenSpec.ofChange legacyEncodesSpec)

/-- ITS FALSE NEIGHBOUR: 'it returns false'. Refute it at one input. -/
def legacyEncodesWrong : ChangeSpec := { name := "legacyEncodes", fn := fun _ => fun
  | [d1, d2] => { results := [.lit (.bool false)], args := [d1, d2] }
  | _ => none }
def LegacyEncodesWrongFalsely : Prop := legacyEncodesRow.holds Try.pinned (OpenSpec.ofChange legacyEncodesWrong)

/-- 'spencelaw17.LegacyDecodes': WHATEVER THE INPUT: true; the input reads as it did. -/
def legacyDecodesSpec : ChangeSpec := { name := "legacyDecodes", fn := fun _ => fun
  | [d] => { results := [.lit (.bool true)], args := [d] }
  | _ => none }
def legacyDecodesRow : OpenClaim := { program := "ytmllchembkpdkaa", sum := "f8a2ed5564d19bf6563ffd5433f6046901804dedcbfee4671f61b59257b82533", func := "spence/spencelaw17.LegacyDecodes", spec := "legacyDecodes", unfollowed := true, recurses := true, apart := false }
def LegacyDecodesSaid : Prop := legacyDecodesRow.holds Try.pinned (OpenSpec.ofChange legacyDecodesSpec)

/-- ITS FALSE NEIGHBOUR: 'it returns false'. Refute it at one input. -/
def legacyDecodesWrong : ChangeSpec := { name := "legacyDecodes", fn := fun _ => fun
  | [d] => { results := [.lit (.bool false)], args := [d] }
  | _ => none }
def LegacyDecodesWrongFalsely : Prop := legacyDecodesRow.holds Try.pinned (OpenSpec.ofChange legacyDecodesWrong)

/-- 'spencelaw17.LegacyTurns': WHATEVER THE INPUT: true; the input reads as it did. -/
def legacyTurnsSpec : ChangeSpec := { name := "legacyTurns", fn := fun _ => fun
  | [d1, d2] => { results := [.lit (.bool true)], args := [d1, d2] }
  | _ => none }
def legacyTurnsRow : OpenClaim := { program := "ytmllchembkpdkaa", sum := "f8a2ed5564d19bf6563ffd5433f6046901804dedcbfee4671f61b59257b82533", func := "spence/spencelaw17.LegacyTurns", spec := "legacyTurns", unfollowed := true, recurses := true, apart := false }
def LegacyTurnsSaid : Prop := legacyTurnsRow.holds Try.pinned (OpenSpec.ofChange legacyTurnsSpec)

/-- ITS FALSE NEIGHBOUR: 'it returns false'. Refute it at one input. -/
def legacyTurnsWrong : ChangeSpec := { name := "legacyTurns", fn := fun _ => fun
  | [d1, d2] => { results := [.lit (.bool false)], args := [d1, d2] }
  | _ => none }
def LegacyTurnsWrongFalsely : Prop := legacyTurnsRow.holds Try.pinned (OpenSpec.ofChange legacyTurnsWrong)

/-- 'spencelaw17.LegacyCuts': WHATEVER THE INPUT: true; the input reads as it did. -/
def legacyCutsSpec : ChangeSpec := { name := "legacyCuts", fn := fun _ => fun
  | [d1, d2] => { results := [.lit (.bool true)], args := [d1, d2] }
  | _ => none }
def legacyCutsRow : OpenClaim := { program := "ytmllchembkpdkaa", sum := "f8a2ed5564d19bf6563ffd5433f6046901804dedcbfee4671f61b59257b82533", func := "spence/spencelaw17.LegacyCuts", spec := "legacyCuts", unfollowed := true, recurses := true, apart := false }
def LegacyCutsSaid : Prop := legacyCutsRow.holds Try.pinned (OpenSpec.ofChange legacyCutsSpec)

/-- ITS FALSE NEIGHBOUR: 'it returns false'. Refute it at one input. -/
def legacyCutsWrong : ChangeSpec := { name := "legacyCuts", fn := fun _ => fun
  | [d1, d2] => { results := [.lit (.bool false)], args := [d1, d2] }
  | _ => none }
def LegacyCutsWrongFalsely : Prop := legacyCutsRow.holds Try.pinned (OpenSpec.ofChange legacyCutsWrong)

/- THE SECOND FORM. 'bulk': how many values and letters a reading holds, each counted each time it is reached (what is shared counts as often as it is met; a slice's spare places count too). A statement '..UptoSaid' is the law's where the arguments, and the package variables that the reading takes, are together of bulk at most 1048576: NARROWER than '..Said'. Prove '..Said' where nothing that the law and all that it calls make is longer than what came in: it says more and counts as full. Else prove '..UptoSaid'. A law counts once. -/
mutual
def uptoBulk {H : Type} : DataW H → Nat
  | .lit (.string bytes) => bytes.length + 1
  | .lit _ => 1
  | .nil => 1
  | .ptr d => uptoBulk d + 1
  | .slice elems spare => uptoBulkAll elems + uptoBulkAll spare + 1
  | .agg parts => uptoBulkAll parts + 1
  | .iface _ d => uptoBulk d + 1
  | .map entries => uptoBulkEntries entries + 1
  | .held _ => 1
def uptoBulkAll {H : Type} : List (DataW H) → Nat
  | [] => 0
  | d :: r => uptoBulk d + uptoBulkAll r
def uptoBulkEntries {H : Type} : List (Lit × DataW H) → Nat
  | [] => 0
  | x :: r => uptoBulkEntry x + uptoBulkEntries r
def uptoBulkEntry {H : Type} : Lit × DataW H → Nat
  | (.string bytes, d) => bytes.length + uptoBulk d + 1
  | (_, d) => uptoBulk d + 1
 end
def uptoSmall : (H : Type) → List (DataW H) → Bool := fun _ ds => decide (uptoBulkAll ds ≤ 1048576)
def OpenSpec.upto (s : _root_.Go.ChangeSpec) : _root_.Go.OpenSpec := { _root_.Go.OpenSpec.ofChange s with cond := some uptoSmall }

/-- 'spencelaw17.LegacyEncodes', WHERE WHAT IT READS IS OF BULK AT MOST 1048576: true; the input reads as it did. -/
def legacyEncodesUptoRow : OpenClaim := { program := "ytmllchembkpdkaa", sum := "f8a2ed5564d19bf6563ffd5433f6046901804dedcbfee4671f61b59257b82533", func := "spence/spencelaw17.LegacyEncodes", spec := "legacyEncodes", unfollowed := true, recurses := true, apart := false, narrowed := true }
def LegacyEncodesUptoSaid : Prop := legacyEncodesUptoRow.holds Try.pinned (OpenSpec.upto legacyEncodesSpec)

/-- 'spencelaw17.LegacyDecodes', WHERE WHAT IT READS IS OF BULK AT MOST 1048576: true; the input reads as it did. -/
def legacyDecodesUptoRow : OpenClaim := { program := "ytmllchembkpdkaa", sum := "f8a2ed5564d19bf6563ffd5433f6046901804dedcbfee4671f61b59257b82533", func := "spence/spencelaw17.LegacyDecodes", spec := "legacyDecodes", unfollowed := true, recurses := true, apart := false, narrowed := true }
def LegacyDecodesUptoSaid : Prop := legacyDecodesUptoRow.holds Try.pinned (OpenSpec.upto legacyDecodesSpec)

/-- 'spencelaw17.LegacyTurns', WHERE WHAT IT READS IS OF BULK AT MOST 1048576: true; the input reads as it did. -/
def legacyTurnsUptoRow : OpenClaim := { program := "ytmllchembkpdkaa", sum := "f8a2ed5564d19bf6563ffd5433f6046901804dedcbfee4671f61b59257b82533", func := "spence/spencelaw17.LegacyTurns", spec := "legacyTurns", unfollowed := true, recurses := true, apart := false, narrowed := true }
def LegacyTurnsUptoSaid : Prop := legacyTurnsUptoRow.holds Try.pinned (OpenSpec.upto legacyTurnsSpec)

/-- 'spencelaw17.LegacyCuts', WHERE WHAT IT READS IS OF BULK AT MOST 1048576: true; the input reads as it did. -/
def legacyCutsUptoRow : OpenClaim := { program := "ytmllchembkpdkaa", sum := "f8a2ed5564d19bf6563ffd5433f6046901804dedcbfee4671f61b59257b82533", func := "spence/spencelaw17.LegacyCuts", spec := "legacyCuts", unfollowed := true, recurses := true, apart := false, narrowed := true }
def LegacyCutsUptoSaid : Prop := legacyCutsUptoRow.holds Try.pinned (OpenSpec.upto legacyCutsSpec)

end Rows
end Go.Proofs.Ytmllchembkpdkaa
