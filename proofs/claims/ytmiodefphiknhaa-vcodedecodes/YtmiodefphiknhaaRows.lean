/-
  No cell of these rows narrows 'for every input' (looked for: loops, veiled, ifaces, maps, wideKeys, modest, calm, conditions, laid).
  DERIVED. THE GIVEN ROWS OF THIS SEAT. 4 by the template 'for every input the law returns true; each argument reads behind the call as it read before'; 0 by the template 'total and deterministic' (their statements: YtmiodefphiknhaaTotals.lean).
  GIVEN WITH THE SEED: the statements are not yours to turn. If you find one false, say at which input.
  Laid BY PROGRAM, IN A SANDBOX (cutbox-rows.mjs): the forced cells as the released guide's own fill.sh prints them over the translation 1ddad69586f523af… (all of the seat's roots in one cut). By AI agents, Wed Nov 11 2026. No macro, syntax, notation, axiom, sorry.
-/
import Derived.Test.YtmiodefphiknhaaChecked
import GoSem.Claim
import GoSem.ClaimJoined
import GoSem.ClaimMapViews
import Derived.JoinedTies
import Derived.KernelRfl
namespace Go.Proofs.Ytmiodefphiknhaa
/- THE CELL 'sum', in the pinned program and in every row, IS THE sha256 OF THE DUMP (.gsa) THAT YtmiodefphiknhaaProg.lean LOADS. Nothing in Lean hashes anything: it is a label: what it is worth is what the hold of that sum in a sandbox is worth. -/
noncomputable def Try.pinned : Pinned := { name := "ytmiodefphiknhaa", sum := "1ddad69586f523afd80b974b5269f88c3b740b6700dcfe539730b34a919de1a2", checked := Try.checked }
namespace Rows
def none {H : Type} : Left H := { results := [], args := [] }

/-- 'spencelaw11.VcodeEncodes': WHATEVER THE INPUT: true; the input reads as it did. -/
def vcodeEncodesSpec : ChangeSpec := { name := "vcodeEncodes", fn := fun _ => fun
  | [d] => { results := [.lit (.bool true)], args := [d] }
  | _ => none }
def vcodeEncodesRow : OpenClaim := { program := "ytmiodefphiknhaa", sum := "1ddad69586f523afd80b974b5269f88c3b740b6700dcfe539730b34a919de1a2", func := "spence/spencelaw11.VcodeEncodes", spec := "vcodeEncodes", unfollowed := true, recurses := true, apart := false }
def VcodeEncodesSaid : Prop := vcodeEncodesRow.holds Try.pinned (OpenSpec.ofChange vcodeEncodesSpec)

/-- ITS FALSE NEIGHBOUR: 'it returns false'. Refute it at one input. -/
def vcodeEncodesWrong : ChangeSpec := { name := "vcodeEncodes", fn := fun _ => fun
  | [d] => { results := [.lit (.bool false)], args := [d] }
  | _ => none }
def VcodeEncodesWrongFalsely : Prop := vcodeEncodesRow.holds Try.pinned (OpenSpec.ofChange vcodeEncodesWrong)

/-- 'spencelaw11.VcodeDecodes': WHATEVER THE INPUT: true; the input reads as it did. -/
def vcodeDecodesSpec : ChangeSpec := { name := "vcodeDecodes", fn := fun _ => fun
  | [d] => { results := [.lit (.bool true)], args := [d] }
  | _ => none }
def vcodeDecodesRow : OpenClaim := { program := "ytmiodefphiknhaa", sum := "1ddad69586f523afd80b974b5269f88c3b740b6700dcfe539730b34a919de1a2", func := "spence/spencelaw11.VcodeDecodes", spec := "vcodeDecodes", unfollowed := true, recurses := true, apart := false }
def VcodeDecodesSaid : Prop := vcodeDecodesRow.holds Try.pinned (OpenSpec.ofChange vcodeDecodesSpec)

/-- ITS FALSE NEIGHBOUR: 'it returns false'. Refute it at one input. -/
def vcodeDecodesWrong : ChangeSpec := { name := "vcodeDecodes", fn := fun _ => fun
  | [d] => { results := [.lit (.bool false)], args := [d] }
  | _ => none }
def VcodeDecodesWrongFalsely : Prop := vcodeDecodesRow.holds Try.pinned (OpenSpec.ofChange vcodeDecodesWrong)

/-- 'spencelaw11.VcodeTakes': WHATEVER THE INPUT: true; the input reads as it did. -/
def vcodeTakesSpec : ChangeSpec := { name := "vcodeTakes", fn := fun _ => fun
  | [d1, d2, d3] => { results := [.lit (.bool true)], args := [d1, d2, d3] }
  | _ => none }
def vcodeTakesRow : OpenClaim := { program := "ytmiodefphiknhaa", sum := "1ddad69586f523afd80b974b5269f88c3b740b6700dcfe539730b34a919de1a2", func := "spence/spencelaw11.VcodeTakes", spec := "vcodeTakes", unfollowed := true, recurses := true, apart := false }
def VcodeTakesSaid : Prop := vcodeTakesRow.holds Try.pinned (OpenSpec.ofChange vcodeTakesSpec)

/-- ITS FALSE NEIGHBOUR: 'it returns false'. Refute it at one input. -/
def vcodeTakesWrong : ChangeSpec := { name := "vcodeTakes", fn := fun _ => fun
  | [d1, d2, d3] => { results := [.lit (.bool false)], args := [d1, d2, d3] }
  | _ => none }
def VcodeTakesWrongFalsely : Prop := vcodeTakesRow.holds Try.pinned (OpenSpec.ofChange vcodeTakesWrong)

/-- 'spencelaw11.VcodeCuts': WHATEVER THE INPUT: true; the input reads as it did. -/
def vcodeCutsSpec : ChangeSpec := { name := "vcodeCuts", fn := fun _ => fun
  | [d1, d2] => { results := [.lit (.bool true)], args := [d1, d2] }
  | _ => none }
def vcodeCutsRow : OpenClaim := { program := "ytmiodefphiknhaa", sum := "1ddad69586f523afd80b974b5269f88c3b740b6700dcfe539730b34a919de1a2", func := "spence/spencelaw11.VcodeCuts", spec := "vcodeCuts", unfollowed := true, recurses := true, apart := false }
def VcodeCutsSaid : Prop := vcodeCutsRow.holds Try.pinned (OpenSpec.ofChange vcodeCutsSpec)

/-- ITS FALSE NEIGHBOUR: 'it returns false'. Refute it at one input. -/
def vcodeCutsWrong : ChangeSpec := { name := "vcodeCuts", fn := fun _ => fun
  | [d1, d2] => { results := [.lit (.bool false)], args := [d1, d2] }
  | _ => none }
def VcodeCutsWrongFalsely : Prop := vcodeCutsRow.holds Try.pinned (OpenSpec.ofChange vcodeCutsWrong)

/- THE SECOND FORM. 'bulk': how many values and letters a reading holds, each counted each time it is reached (what is shared counts as often as it is met; a slice's spare places count too). A statement '..UptoSaid' is the law's where the arguments, and the package variables that the reading takes, are together of bulk at most 1048576: NARROWER than '..Said'. Prove '..Said' where nothing that the law and all that it calls make is longer than what came in: it says more and counts as full. Else prove '..UptoSaid'. A law counts once. -/
mutual
def uptoBulk {H : Type} : DataW H → Nat
  | .lit (.string bytes) => bytes.length + 1
  | .lit _ => 1
  | .nil => 1
  | .ptr d => uptoBulk d + 1
  | .slice elems spare => uptoBulkAll elems + uptoBulkAll spare + 1
  | .agg parts => uptoBulkAll parts + 1
  | .iface _ d => uptoBulk d + 1
  | .map entries => uptoBulkEntries entries + 1
  | .held _ => 1
def uptoBulkAll {H : Type} : List (DataW H) → Nat
  | [] => 0
  | d :: r => uptoBulk d + uptoBulkAll r
def uptoBulkEntries {H : Type} : List (Lit × DataW H) → Nat
  | [] => 0
  | x :: r => uptoBulkEntry x + uptoBulkEntries r
def uptoBulkEntry {H : Type} : Lit × DataW H → Nat
  | (.string bytes, d) => bytes.length + uptoBulk d + 1
  | (_, d) => uptoBulk d + 1
 end
def uptoSmall : (H : Type) → List (DataW H) → Bool := fun _ ds => decide (uptoBulkAll ds ≤ 1048576)
def OpenSpec.upto (s : _root_.Go.ChangeSpec) : _root_.Go.OpenSpec := { _root_.Go.OpenSpec.ofChange s with cond := some uptoSmall }

/-- 'spencelaw11.VcodeEncodes', WHERE WHAT IT READS IS OF BULK AT MOST 1048576: true; the input reads as it did. -/
def vcodeEncodesUptoRow : OpenClaim := { program := "ytmiodefphiknhaa", sum := "1ddad69586f523afd80b974b5269f88c3b740b6700dcfe539730b34a919de1a2", func := "spence/spencelaw11.VcodeEncodes", spec := "vcodeEncodes", unfollowed := true, recurses := true, apart := false, narrowed := true }
def VcodeEncodesUptoSaid : Prop := vcodeEncodesUptoRow.holds Try.pinned (OpenSpec.upto vcodeEncodesSpec)

/-- 'spencelaw11.VcodeDecodes', WHERE WHAT IT READS IS OF BULK AT MOST 1048576: true; the input reads as it did. -/
def vcodeDecodesUptoRow : OpenClaim := { program := "ytmiodefphiknhaa", sum := "1ddad69586f523afd80b974b5269f88c3b740b6700dcfe539730b34a919de1a2", func := "spence/spencelaw11.VcodeDecodes", spec := "vcodeDecodes", unfollowed := true, recurses := true, apart := false, narrowed := true }
def VcodeDecodesUptoSaid : Prop := vcodeDecodesUptoRow.holds Try.pinned (OpenSpec.upto vcodeDecodesSpec)

/-- 'spencelaw11.VcodeTakes', WHERE WHAT IT READS IS OF BULK AT MOST 1048576: true; the input reads as it did. -/
def vcodeTakesUptoRow : OpenClaim := { program := "ytmiodefphiknhaa", sum := "1ddad69586f523afd80b974b5269f88c3b740b6700dcfe539730b34a919de1a2", func := "spence/spencelaw11.VcodeTakes", spec := "vcodeTakes", unfollowed := true, recurses := true, apart := false, narrowed := true }
def VcodeTakesUptoSaid : Prop := vcodeTakesUptoRow.holds Try.pinned (OpenSpec.upto vcodeTakesSpec)

/-- 'spencelaw11.VcodeCuts', WHERE WHAT IT READS IS OF BULK AT MOST 1048576: true; the input reads as it did. -/
def vcodeCutsUptoRow : OpenClaim := { program := "ytmiodefphiknhaa", sum := "1ddad69586f523afd80b974b5269f88c3b740b6700dcfe539730b34a919de1a2", func := "spence/spencelaw11.VcodeCuts", spec := "vcodeCuts", unfollowed := true, recurses := true, apart := false, narrowed := true }
def VcodeCutsUptoSaid : Prop := vcodeCutsUptoRow.holds Try.pinned (OpenSpec.upto vcodeCutsSpec)

end Rows
end Go.Proofs.Ytmiodefphiknhaa
