/-
  No cell of these rows narrows 'for every input' (looked for: loops, veiled, ifaces, maps, wideKeys, modest, calm, conditions, laid).
  DERIVED. THE GIVEN ROWS OF THIS SEAT. 3 by the template 'for every input the law returns true; each argument reads behind the call as it read before'; 0 by the template 'total and deterministic' (their statements: YtoefibkhlhmlfaaGreatTotals.lean).
  GIVEN WITH THE SEED: the statements are not yours to turn. If you find one false, say at which input.
  Laid BY PROGRAM, IN A SANDBOX (cutbox-rows.mjs): the forced cells as the released guide's own fill.sh prints them over the translation 423b228cffaaabd6… (all of the seat's roots in one cut). By AI agents, Wed Nov 11 2026. No macro, syntax, notation, axiom, sorry.
-/
import Derived.Test.YtoefibkhlhmlfaaGreatChecked
import GoSem.Claim
import GoSem.ClaimJoined
import GoSem.ClaimMapViews
import Derived.JoinedTies
import Derived.KernelRfl
namespace Go.Proofs.YtoefibkhlhmlfaaGreat
/- THE CELL 'sum', in the pinned program and in every row, IS THE sha256 OF THE DUMP (.gsa) THAT YtoefibkhlhmlfaaGreatProg.lean LOADS. Nothing in Lean hashes anything: it is a label: what it is worth is what the hold of that sum in a sandbox is worth. -/
noncomputable def Tryz.pinned : Pinned := { name := "ytoefibkhlhmlfaagreat", sum := "423b228cffaaabd6dcfccb29c1326780d37823cabf72baf716b80ffe5062b993", checked := Tryz.checked }
namespace Rows
def none {H : Type} : Left H := { results := [], args := [] }

/-- 'spencelaw18.UpgradeUps': WHATEVER THE INPUT: true; the input reads as it did. -/
def upgradeUpsSpec : ChangeSpec := { name := "upgradeUps", fn := fun _ => fun
  | [d1, d2] => { results := [.lit (.bool true)], args := [d1, d2] }
  | _ => none }
def upgradeUpsRow : OpenClaim := { program := "ytoefibkhlhmlfaagreat", sum := "423b228cffaaabd6dcfccb29c1326780d37823cabf72baf716b80ffe5062b993", func := "spence/spencelaw18.UpgradeUps", spec := "upgradeUps", unfollowed := true, recurses := true, apart := false }
def UpgradeUpsSaid : Prop := upgradeUpsRow.holds Tryz.pinned (OpenSpec.ofChange upgradeUpsSpec)

/-- ITS FALSE NEIGHBOUR: 'it returns false'. Refute it at one input. -/
def upgradeUpsWrong : ChangeSpec := { name := "upgradeUps", fn := fun _ => fun
  | [d1, d2] => { results := [.lit (.bool false)], args := [d1, d2] }
  | _ => none }
def UpgradeUpsWrongFalsely : Prop := upgradeUpsRow.holds Tryz.pinned (OpenSpec.ofChange upgradeUpsWrong)

/-- 'spencelaw18.UpgradeKeeps': WHATEVER THE INPUT: true; the input reads as it did. -/
def upgradeKeepsSpec : ChangeSpec := { name := "upgradeKeeps", fn := fun _ => fun
  | [d1, d2] => { results := [.lit (.bool true)], args := [d1, d2] }
  | _ => none }
def upgradeKeepsRow : OpenClaim := { program := "ytoefibkhlhmlfaagreat", sum := "423b228cffaaabd6dcfccb29c1326780d37823cabf72baf716b80ffe5062b993", func := "spence/spencelaw18.UpgradeKeeps", spec := "upgradeKeeps", unfollowed := true, recurses := true, apart := false }
def UpgradeKeepsSaid : Prop := upgradeKeepsRow.holds Tryz.pinned (OpenSpec.ofChange upgradeKeepsSpec)

/-- ITS FALSE NEIGHBOUR: 'it returns false'. Refute it at one input. -/
def upgradeKeepsWrong : ChangeSpec := { name := "upgradeKeeps", fn := fun _ => fun
  | [d1, d2] => { results := [.lit (.bool false)], args := [d1, d2] }
  | _ => none }
def UpgradeKeepsWrongFalsely : Prop := upgradeKeepsRow.holds Tryz.pinned (OpenSpec.ofChange upgradeKeepsWrong)

/-- 'spencelaw18.UpgradeReads': WHATEVER THE INPUT: true; the input reads as it did. -/
def upgradeReadsSpec : ChangeSpec := { name := "upgradeReads", fn := fun _ => fun
  | [d1, d2] => { results := [.lit (.bool true)], args := [d1, d2] }
  | _ => none }
def upgradeReadsRow : OpenClaim := { program := "ytoefibkhlhmlfaagreat", sum := "423b228cffaaabd6dcfccb29c1326780d37823cabf72baf716b80ffe5062b993", func := "spence/spencelaw18.UpgradeReads", spec := "upgradeReads", unfollowed := true, recurses := true, apart := false }
def UpgradeReadsSaid : Prop := upgradeReadsRow.holds Tryz.pinned (OpenSpec.ofChange upgradeReadsSpec)

/-- ITS FALSE NEIGHBOUR: 'it returns false'. Refute it at one input. -/
def upgradeReadsWrong : ChangeSpec := { name := "upgradeReads", fn := fun _ => fun
  | [d1, d2] => { results := [.lit (.bool false)], args := [d1, d2] }
  | _ => none }
def UpgradeReadsWrongFalsely : Prop := upgradeReadsRow.holds Tryz.pinned (OpenSpec.ofChange upgradeReadsWrong)

/- THE SECOND FORM. 'bulk': how many values and letters a reading holds, each counted each time it is reached (what is shared counts as often as it is met; a slice's spare places count too). A statement '..UptoSaid' is the law's where the arguments, and the package variables that the reading takes, are together of bulk at most 1048576: NARROWER than '..Said'. Prove '..Said' where nothing that the law and all that it calls make is longer than what came in: it says more and counts as full. Else prove '..UptoSaid'. A law counts once. -/
mutual
def uptoBulk {H : Type} : DataW H → Nat
  | .lit (.string bytes) => bytes.length + 1
  | .lit _ => 1
  | .nil => 1
  | .ptr d => uptoBulk d + 1
  | .slice elems spare => uptoBulkAll elems + uptoBulkAll spare + 1
  | .agg parts => uptoBulkAll parts + 1
  | .iface _ d => uptoBulk d + 1
  | .map entries => uptoBulkEntries entries + 1
  | .held _ => 1
def uptoBulkAll {H : Type} : List (DataW H) → Nat
  | [] => 0
  | d :: r => uptoBulk d + uptoBulkAll r
def uptoBulkEntries {H : Type} : List (Lit × DataW H) → Nat
  | [] => 0
  | x :: r => uptoBulkEntry x + uptoBulkEntries r
def uptoBulkEntry {H : Type} : Lit × DataW H → Nat
  | (.string bytes, d) => bytes.length + uptoBulk d + 1
  | (_, d) => uptoBulk d + 1
 end
def uptoSmall : (H : Type) → List (DataW H) → Bool := fun _ ds => decide (uptoBulkAll ds ≤ 1048576)
def OpenSpec.upto (s : _root_.Go.ChangeSpec) : _root_.Go.OpenSpec := { _root_.Go.OpenSpec.ofChange s with cond := some uptoSmall }

/-- 'spencelaw18.UpgradeUps', WHERE WHAT IT READS IS OF BULK AT MOST 1048576: true; the input reads as it did. -/
def upgradeUpsUptoRow : OpenClaim := { program := "ytoefibkhlhmlfaagreat", sum := "423b228cffaaabd6dcfccb29c1326780d37823cabf72baf716b80ffe5062b993", func := "spence/spencelaw18.UpgradeUps", spec := "upgradeUps", unfollowed := true, recurses := true, apart := false, narrowed := true }
def UpgradeUpsUptoSaid : Prop := upgradeUpsUptoRow.holds Tryz.pinned (OpenSpec.upto upgradeUpsSpec)

/-- 'spencelaw18.UpgradeKeeps', WHERE WHAT IT READS IS OF BULK AT MOST 1048576: true; the input reads as it did. -/
def upgradeKeepsUptoRow : OpenClaim := { program := "ytoefibkhlhmlfaagreat", sum := "423b228cffaaabd6dcfccb29c1326780d37823cabf72baf716b80ffe5062b993", func := "spence/spencelaw18.UpgradeKeeps", spec := "upgradeKeeps", unfollowed := true, recurses := true, apart := false, narrowed := true }
def UpgradeKeepsUptoSaid : Prop := upgradeKeepsUptoRow.holds Tryz.pinned (OpenSpec.upto upgradeKeepsSpec)

/-- 'spencelaw18.UpgradeReads', WHERE WHAT IT READS IS OF BULK AT MOST 1048576: true; the input reads as it did. -/
def upgradeReadsUptoRow : OpenClaim := { program := "ytoefibkhlhmlfaagreat", sum := "423b228cffaaabd6dcfccb29c1326780d37823cabf72baf716b80ffe5062b993", func := "spence/spencelaw18.UpgradeReads", spec := "upgradeReads", unfollowed := true, recurses := true, apart := false, narrowed := true }
def UpgradeReadsUptoSaid : Prop := upgradeReadsUptoRow.holds Tryz.pinned (OpenSpec.upto upgradeReadsSpec)

end Rows
end Go.Proofs.YtoefibkhlhmlfaaGreat
