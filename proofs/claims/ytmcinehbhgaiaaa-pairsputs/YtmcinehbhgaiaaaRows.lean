/-
  No cell of these rows narrows 'for every input' (looked for: loops, veiled, ifaces, maps, wideKeys, modest, calm, conditions, laid).
  DERIVED. THE GIVEN ROWS OF THIS SEAT. 3 by the template 'for every input the law returns true; each argument reads behind the call as it read before'; 0 by the template 'total and deterministic' (their statements: YtmcinehbhgaiaaaTotals.lean).
  GIVEN WITH THE SEED: the statements are not yours to turn. If you find one false, say at which input.
  Laid BY PROGRAM, IN A SANDBOX (cutbox-rows.mjs): the forced cells as the released guide's own fill.sh prints them over the translation 1e46de730bb564b7… (all of the seat's roots in one cut). By AI agents, Wed Nov 11 2026. No macro, syntax, notation, axiom, sorry.
-/
import Derived.Test.YtmcinehbhgaiaaaChecked
import GoSem.Claim
import GoSem.ClaimJoined
import GoSem.ClaimMapViews
import Derived.JoinedTies
import Derived.KernelRfl
namespace Go.Proofs.Ytmcinehbhgaiaaa
/- THE CELL 'sum', in the pinned program and in every row, IS THE sha256 OF THE DUMP (.gsa) THAT YtmcinehbhgaiaaaProg.lean LOADS. Nothing in Lean hashes anything: it is a label: what it is worth is what the hold of that sum in a sandbox is worth. -/
noncomputable def Try.pinned : Pinned := { name := "ytmcinehbhgaiaaa", sum := "1e46de730bb564b7f5f5cfee4f4b797867218357616705d40cefc09e5fd70b70", checked := Try.checked }
namespace Rows
def none {H : Type} : Left H := { results := [], args := [] }

/-- 'spencelaw14.PairsPuts': WHATEVER THE INPUT: true; the input reads as it did. -/
def pairsPutsSpec : ChangeSpec := { name := "pairsPuts", fn := fun _ => fun
  | [d1, d2] => { results := [.lit (.bool true)], args := [d1, d2] }
  | _ => none }
def pairsPutsRow : OpenClaim := { program := "ytmcinehbhgaiaaa", sum := "1e46de730bb564b7f5f5cfee4f4b797867218357616705d40cefc09e5fd70b70", func := "spence/spencelaw14.PairsPuts", spec := "pairsPuts", inPlace := ["internal/bytealg.abigen_runtime_cmpstring"], unfollowed := true, recurses := true, apart := false }
def PairsPutsSaid : Prop := pairsPutsRow.holds Try.pinned (OpenSpec.ofChange pairsPutsSpec)

/-- ITS FALSE NEIGHBOUR: 'it returns false'. Refute it at one input. -/
def pairsPutsWrong : ChangeSpec := { name := "pairsPuts", fn := fun _ => fun
  | [d1, d2] => { results := [.lit (.bool false)], args := [d1, d2] }
  | _ => none }
def PairsPutsWrongFalsely : Prop := pairsPutsRow.holds Try.pinned (OpenSpec.ofChange pairsPutsWrong)

/-- 'spencelaw14.PairsTakes': WHATEVER THE INPUT: true; the input reads as it did. -/
def pairsTakesSpec : ChangeSpec := { name := "pairsTakes", fn := fun _ => fun
  | [d1, d2] => { results := [.lit (.bool true)], args := [d1, d2] }
  | _ => none }
def pairsTakesRow : OpenClaim := { program := "ytmcinehbhgaiaaa", sum := "1e46de730bb564b7f5f5cfee4f4b797867218357616705d40cefc09e5fd70b70", func := "spence/spencelaw14.PairsTakes", spec := "pairsTakes", inPlace := ["internal/bytealg.abigen_runtime_cmpstring"], unfollowed := true, recurses := true, apart := false }
def PairsTakesSaid : Prop := pairsTakesRow.holds Try.pinned (OpenSpec.ofChange pairsTakesSpec)

/-- ITS FALSE NEIGHBOUR: 'it returns false'. Refute it at one input. -/
def pairsTakesWrong : ChangeSpec := { name := "pairsTakes", fn := fun _ => fun
  | [d1, d2] => { results := [.lit (.bool false)], args := [d1, d2] }
  | _ => none }
def PairsTakesWrongFalsely : Prop := pairsTakesRow.holds Try.pinned (OpenSpec.ofChange pairsTakesWrong)

/-- 'spencelaw14.PairsWith': WHATEVER THE INPUT: true; the input reads as it did. -/
def pairsWithSpec : ChangeSpec := { name := "pairsWith", fn := fun _ => fun
  | [d1, d2, d3] => { results := [.lit (.bool true)], args := [d1, d2, d3] }
  | _ => none }
def pairsWithRow : OpenClaim := { program := "ytmcinehbhgaiaaa", sum := "1e46de730bb564b7f5f5cfee4f4b797867218357616705d40cefc09e5fd70b70", func := "spence/spencelaw14.PairsWith", spec := "pairsWith", inPlace := ["internal/bytealg.abigen_runtime_cmpstring"], unfollowed := true, recurses := true, apart := false }
def PairsWithSaid : Prop := pairsWithRow.holds Try.pinned (OpenSpec.ofChange pairsWithSpec)

/-- ITS FALSE NEIGHBOUR: 'it returns false'. Refute it at one input. -/
def pairsWithWrong : ChangeSpec := { name := "pairsWith", fn := fun _ => fun
  | [d1, d2, d3] => { results := [.lit (.bool false)], args := [d1, d2, d3] }
  | _ => none }
def PairsWithWrongFalsely : Prop := pairsWithRow.holds Try.pinned (OpenSpec.ofChange pairsWithWrong)

/- THE SECOND FORM. 'bulk': how many values and letters a reading holds, each counted each time it is reached (what is shared counts as often as it is met; a slice's spare places count too). A statement '..UptoSaid' is the law's where the arguments, and the package variables that the reading takes, are together of bulk at most 1048576: NARROWER than '..Said'. Prove '..Said' where nothing that the law and all that it calls make is longer than what came in: it says more and counts as full. Else prove '..UptoSaid'. A law counts once. -/
mutual
def uptoBulk {H : Type} : DataW H → Nat
  | .lit (.string bytes) => bytes.length + 1
  | .lit _ => 1
  | .nil => 1
  | .ptr d => uptoBulk d + 1
  | .slice elems spare => uptoBulkAll elems + uptoBulkAll spare + 1
  | .agg parts => uptoBulkAll parts + 1
  | .iface _ d => uptoBulk d + 1
  | .map entries => uptoBulkEntries entries + 1
  | .held _ => 1
def uptoBulkAll {H : Type} : List (DataW H) → Nat
  | [] => 0
  | d :: r => uptoBulk d + uptoBulkAll r
def uptoBulkEntries {H : Type} : List (Lit × DataW H) → Nat
  | [] => 0
  | x :: r => uptoBulkEntry x + uptoBulkEntries r
def uptoBulkEntry {H : Type} : Lit × DataW H → Nat
  | (.string bytes, d) => bytes.length + uptoBulk d + 1
  | (_, d) => uptoBulk d + 1
 end
def uptoSmall : (H : Type) → List (DataW H) → Bool := fun _ ds => decide (uptoBulkAll ds ≤ 1048576)
def OpenSpec.upto (s : _root_.Go.ChangeSpec) : _root_.Go.OpenSpec := { _root_.Go.OpenSpec.ofChange s with cond := some uptoSmall }

/-- 'spencelaw14.PairsPuts', WHERE WHAT IT READS IS OF BULK AT MOST 1048576: true; the input reads as it did. -/
def pairsPutsUptoRow : OpenClaim := { program := "ytmcinehbhgaiaaa", sum := "1e46de730bb564b7f5f5cfee4f4b797867218357616705d40cefc09e5fd70b70", func := "spence/spencelaw14.PairsPuts", spec := "pairsPuts", inPlace := ["internal/bytealg.abigen_runtime_cmpstring"], unfollowed := true, recurses := true, apart := false, narrowed := true }
def PairsPutsUptoSaid : Prop := pairsPutsUptoRow.holds Try.pinned (OpenSpec.upto pairsPutsSpec)

/-- 'spencelaw14.PairsTakes', WHERE WHAT IT READS IS OF BULK AT MOST 1048576: true; the input reads as it did. -/
def pairsTakesUptoRow : OpenClaim := { program := "ytmcinehbhgaiaaa", sum := "1e46de730bb564b7f5f5cfee4f4b797867218357616705d40cefc09e5fd70b70", func := "spence/spencelaw14.PairsTakes", spec := "pairsTakes", inPlace := ["internal/bytealg.abigen_runtime_cmpstring"], unfollowed := true, recurses := true, apart := false, narrowed := true }
def PairsTakesUptoSaid : Prop := pairsTakesUptoRow.holds Try.pinned (OpenSpec.upto pairsTakesSpec)

/-- 'spencelaw14.PairsWith', WHERE WHAT IT READS IS OF BULK AT MOST 1048576: true; the input reads as it did. -/
def pairsWithUptoRow : OpenClaim := { program := "ytmcinehbhgaiaaa", sum := "1e46de730bb564b7f5f5cfee4f4b797867218357616705d40cefc09e5fd70b70", func := "spence/spencelaw14.PairsWith", spec := "pairsWith", inPlace := ["internal/bytealg.abigen_runtime_cmpstring"], unfollowed := true, recurses := true, apart := false, narrowed := true }
def PairsWithUptoSaid : Prop := pairsWithUptoRow.holds Try.pinned (OpenSpec.upto pairsWithSpec)

end Rows
end Go.Proofs.Ytmcinehbhgaiaaa
