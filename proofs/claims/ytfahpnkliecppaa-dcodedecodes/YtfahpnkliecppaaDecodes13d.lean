/-
  The law DcodeDecodes (what Decode answers) over the landed package dcode.
  Conditions: none beyond that its arguments are values of their types.
-/
import Derived.Test.YtfahpnkliecppaaDecodes13
import Derived.Test.YtfahpnkliecppaaDcD
namespace Go.Proofs.Ytfahpnkliecppaa
open Go.RowKit

theorem dcodeDecodes_done (w : World) (s : ByteArray) (hs : s.size ≤ maxLen) :
    Calls Try.prog 4 #[.string s] w fun e w' => e = .returned (.bool true) ∧ Keep0 w w' := dcodeDecodes_law dcCode w s hs
end Go.Proofs.Ytfahpnkliecppaa
