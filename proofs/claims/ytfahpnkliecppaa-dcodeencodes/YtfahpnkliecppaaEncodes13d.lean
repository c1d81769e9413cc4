/-
  The law DcodeEncodes (what Encode and Below answer) over the landed package dcode.
  Conditions: none beyond that its arguments are values of their types.
-/
import Derived.Test.YtfahpnkliecppaaEncodes13
import Derived.Test.YtfahpnkliecppaaDcD
namespace Go.Proofs.Ytfahpnkliecppaa
open Go.RowKit

theorem dcodeEncodes_done (w : World) (ao : Option Addr) (ca : Nat) (a : Ck) (fa : FitsK a) (hA : EnsAt w ao a.c) (bo : Option Addr) (cb : Nat) (b : Ck) (fb : FitsK b) (hB : EnsAt w bo b.c) :
    Calls Try.prog 3 #[.agg #[.slice ao a.c.length ca, .bool a.d, .string a.x.a, .int .u64 (a.x.n : Int)], .agg #[.slice bo b.c.length cb, .bool b.d, .string b.x.a, .int .u64 (b.x.n : Int)]] w fun e w' => e = .returned (.bool true) ∧ Keep0 w w' := dcodeEncodes_law dcCode w ao ca a fa hA bo cb b fb hB
end Go.Proofs.Ytfahpnkliecppaa
