/-
  The law DottedCovers (to cover is to know each event that the other one knows) over the landed package dotted.
  Conditions: none beyond that its arguments are values of their types.
-/
import Derived.Test.YtkbihpdfafapeaaCovers12
import Derived.Test.YtkbihpdfafapeaaDtE
namespace Go.Proofs.Ytkbihpdfafapeaa
open Go.RowKit

theorem dottedCovers_done (w : World) (ao : Option Addr) (ca : Nat) (a : Ck) (fa : FitsK a) (hA : EnsAt w ao a.c) (bo : Option Addr) (cb : Nat) (b : Ck) (fb : FitsK b) (hB : EnsAt w bo b.c) (co : Option Addr) (cc : Nat) (c : Ck) (fc : FitsK c) (hC : EnsAt w co c.c) :
    Calls Try.prog 6 #[.agg #[.slice ao a.c.length ca, .bool a.d, .string a.x.a, .int .u64 (a.x.n : Int)], .agg #[.slice bo b.c.length cb, .bool b.d, .string b.x.a, .int .u64 (b.x.n : Int)], .agg #[.slice co c.c.length cc, .bool c.d, .string c.x.a, .int .u64 (c.x.n : Int)]] w fun e w' => e = .returned (.bool true) ∧ Keep0 w w' := dottedCovers_law dotCode w ao ca a fa hA bo cb b fb hB co cc c fc hC
end Go.Proofs.Ytkbihpdfafapeaa
