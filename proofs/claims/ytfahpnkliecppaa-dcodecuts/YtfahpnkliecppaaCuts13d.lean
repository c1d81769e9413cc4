/-
  The law DcodeCuts (cut anywhere, and with others behind) over the landed package dcode.
  Conditions: none beyond that its arguments are values of their types.
-/
import Derived.Test.YtfahpnkliecppaaCuts13
import Derived.Test.YtfahpnkliecppaaDcD
namespace Go.Proofs.Ytfahpnkliecppaa
open Go.RowKit

theorem dcodeCuts_done (w : World) (ao : Option Addr) (cap : Nat) (k : Ck) (fk : FitsK k) (hA : EnsAt w ao k.c) (t : ByteArray) (ht : t.size ≤ maxLen) :
    Calls Try.prog 6 #[.agg #[.slice ao k.c.length cap, .bool k.d, .string k.x.a, .int .u64 (k.x.n : Int)], .string t] w fun e w' => e = .returned (.bool true) ∧ Keep0 w w' := dcodeCuts_law dcCode w ao cap k fk hA t ht
end Go.Proofs.Ytfahpnkliecppaa
