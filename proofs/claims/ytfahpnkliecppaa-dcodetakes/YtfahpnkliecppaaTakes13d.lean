/-
  The law DcodeTakes (what Take and Put answer) over the landed package dcode.
  Conditions: none beyond that its arguments are values of their types.
-/
import Derived.Test.YtfahpnkliecppaaTakes13
import Derived.Test.YtfahpnkliecppaaDcD
namespace Go.Proofs.Ytfahpnkliecppaa
open Go.RowKit

theorem dcodeTakes_done (w : World) (s : ByteArray) (hs : s.size ≤ maxLen) (mx : Int) (hmx : (Lit.int .i64 mx).wf = true) (ao : Option Addr) (cap : Nat) (l : List Ck) (hl : l.length ≤ maxLen) (hf : ∀ k ∈ l, FitsK k) (hc : ClksAt w ao l) :
    Calls Try.prog 5 #[.string s, .int .i64 mx, .slice ao l.length cap] w fun e w' => e = .returned (.bool true) ∧ Keep0 w w' := dcodeTakes_law dcCode w s hs mx hmx ao cap l hl hf hc
end Go.Proofs.Ytfahpnkliecppaa
