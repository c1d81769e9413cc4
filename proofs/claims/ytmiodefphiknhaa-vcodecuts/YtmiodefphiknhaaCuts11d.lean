/-
  The law VcodeCuts (a vector's bytes that end too early, or that others stand behind, are told to be so) over the landed package vcode.
  Conditions: none beyond that its arguments are values of their types.
-/
import Derived.Test.YtmiodefphiknhaaCuts11
import Derived.Test.YtmiodefphiknhaaVcC
namespace Go.Proofs.Ytmiodefphiknhaa
open Go.RowKit

theorem vcodeCuts_done (w : World) (ao : Option Addr) (cap : Nat) (l : List En) (fl : Fits l) (hA : EnsAt w ao l) (t : ByteArray) (ht : t.size ≤ maxLen) :
    Calls Try.prog 6 #[.slice ao l.length cap, .string t] w fun e w' => e = .returned (.bool true) ∧ Keep0 w w' := vcodeCuts_law vcCode w ao cap l fl hA t ht
end Go.Proofs.Ytmiodefphiknhaa
