/-
  The law VcodeEncodes (a list's bytes, or why it has none, are as the document says, and what is encoded is decoded again) over the landed package vcode.
  Conditions: none beyond that its arguments are values of their types.
-/
import Derived.Test.YtmiodefphiknhaaEncodes11
import Derived.Test.YtmiodefphiknhaaVcC
namespace Go.Proofs.Ytmiodefphiknhaa
open Go.RowKit

theorem vcodeEncodes_done (w : World) (ao : Option Addr) (cap : Nat) (l : List En) (fl : Fits l) (hA : EnsAt w ao l) :
    Calls Try.prog 3 #[.slice ao l.length cap] w fun e w' => e = .returned (.bool true) ∧ Keep0 w w' := vcodeEncodes_law vcCode w ao cap l fl hA
end Go.Proofs.Ytmiodefphiknhaa
