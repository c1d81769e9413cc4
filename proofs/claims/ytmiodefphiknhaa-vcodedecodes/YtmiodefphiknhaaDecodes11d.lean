/-
  The law VcodeDecodes (a text's vector, or why it is none, is as the document says, and what is decoded is right and is encoded to the same text) over the landed package vcode.
  Conditions: none beyond that its arguments are values of their types.
-/
import Derived.Test.YtmiodefphiknhaaDecodes11
import Derived.Test.YtmiodefphiknhaaVcC
namespace Go.Proofs.Ytmiodefphiknhaa
open Go.RowKit

theorem vcodeDecodes_done (w : World) (s : ByteArray) (hs : s.size ≤ maxLen) :
    Calls Try.prog 4 #[.string s] w fun e w' => e = .returned (.bool true) ∧ Keep0 w w' := vcodeDecodes_law vcCode w s hs
end Go.Proofs.Ytmiodefphiknhaa
