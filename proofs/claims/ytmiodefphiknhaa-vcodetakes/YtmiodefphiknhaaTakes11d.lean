/-
  The law VcodeTakes (vectors read one behind the other, and written one behind the other with any limit, are as the document says) over the landed package vcode.
  Conditions: none beyond that its arguments are values of their types.
-/
import Derived.Test.YtmiodefphiknhaaTakes11
import Derived.Test.YtmiodefphiknhaaVcC
namespace Go.Proofs.Ytmiodefphiknhaa
open Go.RowKit

theorem vcodeTakes_done (w : World) (s : ByteArray) (hs : s.size ≤ maxLen) (mx : Int) (hmx : (Lit.int .i64 mx).wf = true) (ao : Option Addr) (cap : Nat) (ls : List (List En)) (hl : ls.length ≤ maxLen) (hf : ∀ l ∈ ls, Fits l) (hc : VecsAt w ao ls) :
    Calls Try.prog 5 #[.string s, .int .i64 mx, .slice ao ls.length cap] w fun e w' => e = .returned (.bool true) ∧ Keep0 w w' := vcodeTakes_law vcCode w s hs mx hmx ao cap ls hl hf hc
end Go.Proofs.Ytmiodefphiknhaa
