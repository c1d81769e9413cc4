/-
  The law VectorJoins (what lists know together, and behind one event more) over the landed package vector.
  Conditions: none beyond that its arguments are values of their types.
-/
import Derived.Test.YtkfilkbmdnneoaaJoins10
import Derived.Test.YtkfilkbmdnneoaaVecE
namespace Go.Proofs.Ytkfilkbmdnneoaa
open Go.RowKit

theorem vectorJoins_done (w : World) (ao : Option Addr) (cap : Nat) (ls : List (List En)) (hl : ls.length ≤ maxLen) (hf : ∀ l ∈ ls, Fits l) (hc : VecsAt w ao ls) (s : ByteArray) (hs : s.size ≤ maxLen) :
    Calls Try.prog 4 #[.slice ao ls.length cap, .string s] w fun e w' => e = .returned (.bool true) ∧ Keep0 w w' := vectorJoins_law vecCode w ao cap ls hl hf hc s hs
end Go.Proofs.Ytkfilkbmdnneoaa
