/-
  The law VectorEvents (an event more) over the landed package vector.
  Conditions: none beyond that its arguments are values of their types.
-/
import Derived.Test.YtkfilkbmdnneoaaEvents10
import Derived.Test.YtkfilkbmdnneoaaVecE
namespace Go.Proofs.Ytkfilkbmdnneoaa
open Go.RowKit

theorem vectorEvents_done (w : World) (ao : Option Addr) (ca : Nat) (a : List En) (fa : Fits a) (hA : EnsAt w ao a) (s : ByteArray) (hs : s.size ≤ maxLen) (t : ByteArray) (ht : t.size ≤ maxLen) :
    Calls Try.prog 6 #[.slice ao a.length ca, .string s, .string t] w fun e w' => e = .returned (.bool true) ∧ Keep0 w w' := vectorEvents_law vecCode w ao ca a fa hA s hs t ht
end Go.Proofs.Ytkfilkbmdnneoaa
