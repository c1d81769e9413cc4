/-
  The law VectorTells (whether two lists are right, what they know of an actor, whether they are the same, and which descends from which) over the landed package vector.
  Conditions: none beyond that its arguments are values of their types.
-/
import Derived.Test.YtkfilkbmdnneoaaTells10
import Derived.Test.YtkfilkbmdnneoaaVecE
namespace Go.Proofs.Ytkfilkbmdnneoaa
open Go.RowKit

theorem vectorTells_done (w : World) (ao : Option Addr) (ca : Nat) (a : List En) (fa : Fits a) (hA : EnsAt w ao a) (bo : Option Addr) (cb : Nat) (b : List En) (fb : Fits b) (hB : EnsAt w bo b) (s : ByteArray) (hs : s.size ≤ maxLen) :
    Calls Try.prog 3 #[.slice ao a.length ca, .slice bo b.length cb, .string s] w fun e w' => e = .returned (.bool true) ∧ Keep0 w w' := vectorTells_law vecCode w ao bo ca cb a b fa fb hA hB s hs
end Go.Proofs.Ytkfilkbmdnneoaa
