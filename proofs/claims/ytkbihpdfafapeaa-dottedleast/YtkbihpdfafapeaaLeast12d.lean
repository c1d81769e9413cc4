/-
  The law DottedLeast (what is not kept is covered by one that is kept; of those that are none covers another one) over the landed package dotted.
  Conditions: none beyond that its arguments are values of their types.
-/
import Derived.Test.YtkbihpdfafapeaaLeast12
import Derived.Test.YtkbihpdfafapeaaDtE
namespace Go.Proofs.Ytkbihpdfafapeaa
open Go.RowKit

theorem dottedLeast_done (w : World) (ao : Option Addr) (cap : Nat) (l : List Ck) (hl : l.length ≤ maxLen) (hf : ∀ k ∈ l, FitsK k) (hc : ClksAt w ao l) :
    Calls Try.prog 5 #[.slice ao l.length cap] w fun e w' => e = .returned (.bool true) ∧ Keep0 w w' := dottedLeast_law dotCode w ao cap l hl hf hc
end Go.Proofs.Ytkbihpdfafapeaa
