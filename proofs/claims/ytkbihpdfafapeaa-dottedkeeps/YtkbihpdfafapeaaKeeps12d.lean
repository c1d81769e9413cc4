/-
  The law DottedKeeps (the ceiling of any clocks, and which of them are kept, or why there is none, is as the document says) over the landed package dotted.
  Conditions: none beyond that its arguments are values of their types.
-/
import Derived.Test.YtkbihpdfafapeaaKeeps12
import Derived.Test.YtkbihpdfafapeaaDtE
namespace Go.Proofs.Ytkbihpdfafapeaa
open Go.RowKit

theorem dottedKeeps_done (w : World) (ao : Option Addr) (cap : Nat) (l : List Ck) (hl : l.length ≤ maxLen) (hf : ∀ k ∈ l, FitsK k) (hc : ClksAt w ao l) :
    Calls Try.prog 4 #[.slice ao l.length cap] w fun e w' => e = .returned (.bool true) ∧ Keep0 w w' := dottedKeeps_law dotCode w ao cap l hl hf hc
end Go.Proofs.Ytkbihpdfafapeaa
