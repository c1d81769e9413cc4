/-
  The law PairsPuts (what is written of pairs is what the document writes) over the landed package pairs.
  Conditions: none beyond that its arguments are values of their types.
-/
import Derived.Test.YtmcinehbhgaiaaaPuts14
import Derived.Test.YtmcinehbhgaiaaaPrE
namespace Go.Proofs.Ytmcinehbhgaiaaa
open Go.RowKit

theorem pairsPuts_done (w : World) (ao : Option Addr) (cap : Nat) (l : List Pr) (fl : FitsP l) (hcp : CapP l cap) (hA : PrsAt w ao l) (mx : Int) (hmx : (Lit.int .i64 mx).wf = true) :
    Calls Try.prog 3 #[.slice ao l.length cap, .int .i64 mx] w fun e w' => e = .returned (.bool true) ∧ Keep0 w w' := pairsPuts_law pairCode w ao cap l fl hcp hA mx hmx
end Go.Proofs.Ytmcinehbhgaiaaa
