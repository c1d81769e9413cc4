/-
  The law PairsTakes (what is read of a text are the pairs that the document reads) over the landed package pairs.
  Conditions: none beyond that its arguments are values of their types.
-/
import Derived.Test.YtmcinehbhgaiaaaTakes14
import Derived.Test.YtmcinehbhgaiaaaPrE
namespace Go.Proofs.Ytmcinehbhgaiaaa
open Go.RowKit

theorem pairsTakes_done (w : World) (s : ByteArray) (hs : s.size ≤ maxLen) (n : Int) (hn : (Lit.int .u8 n).wf = true) :
    Calls Try.prog 4 #[.string s, .int .u8 n] w fun e w' => e = .returned (.bool true) ∧ Keep0 w w' := pairsTakes_law pairCode w s hs n hn
end Go.Proofs.Ytmcinehbhgaiaaa
