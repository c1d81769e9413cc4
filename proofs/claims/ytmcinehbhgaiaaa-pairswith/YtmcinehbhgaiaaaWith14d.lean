/-
  The law PairsWith (others put in their places are what the document puts, and what is asked by name) over the landed package pairs.
  Conditions: none beyond that its arguments are values of their types.
-/
import Derived.Test.YtmcinehbhgaiaaaWith14
import Derived.Test.YtmcinehbhgaiaaaPrE
namespace Go.Proofs.Ytmcinehbhgaiaaa
open Go.RowKit

theorem pairsWith_done (w : World) (ao : Option Addr) (ca : Nat) (l : List Pr) (fl : FitsP l) (cl : CapP l ca) (hA : PrsAt w ao l) (bo : Option Addr) (cb : Nat) (more : List Pr) (fm : FitsP more) (cm : CapP more cb) (hB : PrsAt w bo more) (s : ByteArray) (hs : s.size ≤ maxLen) :
    Calls Try.prog 5 #[.slice ao l.length ca, .slice bo more.length cb, .string s] w fun e w' => e = .returned (.bool true) ∧ Keep0 w w' := pairsWith_law pairCode w ao ca l fl cl hA bo cb more fm cm hB s hs
end Go.Proofs.Ytmcinehbhgaiaaa
