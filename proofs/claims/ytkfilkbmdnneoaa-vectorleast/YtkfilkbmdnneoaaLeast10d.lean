/-
  The law VectorLeast (what is joined is the least that descends from each) over the landed package vector.
  Conditions: none beyond that its arguments are values of their types.
-/
import Derived.Test.YtkfilkbmdnneoaaLeast10
import Derived.Test.YtkfilkbmdnneoaaVecE
namespace Go.Proofs.Ytkfilkbmdnneoaa
open Go.RowKit

theorem vectorLeast_done (w : World) (ao : Option Addr) (ca : Nat) (a : List En) (fa : Fits a) (hA : EnsAt w ao a) (bo : Option Addr) (cb : Nat) (b : List En) (fb : Fits b) (hB : EnsAt w bo b) (co : Option Addr) (cc : Nat) (c : List En) (fc : Fits c) (hC : EnsAt w co c) :
    Calls Try.prog 5 #[.slice ao a.length ca, .slice bo b.length cb, .slice co c.length cc] w fun e w' => e = .returned (.bool true) ∧ Keep0 w w' := vectorLeast_law vecCode w ao bo co ca cb cc a b c fa fb fc hA hB hC
end Go.Proofs.Ytkfilkbmdnneoaa
