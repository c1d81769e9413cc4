/-
  The law DottedTells (whether any two clocks are right, or the same, what they know, and which covers which, is as the document says) over the landed package dotted.
  Conditions: none beyond that its arguments are values of their types.
-/
import Derived.Test.YtkbihpdfafapeaaTells12
import Derived.Test.YtkbihpdfafapeaaDtE
namespace Go.Proofs.Ytkbihpdfafapeaa
open Go.RowKit

theorem dottedTells_done (w : World) (ao : Option Addr) (ca : Nat) (a : Ck) (fa : FitsK a) (hA : EnsAt w ao a.c) (bo : Option Addr) (cb : Nat) (b : Ck) (fb : FitsK b) (hB : EnsAt w bo b.c) (s : ByteArray) (hs : s.size ≤ maxLen) (n : Int) (hn : (Lit.int .u64 n).wf = true) :
    Calls Try.prog 3 #[.agg #[.slice ao a.c.length ca, .bool a.d, .string a.x.a, .int .u64 (a.x.n : Int)], .agg #[.slice bo b.c.length cb, .bool b.d, .string b.x.a, .int .u64 (b.x.n : Int)], .string s, .int .u64 n] w fun e w' => e = .returned (.bool true) ∧ Keep0 w w' := dottedTells_law dotCode w ao ca a fa hA bo cb b fb hB s hs n hn
end Go.Proofs.Ytkbihpdfafapeaa
