/-
  The law SiblingCuts (Cut) over the landed package sibling.
  Conditions: none beyond that its arguments are values of their types.
-/
import Derived.WalkKit
import Derived.ProofKit
import Derived.Below
import Derived.Deep.Draws
import Derived.Deep.RegionHeld
import Derived.Test.YtfpahdnhnhkcdaaChecked
import Derived.OpenShut
import Derived.ShutString
import Derived.WalkSpells
import Derived.WalkLawsBesides
import Derived.Deep.QuietTactic
import Derived.BigQuiet
import Derived.Laws.Bits64b
import Derived.PlainAid
import Derived.Lib.AppendStr
import Derived.Deep.AppendLies
import Derived.Laws.IdiomStrings
import Derived.Laws.BytesArg
import Derived.Deep.RegionWith
import Derived.Laws.AppendOwn
import Derived.Deep.DeepAppendWide
import Derived.Deep.Upon
import Derived.Laws.Rows
import Derived.Deep.Slices
import Derived.Test.YtfpahdnhnhkcdaaZ48
import Derived.Test.YtfpahdnhnhkcdaaZ43
namespace Go.Proofs.Ytfpahdnhnhkcdaa
open Go.RowKit

theorem siblingCuts_done (w : World) (vo : Option Addr) (vc : Nat) (po : Option Addr) (pc : Nat) (x : Sb) (fx : FitsS x) (hA : SibIn w vo po pc x) (t : ByteArray) (ht : t.size ≤ maxLen) :
    Calls Try.prog 7 #[.agg #[.slice vo x.k.c.length vc, .bool x.k.d, .string x.k.x.a, .int .u64 (x.k.x.n : Int), .slice po x.m.length pc, .bool x.d, .string x.v], .string t] w fun e w' => e = .returned (.bool true) ∧ Keep0 w w' := siblingCuts_law sibCode w vo vc po pc x fx hA t ht
end Go.Proofs.Ytfpahdnhnhkcdaa
