/-
  The law SiblingTakes (Take) over the landed package sibling.
  Conditions: none beyond that its arguments are values of their types.
-/
import Derived.WalkKit
import Derived.ProofKit
import Derived.Below
import Derived.Deep.Draws
import Derived.Deep.RegionHeld
import Derived.Test.YtfpahdnhnhkcdaaChecked
import Derived.OpenShut
import Derived.ShutString
import Derived.WalkSpells
import Derived.WalkLawsBesides
import Derived.Deep.QuietTactic
import Derived.BigQuiet
import Derived.Laws.Bits64b
import Derived.PlainAid
import Derived.Lib.AppendStr
import Derived.Deep.AppendLies
import Derived.Laws.IdiomStrings
import Derived.Laws.BytesArg
import Derived.Deep.RegionWith
import Derived.Laws.AppendOwn
import Derived.Deep.DeepAppendWide
import Derived.Deep.Upon
import Derived.Laws.Rows
import Derived.Deep.Slices
import Derived.Test.YtfpahdnhnhkcdaaZ45
import Derived.Test.YtfpahdnhnhkcdaaZ43
namespace Go.Proofs.Ytfpahdnhnhkcdaa
open Go.RowKit

theorem siblingTakes_done (w : World) (s : ByteArray) (hs : s.size ≤ maxLen) (mx : Int) (hmx : (Lit.int .i64 mx).wf = true) (ao : Option Addr) (cap : Nat) (l : List Sb) (hl : l.length ≤ maxLen) (hf : ∀ k ∈ l, FitsS k) (hc : SibsAt w ao l) :
    Calls Try.prog 5 #[.string s, .int .i64 mx, .slice ao l.length cap] w fun e w' => e = .returned (.bool true) ∧ Keep0 w w' := siblingTakes_law sibCode w s hs mx hmx ao cap l hl hf hc
end Go.Proofs.Ytfpahdnhnhkcdaa
