/-
  The law SiblingGreat (great values) over the landed package sibling.
  Conditions: none beyond that its arguments are values of their types.
-/
import Derived.WalkKit
import Derived.ProofKit
import Derived.Below
import Derived.Deep.Draws
import Derived.Deep.RegionHeld
import Derived.Test.YtfpahdnhnhkcdaaChecked
import Derived.OpenShut
import Derived.ShutString
import Derived.WalkSpells
import Derived.WalkLawsBesides
import Derived.Deep.QuietTactic
import Derived.BigQuiet
import Derived.Laws.Bits64b
import Derived.PlainAid
import Derived.Lib.AppendStr
import Derived.Deep.AppendLies
import Derived.Laws.IdiomStrings
import Derived.Laws.BytesArg
import Derived.Deep.RegionWith
import Derived.Laws.AppendOwn
import Derived.Deep.DeepAppendWide
import Derived.Deep.Upon
import Derived.Laws.Rows
import Derived.Deep.Slices
import Derived.Lib.ConvBytes
import Derived.Deep.OwnRows
import Derived.Test.YtfpahdnhnhkcdaaZ47
import Derived.Test.YtfpahdnhnhkcdaaZ43
namespace Go.Proofs.Ytfpahdnhnhkcdaa
open Go.RowKit

theorem siblingGreat_done (w : World) (b : Int) (wb : (Lit.int .u8 b).wf = true) (less : Int) (wl : (Lit.int .u8 less).wf = true) (more : Int) (wm : (Lit.int .u8 more).wf = true) :
    Calls Try.prog 6 #[.int .u8 b, .int .u8 less, .int .u8 more] w fun e w' => e = .returned (.bool true) ∧ Keep0 w w' := siblingGreat_law sibCode w b wb less wl more wm
end Go.Proofs.Ytfpahdnhnhkcdaa
