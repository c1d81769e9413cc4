/-
  The law ObjectEncodes (Encodes) over the landed package object.
  Conditions: none beyond that its arguments are values of their types.
-/
import Derived.WalkKit
import Derived.ProofKit
import Derived.Below
import Derived.Deep.Draws
import Derived.Deep.RegionHeld
import Derived.Test.YteonkfedgopdiaaGreatChecked
import Derived.OpenShut
import Derived.ShutString
import Derived.WalkSpells
import Derived.WalkLawsBesides
import Derived.Deep.QuietTactic
import Derived.BigQuiet
import Derived.Laws.Bits64b
import Derived.PlainAid
import Derived.Lib.AppendStr
import Derived.Deep.AppendLies
import Derived.Laws.IdiomStrings
import Derived.Laws.BytesArg
import Derived.Deep.RegionWith
import Derived.Laws.AppendOwn
import Derived.Deep.DeepAppendWide
import Derived.Deep.Upon
import Derived.Maps.AppendAt
import Derived.Laws.Rows
import Derived.Deep.Slices
import Derived.Deep.CutRange
import Derived.Deep.RegionLaw
import Derived.RunT
import Derived.Calls
import Derived.Shelf.SlSortCmp.WholeK
import Derived.Test.YteonkfedgopdiaaGreatZ27
import Derived.Test.YteonkfedgopdiaaGreatZ47
namespace Go.Proofs.YteonkfedgopdiaaGreat
open Go.RowKit

theorem objectEncodes_done (w : World) (ao : Option Addr) (cap : Nat) (x : Ob) (fx : FitsO x) (cx : x.l.length ≤ cap ∧ cap ≤ maxLen) (hA : SibsAt w ao x.l) (ao' : Option Addr) (cap' : Nat) (y : Ob) (fy : FitsO y) (cy : y.l.length ≤ cap' ∧ cap' ≤ maxLen) (hB : SibsAt w ao' y.l) :
    Calls Tryz.prog 3 #[.agg #[.string x.key, .slice ao x.l.length cap], .agg #[.string y.key, .slice ao' y.l.length cap']] w fun e w' => e = .returned (.bool true) ∧ Keep0 w w' := objectEncodes_law obCode w ao cap x fx cx hA ao' cap' y fy cy hB
end Go.Proofs.YteonkfedgopdiaaGreat
