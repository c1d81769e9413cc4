/-
  The law ObjectSorts (Sorts) over the landed package object.
  Conditions: none beyond that its arguments are values of their types.
-/
import Derived.WalkKit
import Derived.ProofKit
import Derived.Below
import Derived.Deep.Draws
import Derived.Deep.RegionHeld
import Derived.Test.YteonkfedgopdiaaGreatChecked
import Derived.OpenShut
import Derived.ShutString
import Derived.WalkSpells
import Derived.WalkLawsBesides
import Derived.Deep.QuietTactic
import Derived.BigQuiet
import Derived.Laws.Bits64b
import Derived.PlainAid
import Derived.Lib.AppendStr
import Derived.Deep.AppendLies
import Derived.Laws.IdiomStrings
import Derived.Laws.BytesArg
import Derived.Deep.RegionWith
import Derived.Laws.AppendOwn
import Derived.Deep.DeepAppendWide
import Derived.Deep.Upon
import Derived.Maps.AppendAt
import Derived.Laws.Rows
import Derived.Deep.Slices
import Derived.Deep.CutRange
import Derived.Deep.RegionLaw
import Derived.RunT
import Derived.Calls
import Derived.Shelf.SlSortCmp.WholeK
import Derived.Test.YteonkfedgopdiaaGreatY44
import Derived.Test.YteonkfedgopdiaaGreatY50
namespace Go.Proofs.YteonkfedgopdiaaGreat
open Go.RowKit

theorem objectSorts_done (w : World) (key : ByteArray) (hk : key.size ≤ maxLen) (ao : Option Addr) (cap : Nat) (l : List Sb) (hl : l.length ≤ maxLen) (hcp : l.length ≤ cap ∧ cap ≤ maxLen) (hf : ∀ x ∈ l, FitsS x) (hc : SibsAt w ao l) (tn : Int) (htn : (Lit.int .u8 tn).wf = true) (mx : Int) (hmx : (Lit.int .i64 mx).wf = true) :
    Calls Tryz.prog 5 #[.string key, .slice ao l.length cap, .int .u8 tn, .int .i64 mx] w fun e w' => e = .returned (.bool true) ∧ Keep0 w w' := objectSorts_law obCode w key hk ao cap l hl hcp hf hc tn htn mx hmx
end Go.Proofs.YteonkfedgopdiaaGreat
