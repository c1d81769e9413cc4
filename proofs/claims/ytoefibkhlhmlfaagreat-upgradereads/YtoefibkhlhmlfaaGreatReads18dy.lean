/-
  The law UpgradeReads (Reads) over the landed package upgrade.
  Conditions: none beyond that its arguments are values of their types.
-/
import Derived.WalkKit
import Derived.ProofKit
import Derived.Below
import Derived.Deep.Draws
import Derived.Deep.RegionHeld
import Derived.Test.YtoefibkhlhmlfaaGreatChecked
import Derived.OpenShut
import Derived.ShutString
import Derived.WalkSpells
import Derived.WalkLawsBesides
import Derived.Deep.QuietTactic
import Derived.BigQuiet
import Derived.Laws.Bits64b
import Derived.PlainAid
import Derived.Lib.AppendStr
import Derived.Deep.AppendLies
import Derived.Laws.IdiomStrings
import Derived.Laws.BytesArg
import Derived.Deep.RegionWith
import Derived.Laws.AppendOwn
import Derived.Deep.DeepAppendWide
import Derived.Deep.Upon
import Derived.Maps.AppendAt
import Derived.Deep.Slices
import Derived.Laws.Rows
import Derived.Deep.CutRange
import Derived.Deep.RegionLaw
import Derived.RunT
import Derived.Calls
import Derived.Shelf.SlSortCmp.WholeK
import Derived.Test.YtoefibkhlhmlfaaGreatY42
import Derived.Test.YtoefibkhlhmlfaaGreatY48
namespace Go.Proofs.YtoefibkhlhmlfaaGreat
open Go.RowKit

theorem upgradeReads_done (w : World) (v : Int) (hv : (Lit.int .u8 v).wf = true) (s : ByteArray) (hs : s.size ≤ maxLen) :
    Calls Tryz.prog 5 #[.int .u8 v, .string s] w fun e w' => e = .returned (.bool true) ∧ Keep0 w w' := upgradeReads_law upR w v hv s hs
end Go.Proofs.YtoefibkhlhmlfaaGreat
