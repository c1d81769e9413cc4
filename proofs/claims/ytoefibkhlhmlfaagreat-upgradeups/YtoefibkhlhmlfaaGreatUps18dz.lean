/-
  The law UpgradeUps (Ups) over the landed package upgrade.
  Conditions: none beyond that its arguments are values of their types.
-/
import Derived.WalkKit
import Derived.ProofKit
import Derived.Below
import Derived.Deep.Draws
import Derived.Deep.RegionHeld
import Derived.Test.YtoefibkhlhmlfaaGreatChecked
import Derived.OpenShut
import Derived.ShutString
import Derived.WalkSpells
import Derived.WalkLawsBesides
import Derived.Deep.QuietTactic
import Derived.BigQuiet
import Derived.Laws.Bits64b
import Derived.PlainAid
import Derived.Lib.AppendStr
import Derived.Deep.AppendLies
import Derived.Laws.IdiomStrings
import Derived.Laws.BytesArg
import Derived.Deep.RegionWith
import Derived.Laws.AppendOwn
import Derived.Deep.DeepAppendWide
import Derived.Deep.Upon
import Derived.Maps.AppendAt
import Derived.Deep.Slices
import Derived.Laws.Rows
import Derived.Deep.CutRange
import Derived.Deep.RegionLaw
import Derived.RunT
import Derived.Calls
import Derived.Shelf.SlSortCmp.WholeK
import Derived.Test.YtoefibkhlhmlfaaGreatZ40
import Derived.Test.YtoefibkhlhmlfaaGreatZ48
namespace Go.Proofs.YtoefibkhlhmlfaaGreat
open Go.RowKit

theorem upgradeUps_done (w : World) (key : ByteArray) (ao : Option Addr) (cap : Nat) (L : List Po) (hk : key.size ≤ maxLen) (hl : L.length ≤ maxLen) (hcp : L.length ≤ cap ∧ cap ≤ maxLen) (hf : ∀ p ∈ L, FitsOs p.x) (hA : PosAt w ao L) (bo : Option Addr) (cb : Nat) (q : Ob) (fq : FitsO q) (cq : q.l.length ≤ cb ∧ cb ≤ maxLen) (hB : SibsAt w bo q.l) :
    Calls Tryz.prog 3 #[.agg #[.string key, .slice ao L.length cap], .agg #[.string q.key, .slice bo q.l.length cb]] w fun e w' => e = .returned (.bool true) ∧ Keep0 w w' := upgradeUps_law upCode w key ao cap L hk hl hcp hf hA bo cb q fq cq hB
end Go.Proofs.YtoefibkhlhmlfaaGreat
