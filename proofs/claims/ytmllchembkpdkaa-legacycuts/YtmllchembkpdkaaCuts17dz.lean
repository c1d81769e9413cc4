/-
  The law LegacyCuts (Cuts) over the landed package legacy.
  Conditions: none beyond that its arguments are values of their types.
-/
import Derived.WalkKit
import Derived.ProofKit
import Derived.Below
import Derived.Deep.Draws
import Derived.Deep.RegionHeld
import Derived.Test.YtmllchembkpdkaaChecked
import Derived.OpenShut
import Derived.ShutString
import Derived.WalkSpells
import Derived.WalkLawsBesides
import Derived.Deep.QuietTactic
import Derived.BigQuiet
import Derived.Laws.Bits64b
import Derived.PlainAid
import Derived.Lib.AppendStr
import Derived.Deep.AppendLies
import Derived.Laws.IdiomStrings
import Derived.Laws.BytesArg
import Derived.Deep.RegionWith
import Derived.Laws.AppendOwn
import Derived.Deep.DeepAppendWide
import Derived.Deep.Upon
import Derived.Maps.AppendAt
import Derived.Deep.Slices
import Derived.Laws.Rows
import Derived.Test.YtmllchembkpdkaaZ42
import Derived.Test.YtmllchembkpdkaaZ48
namespace Go.Proofs.Ytmllchembkpdkaa
open Go.RowKit

theorem legacyCuts_done (w : World) (key : ByteArray) (hk : key.size ≤ maxLen) (ao : Option Addr) (cap : Nat) (L : List Po) (hl : L.length ≤ maxLen) (hf : ∀ p ∈ L, FitsOs p.x) (hA : PosAt w ao L) (t : ByteArray) (ht : t.size ≤ maxLen) :
    Calls Try.prog 6 #[.agg #[.string key, .slice ao L.length cap], .string t] w fun e w' => e = .returned (.bool true) ∧ Keep0 w w' := legacyCuts_law olCode w key hk ao cap L hl hf hA t ht
end Go.Proofs.Ytmllchembkpdkaa
