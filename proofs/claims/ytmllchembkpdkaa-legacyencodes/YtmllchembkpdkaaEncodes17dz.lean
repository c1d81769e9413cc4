/-
  The law LegacyEncodes (Encodes) over the landed package legacy.
  Conditions: none beyond that its arguments are values of their types.
-/
import Derived.WalkKit
import Derived.ProofKit
import Derived.Below
import Derived.Deep.Draws
import Derived.Deep.RegionHeld
import Derived.Test.YtmllchembkpdkaaChecked
import Derived.OpenShut
import Derived.ShutString
import Derived.WalkSpells
import Derived.WalkLawsBesides
import Derived.Deep.QuietTactic
import Derived.BigQuiet
import Derived.Laws.Bits64b
import Derived.PlainAid
import Derived.Lib.AppendStr
import Derived.Deep.AppendLies
import Derived.Laws.IdiomStrings
import Derived.Laws.BytesArg
import Derived.Deep.RegionWith
import Derived.Laws.AppendOwn
import Derived.Deep.DeepAppendWide
import Derived.Deep.Upon
import Derived.Maps.AppendAt
import Derived.Deep.Slices
import Derived.Laws.Rows
import Derived.Test.YtmllchembkpdkaaZ41
import Derived.Test.YtmllchembkpdkaaZ48
namespace Go.Proofs.Ytmllchembkpdkaa
open Go.RowKit

theorem legacyEncodes_done (w : World) (key : ByteArray) (ao : Option Addr) (cap : Nat) (L : List Po) (hk : key.size ≤ maxLen) (hl : L.length ≤ maxLen) (hcp : L.length ≤ cap ∧ cap ≤ maxLen) (hf : ∀ p ∈ L, FitsOs p.x) (hA : PosAt w ao L) (key' : ByteArray) (ao' : Option Addr) (cap' : Nat) (L' : List Po) (hk' : key'.size ≤ maxLen) (hl' : L'.length ≤ maxLen) (hcp' : L'.length ≤ cap' ∧ cap' ≤ maxLen) (hf' : ∀ p ∈ L', FitsOs p.x) (hB : PosAt w ao' L') :
    Calls Try.prog 3 #[.agg #[.string key, .slice ao L.length cap], .agg #[.string key', .slice ao' L'.length cap']] w fun e w' => e = .returned (.bool true) ∧ Keep0 w w' := legacyEncodes_law olCode w key ao cap L hk hl hcp hf hA key' ao' cap' L' hk' hl' hcp' hf' hB
end Go.Proofs.Ytmllchembkpdkaa
