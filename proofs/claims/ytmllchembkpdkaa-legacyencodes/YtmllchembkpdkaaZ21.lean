/-
  What this seat's claims lean on of the texts RefVec4.
  Conditions: as each theorem states.
-/
import Derived.WalkKit
import Derived.ProofKit
import Derived.Below
import Derived.Deep.Draws
import Derived.Deep.RegionHeld
import Derived.Test.YtmllchembkpdkaaChecked
import Derived.OpenShut
import Derived.ShutString
import Derived.WalkSpells
import Derived.WalkLawsBesides
import Derived.Deep.QuietTactic
import Derived.BigQuiet
import Derived.Laws.Bits64b
import Derived.PlainAid
import Derived.Lib.AppendStr
import Derived.Deep.AppendLies
import Derived.Laws.IdiomStrings
import Derived.Laws.BytesArg
import Derived.Deep.RegionWith
import Derived.Laws.AppendOwn
import Derived.Deep.DeepAppendWide
import Derived.Deep.Upon
import Derived.Test.YtmllchembkpdkaaZ19
namespace Go.Proofs.Ytmllchembkpdkaa
open Go.RowKit
def REnsE (p : List En × Int) (w : World) (e : Ending) (w' : World) : Prop := ∃ ao cap, e = .returned (.tuple #[.slice ao p.1.length cap, .int .i64 p.2]) ∧ EnsAt w' ao p.1 ∧ (∀ g off m, ao = some ⟨g, off, m⟩ → w.heap.size ≤ g) ∧ Keep0 w w'
theorem REnsE.mk {p : List En × Int} {w w' : World} {e : Ending} {ao : Option Addr} {cap : Nat} (h : e = .returned (.tuple #[.slice ao p.1.length cap, .int .i64 p.2])) (h1 : EnsAt w' ao p.1) (h2 : ∀ g off m, ao = some ⟨g, off, m⟩ → w.heap.size ≤ g) (h3 : Keep0 w w') : REnsE p w e w' := ⟨ao, cap, h, h1, h2, h3⟩
theorem REnsE.bare {p : List En × Int} {w w' : World} {e : Ending} {E : Int} (hp : p = ([], E)) (h : e = .returned (.tuple #[.slice none 0 0, .int .i64 E])) (h3 : Keep0 w w') : REnsE p w e w' := by
  subst hp
  exact ⟨none, 0, h, ens_nil _ _, (fun _ _ _ e => by cases e), h3⟩
def VecsAt (w : World) (ao : Option Addr) (ls : List (List En)) : Prop := ∀ i (_ : i < ls.length), ∃ b off bo c, ao = some ⟨b, off, none⟩ ∧ w.cell? ⟨b, off + i, none⟩ = some (.slice bo ls[i].length c) ∧ EnsAt w bo ls[i]
theorem VecsAt.keep0 {w w' : World} {ao : Option Addr} {ls : List (List En)} (h : VecsAt w ao ls) (K : Keep0 w w') : VecsAt w' ao ls := by
  intro i hi
  obtain ⟨b, off, bo, c, e, h1, h2⟩ := h i hi
  exact ⟨b, off, bo, c, e, K.cell h1 (fun f => f), h2.keep0 K⟩
end Go.Proofs.Ytmllchembkpdkaa
