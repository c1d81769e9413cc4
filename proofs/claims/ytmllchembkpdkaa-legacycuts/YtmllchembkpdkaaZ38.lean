/-
  What this seat's claims lean on of the texts Beside.
  Conditions: as each theorem states.
-/
import Derived.WalkKit
import Derived.ProofKit
import Derived.Below
import Derived.Deep.Draws
import Derived.Deep.RegionHeld
import Derived.Test.YtmllchembkpdkaaChecked
import Derived.OpenShut
import Derived.ShutString
import Derived.WalkSpells
import Derived.WalkLawsBesides
import Derived.Deep.QuietTactic
import Derived.BigQuiet
import Derived.Laws.Bits64b
import Derived.PlainAid
import Derived.Lib.AppendStr
import Derived.Deep.AppendLies
import Derived.Laws.IdiomStrings
import Derived.Laws.BytesArg
import Derived.Deep.RegionWith
import Derived.Laws.AppendOwn
import Derived.Deep.DeepAppendWide
import Derived.Deep.Upon
import Derived.Maps.AppendAt
import Derived.Laws.Rows
import Derived.Deep.Slices
import Derived.Test.YtmllchembkpdkaaZ35
import Derived.Test.YtmllchembkpdkaaZ16
namespace Go.Proofs.Ytmllchembkpdkaa
open Go.RowKit
theorem DAt.idx {w : World} {g : Nat} {v0 v1 : Value} (h : DAt w g v0 v1) {o : Nat} {u : Value} (hc : w.cell? ⟨g, o, none⟩ = some u) : (o = 0 ∧ u = v0) ∨ (o = 1 ∧ u = v1) := by
  obtain ⟨ty, hk⟩ := h.blk
  match o, hc with
  | 0, hc => simp [World.cell?, hk] at hc; exact .inl ⟨rfl, hc.symm⟩
  | 1, hc => simp [World.cell?, hk] at hc; exact .inr ⟨rfl, hc.symm⟩
  | o + 2, hc => simp [World.cell?, hk] at hc
theorem ens_beside {w w' : World} {g : Nat} {a : ByteArray} {b : Option Addr} {n c : Nat} (hd : DAt w g (.string a) (.slice b n c)) (K : Keep1 g w w') {ao : Option Addr} {l : List En} (h : EnsAt w ao l) : EnsAt w' ao l := by
  intro i hi
  obtain ⟨bb, off, e, h1, h2⟩ := h i hi
  have hb : ¬ bb = g := by
    intro e2
    subst e2
    rcases hd.idx h2 with ⟨_, e3⟩ | ⟨_, e3⟩
    · cases e3
    · cases e3
  exact ⟨bb, off, e, K.cell h1 hb, K.cell h2 hb⟩
end Go.Proofs.Ytmllchembkpdkaa
