/-
  What this seat's claims lean on of the texts DotMem, PairMem.
  Conditions: as each theorem states.
-/
import Derived.WalkKit
import Derived.ProofKit
import Derived.Below
import Derived.Deep.Draws
import Derived.Deep.RegionHeld
import Derived.Test.YtmllchembkpdkaaChecked
import Derived.OpenShut
import Derived.ShutString
import Derived.WalkSpells
import Derived.WalkLawsBesides
import Derived.Deep.QuietTactic
import Derived.BigQuiet
import Derived.Laws.Bits64b
import Derived.PlainAid
import Derived.Lib.AppendStr
import Derived.Deep.AppendLies
import Derived.Laws.IdiomStrings
import Derived.Laws.BytesArg
import Derived.Deep.RegionWith
import Derived.Laws.AppendOwn
import Derived.Deep.DeepAppendWide
import Derived.Deep.Upon
import Derived.Test.YtmllchembkpdkaaZ9
import Derived.Test.YtmllchembkpdkaaZ11
import Derived.Test.YtmllchembkpdkaaZ15
import Derived.Test.YtmllchembkpdkaaZ13
namespace Go.Proofs.Ytmllchembkpdkaa
open Go.RowKit
def Ck.cells (k : Ck) (ao : Option Addr) (cap : Nat) : List Value := [.slice ao k.c.length cap, .bool k.d, .string k.x.a, .int .u64 (k.x.n : Int)]
def ClkAt (w : World) (b off : Nat) (k : Ck) (ao : Option Addr) (cap : Nat) : Prop := w.cell? ⟨b, off, none⟩ = some (.slice ao k.c.length cap) ∧ w.cell? ⟨b, off + 1, none⟩ = some (.bool k.d) ∧ w.cell? ⟨b, off + 2, none⟩ = some (.string k.x.a) ∧ w.cell? ⟨b, off + 3, none⟩ = some (.int .u64 (k.x.n : Int))
theorem ClkAt.keep0 {w w' : World} {b off : Nat} {k : Ck} {ao : Option Addr} {cap : Nat} (h : ClkAt w b off k ao cap) (K : Keep0 w w') : ClkAt w' b off k ao cap :=
  ⟨K.cell h.1 (fun f => f), K.cell h.2.1 (fun f => f), K.cell h.2.2.1 (fun f => f), K.cell h.2.2.2 (fun f => f)⟩
def ClksAt (w : World) (ao : Option Addr) (l : List Ck) : Prop := ∀ i (_ : i < l.length), ∃ b off vo c, ao = some ⟨b, off, none⟩ ∧ ClkAt w b (off + i * 4) l[i] vo c ∧ EnsAt w vo l[i].c
theorem ClksAt.keep0 {w w' : World} {ao : Option Addr} {l : List Ck} (h : ClksAt w ao l) (K : Keep0 w w') : ClksAt w' ao l := by
  intro i hi
  obtain ⟨b, off, vo, c, e, h1, h2⟩ := h i hi
  exact ⟨b, off, vo, c, e, h1.keep0 K, h2.keep0 K⟩
end Go.Proofs.Ytmllchembkpdkaa
namespace Go.Proofs.Ytmllchembkpdkaa
open Go.RowKit
def Pr.cells (x : Pr) : List Value := [.string x.n, .string x.v]
def Pr.val (x : Pr) : Value := .agg #[.string x.n, .string x.v]
def PrsAt (w : World) (ao : Option Addr) (l : List Pr) : Prop := ∀ i (_ : i < l.length), ∃ b off, ao = some ⟨b, off, none⟩ ∧
  w.cell? ⟨b, off + i * 2, none⟩ = some (.string l[i].n) ∧ w.cell? ⟨b, off + i * 2 + 1, none⟩ = some (.string l[i].v)
theorem PrsAt.keep {R : Nat → Prop} {w w' : World} {ao : Option Addr} {l : List Pr} (h : PrsAt w ao l) (K : Keep R w w') (hn : ApartE R ao) : PrsAt w' ao l := by
  intro i hi
  obtain ⟨b, off, e, h1, h2⟩ := h i hi
  have hb := hn _ _ _ e
  exact ⟨b, off, e, K.cell h1 hb, K.cell h2 hb⟩
theorem PrsAt.keep0 {w w' : World} {ao : Option Addr} {l : List Pr} (h : PrsAt w ao l) (K : Keep0 w w') : PrsAt w' ao l := h.keep K (fun _ _ _ _ f => f)
end Go.Proofs.Ytmllchembkpdkaa
