/-
  What this seat's claims lean on of the texts PlMem.
  Conditions: as each theorem states.
-/
import Derived.WalkKit
import Derived.ProofKit
import Derived.Below
import Derived.Deep.Draws
import Derived.Deep.RegionHeld
import Derived.Test.YtmllchembkpdkaaChecked
import Derived.OpenShut
import Derived.ShutString
import Derived.WalkSpells
import Derived.WalkLawsBesides
import Derived.Deep.QuietTactic
import Derived.BigQuiet
import Derived.Laws.Bits64b
import Derived.PlainAid
import Derived.Lib.AppendStr
import Derived.Deep.AppendLies
import Derived.Laws.IdiomStrings
import Derived.Laws.BytesArg
import Derived.Deep.RegionWith
import Derived.Laws.AppendOwn
import Derived.Deep.DeepAppendWide
import Derived.Deep.Upon
import Derived.Maps.AppendAt
import Derived.Laws.Rows
import Derived.Deep.Slices
import Derived.Test.YtmllchembkpdkaaZ14
import Derived.Test.YtmllchembkpdkaaZ31
import Derived.Test.YtmllchembkpdkaaZ3
namespace Go.Proofs.Ytmllchembkpdkaa
open Go.RowKit
structure Pl where
  x : Sb
  vo : Option Addr
  vc : Nat
  po : Option Addr
  pc : Nat
instance : Inhabited Pl := ⟨⟨zSb, none, 0, none, 0⟩⟩
def Pl.cells (p : Pl) : List Value := [.slice p.vo p.x.k.c.length p.vc, .bool p.x.k.d, .string p.x.k.x.a, .int .u64 (p.x.k.x.n : Int), .slice p.po p.x.m.length p.pc, .bool p.x.d, .string p.x.v]
def Pl.in (w : World) (p : Pl) : Prop := SibIn w p.vo p.po p.pc p.x
structure PlsAt (w : World) (ao : Option Addr) (L : List Pl) : Prop where
  row : RowAt Pl.cells 7 w ao L
  ins : ∀ p ∈ L, p.in w
theorem PlsAt.keep0 {w w' : World} {ao : Option Addr} {L : List Pl} (h : PlsAt w ao L) (K : Keep0 w w') : PlsAt w' ao L := ⟨h.row.keep0 K, fun p hp => SibIn.keep0 (h.ins p hp) K⟩
theorem PlsAt.nil (w : World) (ao : Option Addr) : PlsAt w ao [] := ⟨rowAt_nil _ _, (fun _ h => by cases h)⟩
theorem PlsAt.at_ {w : World} {ao : Option Addr} {L : List Pl} (h : PlsAt w ao L) (i : Nat) (hi : i < L.length) : ∃ b off, ao = some ⟨b, off, none⟩ ∧ SibAt w b (off + i * 7) L[i].x L[i].vo L[i].vc L[i].po L[i].pc ∧ SibIn w L[i].vo L[i].po L[i].pc L[i].x := by
  obtain ⟨b, off, e, h1⟩ := h.row i hi
  exact ⟨b, off, e, ⟨h1 0 _ rfl, h1 1 _ rfl, h1 2 _ rfl, h1 3 _ rfl, h1 4 _ rfl, h1 5 _ rfl, h1 6 _ rfl⟩, h.ins _ (List.getElem_mem hi)⟩
end Go.Proofs.Ytmllchembkpdkaa
