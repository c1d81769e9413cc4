/-
  What this seat's claims lean on of the texts PlMem.
  Conditions: as each theorem states.
-/
import Derived.WalkKit
import Derived.ProofKit
import Derived.Below
import Derived.Deep.Draws
import Derived.Deep.RegionHeld
import Derived.Test.YteonkfedgopdiaaGreatChecked
import Derived.OpenShut
import Derived.ShutString
import Derived.WalkSpells
import Derived.WalkLawsBesides
import Derived.Deep.QuietTactic
import Derived.BigQuiet
import Derived.Laws.Bits64b
import Derived.PlainAid
import Derived.Lib.AppendStr
import Derived.Deep.AppendLies
import Derived.Laws.IdiomStrings
import Derived.Laws.BytesArg
import Derived.Deep.RegionWith
import Derived.Laws.AppendOwn
import Derived.Deep.DeepAppendWide
import Derived.Deep.Upon
import Derived.Maps.AppendAt
import Derived.Laws.Rows
import Derived.Deep.Slices
import Derived.Test.YteonkfedgopdiaaGreatY12
import Derived.Test.YteonkfedgopdiaaGreatY27
import Derived.Test.YteonkfedgopdiaaGreatY4
namespace Go.Proofs.YteonkfedgopdiaaGreat
open Go.RowKit
structure Pl where
  x : Sb
  vo : Option Addr
  vc : Nat
  po : Option Addr
  pc : Nat
instance : Inhabited Pl := ⟨⟨zSb, none, 0, none, 0⟩⟩
def Pl.cells (p : Pl) : List Value := [.slice p.vo p.x.k.c.length p.vc, .bool p.x.k.d, .string p.x.k.x.a, .int .u64 (p.x.k.x.n : Int), .slice p.po p.x.m.length p.pc, .bool p.x.d, .string p.x.v]
def Pl.in (w : World) (p : Pl) : Prop := SibIn w p.vo p.po p.pc p.x
theorem pl_one (p : Pl) : ∀ u ∈ p.cells, u.oneCell' = true := by
  intro u hu
  simp only [Pl.cells, List.mem_cons, List.mem_nil_iff, or_false] at hu
  rcases hu with rfl | rfl | rfl | rfl | rfl | rfl | rfl <;> rfl
theorem sib_info : (Tryz.prog.info? 44).map (fun i => (i.zero, i.size, i.bytes)) = some (some (.agg #[.slice none 0 0, .bool false, .string ⟨#[]⟩, .int .u64 0, .slice none 0 0, .bool false, .string ⟨#[]⟩]), 7, 104) := by kernel_rfl
theorem plT : ElemT Pl.cells 7 22 44 where
  len := fun _ => rfl
  pos := by decide
  one := pl_one
  slice := Tryz.underlying22
  info := by
    obtain ⟨i0, hi, z0, z1, z2⟩ := info_parts sib_info
    exact ⟨i0, _, 104, hi, z0, z1, z2, rfl, by decide⟩
structure PlsAt (w : World) (ao : Option Addr) (L : List Pl) : Prop where
  row : RowAt Pl.cells 7 w ao L
  ins : ∀ p ∈ L, p.in w
theorem PlsAt.keep0 {w w' : World} {ao : Option Addr} {L : List Pl} (h : PlsAt w ao L) (K : Keep0 w w') : PlsAt w' ao L := ⟨h.row.keep0 K, fun p hp => SibIn.keep0 (h.ins p hp) K⟩
theorem PlsAt.nil (w : World) (ao : Option Addr) : PlsAt w ao [] := ⟨rowAt_nil _ _, (fun _ h => by cases h)⟩
theorem PlsAt.at_ {w : World} {ao : Option Addr} {L : List Pl} (h : PlsAt w ao L) (i : Nat) (hi : i < L.length) : ∃ b off, ao = some ⟨b, off, none⟩ ∧ SibAt w b (off + i * 7) L[i].x L[i].vo L[i].vc L[i].po L[i].pc ∧ SibIn w L[i].vo L[i].po L[i].pc L[i].x := by
  obtain ⟨b, off, e, h1⟩ := h.row i hi
  exact ⟨b, off, e, ⟨h1 0 _ rfl, h1 1 _ rfl, h1 2 _ rfl, h1 3 _ rfl, h1 4 _ rfl, h1 5 _ rfl, h1 6 _ rfl⟩, h.ins _ (List.getElem_mem hi)⟩
theorem PlsAt.sibs {w : World} {ao : Option Addr} {L : List Pl} (h : PlsAt w ao L) : SibsAt w ao (L.map Pl.x) := by
  intro i hi
  have hi' : i < L.length := by simpa using hi
  obtain ⟨b, off, e, h1, h2⟩ := h.at_ i hi'
  rw [List.getElem_map]
  exact ⟨b, off, L[i].vo, L[i].vc, L[i].po, L[i].pc, e, h1, h2⟩
theorem sibs_pls {w : World} {ao : Option Addr} {l : List Sb} (h : SibsAt w ao l) : ∃ L : List Pl, L.map Pl.x = l ∧ PlsAt w ao L := by
  have each : ∀ i, i < l.length → ∃ p : Pl, l[i]? = some p.x ∧ ∃ b off, ao = some ⟨b, off, none⟩ ∧ SibAt w b (off + i * 7) p.x p.vo p.vc p.po p.pc ∧ SibIn w p.vo p.po p.pc p.x := by
    intro i hi
    obtain ⟨b, off, vo, vc, po, pc, e, h1, h2⟩ := h i hi
    exact ⟨⟨l[i], vo, vc, po, pc⟩, List.getElem?_eq_getElem hi, b, off, e, h1, h2⟩
  obtain ⟨q, hq⟩ := Go.Deep.choose_lt each
  have hL : ((List.range l.length).map q).length = l.length := by simp
  have hg : ∀ i (hi : i < ((List.range l.length).map q).length), ((List.range l.length).map q)[i] = q i := by
    intro i hi
    simp
  refine ⟨(List.range l.length).map q, ?_, ?_, ?_⟩
  · apply List.ext_getElem (by simp)
    intro i h1 h2
    have := (hq i h2).1
    rw [List.getElem?_eq_getElem h2] at this
    rw [List.getElem_map, hg]
    exact (Option.some.inj this).symm
  · intro i hi
    have hi' : i < l.length := by rw [hL] at hi; exact hi
    obtain ⟨_, b, off, e, h1, h2⟩ := hq i hi'
    refine ⟨b, off, e, fun j u hu => ?_⟩
    rw [hg] at hu
    match j, hu with
    | 0, hu => cases hu; exact h1.c0
    | 1, hu => cases hu; exact h1.c1
    | 2, hu => cases hu; exact h1.c2
    | 3, hu => cases hu; exact h1.c3
    | 4, hu => cases hu; exact h1.c4
    | 5, hu => cases hu; exact h1.c5
    | 6, hu => cases hu; exact h1.c6
    | j + 7, hu => cases hu
  · intro p hp
    obtain ⟨i, hi, rfl⟩ := List.mem_map.1 hp
    obtain ⟨_, b, off, e, h1, h2⟩ := hq i (List.mem_range.1 hi)
    exact h2
theorem pl_new (w : World) (t : TypeId) (p : Pl) : RowAt Pl.cells 7 (w.alloc (.cells #[.slice p.vo p.x.k.c.length p.vc, .bool p.x.k.d, .string p.x.k.x.a, .int .u64 (p.x.k.x.n : Int), .slice p.po p.x.m.length p.pc, .bool p.x.d, .string p.x.v] t)) (some ⟨w.heap.size, 0, none⟩) [p] := by
  intro i hi
  obtain rfl : i = 0 := by simpa using hi
  refine ⟨w.heap.size, 0, rfl, fun j u hu => ?_⟩
  have h1 := sib_new w t p.x p.vo p.vc p.po p.pc
  match j, hu with
  | 0, hu => cases hu; exact h1.c0
  | 1, hu => cases hu; exact h1.c1
  | 2, hu => cases hu; exact h1.c2
  | 3, hu => cases hu; exact h1.c3
  | 4, hu => cases hu; exact h1.c4
  | 5, hu => cases hu; exact h1.c5
  | 6, hu => cases hu; exact h1.c6
  | j + 7, hu => cases hu
end Go.Proofs.YteonkfedgopdiaaGreat
