/-
  What this seat's claims lean on of the texts OldMem.
  Conditions: as each theorem states.
-/
import Derived.WalkKit
import Derived.ProofKit
import Derived.Below
import Derived.Deep.Draws
import Derived.Deep.RegionHeld
import Derived.Test.YtmllchembkpdkaaChecked
import Derived.OpenShut
import Derived.ShutString
import Derived.WalkSpells
import Derived.WalkLawsBesides
import Derived.Deep.QuietTactic
import Derived.BigQuiet
import Derived.Laws.Bits64b
import Derived.PlainAid
import Derived.Lib.AppendStr
import Derived.Deep.AppendLies
import Derived.Laws.IdiomStrings
import Derived.Laws.BytesArg
import Derived.Deep.RegionWith
import Derived.Laws.AppendOwn
import Derived.Deep.DeepAppendWide
import Derived.Deep.Upon
import Derived.Maps.AppendAt
import Derived.Deep.Slices
import Derived.Test.YtmllchembkpdkaaZ20
import Derived.Test.YtmllchembkpdkaaZ14
import Derived.Test.YtmllchembkpdkaaZ15
import Derived.Test.YtmllchembkpdkaaZ16
import Derived.Test.YtmllchembkpdkaaZ3
namespace Go.Proofs.Ytmllchembkpdkaa
open Go.RowKit
structure Po where
  x : Os
  vo : Option Addr
  vc : Nat
instance : Inhabited Po := ⟨⟨zOs, none, 0⟩⟩
def Po.cells (p : Po) : List Value := [.slice p.vo p.x.c.length p.vc, .bool p.x.d, .string p.x.v]
structure FitsOs (x : Os) : Prop where
  vec : Fits x.c
  val : x.v.size ≤ maxLen
theorem po_one (p : Po) : ∀ u ∈ p.cells, u.oneCell' = true := by
  intro u hu
  simp only [Po.cells, List.mem_cons, List.mem_nil_iff, or_false] at hu
  rcases hu with rfl | rfl | rfl <;> rfl
theorem os_info : (Try.prog.info? 47).map (fun i => (i.zero, i.size, i.bytes)) = some (some (.agg #[.slice none 0 0, .bool false, .string ⟨#[]⟩]), 3, 48) := by kernel_rfl
theorem poT : ElemT Po.cells 3 22 47 where
  len := fun _ => rfl
  pos := by decide
  one := po_one
  slice := Try.underlying22
  info := by
    obtain ⟨i0, hi, z0, z1, z2⟩ := info_parts os_info
    exact ⟨i0, _, 48, hi, z0, z1, z2, rfl, by decide⟩
structure PoAt (w : World) (b off : Nat) (p : Po) : Prop where
  c0 : w.cell? ⟨b, off, none⟩ = some (.slice p.vo p.x.c.length p.vc)
  c1 : w.cell? ⟨b, off + 1, none⟩ = some (.bool p.x.d)
  c2 : w.cell? ⟨b, off + 2, none⟩ = some (.string p.x.v)
theorem PoAt.keep {R : Nat → Prop} {w w' : World} {b off : Nat} {p : Po} (h : PoAt w b off p) (K : Keep R w w') (hn : ¬ R b) : PoAt w' b off p := ⟨K.cell h.c0 hn, K.cell h.c1 hn, K.cell h.c2 hn⟩
theorem PoAt.keep0 {w w' : World} {b off : Nat} {p : Po} (h : PoAt w b off p) (K : Keep0 w w') : PoAt w' b off p := h.keep K (fun f => f)
structure PosAt (w : World) (ao : Option Addr) (L : List Po) : Prop where
  row : RowAt Po.cells 3 w ao L
  ins : ∀ p ∈ L, EnsAt w p.vo p.x.c
theorem PosAt.keep0 {w w' : World} {ao : Option Addr} {L : List Po} (h : PosAt w ao L) (K : Keep0 w w') : PosAt w' ao L := ⟨h.row.keep0 K, fun p hp => (h.ins p hp).keep0 K⟩
theorem PosAt.nil (w : World) (ao : Option Addr) : PosAt w ao [] := ⟨rowAt_nil _ _, (fun _ h => by cases h)⟩
theorem PosAt.at_ {w : World} {ao : Option Addr} {L : List Po} (h : PosAt w ao L) (i : Nat) (hi : i < L.length) : ∃ b off, ao = some ⟨b, off, none⟩ ∧ PoAt w b (off + i * 3) L[i] ∧ EnsAt w L[i].vo L[i].x.c := by
  obtain ⟨b, off, e, h1⟩ := h.row i hi
  exact ⟨b, off, e, ⟨h1 0 _ rfl, h1 1 _ rfl, h1 2 _ rfl⟩, h.ins _ (List.getElem_mem hi)⟩
theorem poAt_new (w : World) (t : TypeId) (p : Po) : PoAt (w.alloc (.cells #[.slice p.vo p.x.c.length p.vc, .bool p.x.d, .string p.x.v] t)) w.heap.size 0 p := ⟨cell_alloc w t rfl, cell_alloc w t rfl, cell_alloc w t rfl⟩
theorem po_new (w : World) (t : TypeId) (p : Po) : RowAt Po.cells 3 (w.alloc (.cells #[.slice p.vo p.x.c.length p.vc, .bool p.x.d, .string p.x.v] t)) (some ⟨w.heap.size, 0, none⟩) [p] := by
  intro i hi
  obtain rfl : i = 0 := by simpa using hi
  refine ⟨w.heap.size, 0, rfl, fun j u hu => ?_⟩
  have h1 := poAt_new w t p
  match j, hu with
  | 0, hu => cases hu; exact h1.c0
  | 1, hu => cases hu; exact h1.c1
  | 2, hu => cases hu; exact h1.c2
  | j + 3, hu => cases hu
structure OwnO (B : Nat) (w : World) (v : Value) (L : List Po) : Prop where
  row : w.ownsRow B 47 3 v L.length (rowOf Po.cells L)
  ins : ∀ p ∈ L, EnsAt w p.vo p.x.c
  vec : ∀ p ∈ L, ∀ g off m, p.vo = some ⟨g, off, m⟩ → B ≤ g ∧ (p.x.c.length = 0 ∨ v.ownBlock ≠ some g)
theorem ens_keepO {R : Nat → Prop} {w w' : World} {ao : Option Addr} {l : List En} (h : EnsAt w ao l) (K : Keep R w w') (hn : ∀ g off m, ao = some ⟨g, off, m⟩ → l.length = 0 ∨ ¬ R g) : EnsAt w' ao l := by
  by_cases h0 : l.length = 0
  · exact fun i hi => by omega
  · exact h.keep K (fun g off m e => (hn g off m e).resolve_left h0)
theorem ens_ltO {w : World} {ao : Option Addr} {l : List En} (h : EnsAt w ao l) : ∀ g off m, ao = some ⟨g, off, m⟩ → l.length = 0 ∨ g < w.heap.size := by
  intro g off m e
  by_cases h0 : l.length = 0
  · exact .inl h0
  · obtain ⟨b, o, e', h1, _⟩ := h 0 (by omega)
    rw [e] at e'
    cases e'
    exact .inr (World.block_lt_of_cell? w _ h1)
theorem OwnO.nil (B : Nat) (w : World) : OwnO B w (.slice none 0 0) [] := ⟨⟨by show 0 = 0 * 3; rfl, .inl ⟨rfl, rfl⟩⟩, (fun _ h => by cases h), (fun _ h => by cases h)⟩
theorem OwnO.keep {R : Nat → Prop} {B : Nat} {w w' : World} {v : Value} {L : List Po} (h : OwnO B w v L) (K : Keep R w w') (hn : ∀ g, B ≤ g → ¬ R g) : OwnO B w' v L :=
  ⟨rowE_keep h.row K hn, fun p hp => (h.ins p hp).keep K (fun g off m e => hn g (h.vec p hp g off m e).1), h.vec⟩
theorem OwnO.keep0 {B : Nat} {w w' : World} {v : Value} {L : List Po} (h : OwnO B w v L) (K : Keep0 w w') : OwnO B w' v L := h.keep K (fun _ _ f => f)
theorem OwnO.lt {B : Nat} {w : World} {v : Value} {L : List Po} (h : OwnO B w v L) : ∀ g, v.ownBlock = some g → B ≤ g ∧ g < w.heap.size := fun g e => h.row.lt g e
structure NewO (B : Nat) (w : World) (ao : Option Addr) (L : List Po) : Prop where
  at_ : PosAt w ao L
  own : ∀ g off m, ao = some ⟨g, off, m⟩ → B ≤ g
  vec : ∀ p ∈ L, ∀ g off m, p.vo = some ⟨g, off, m⟩ → B ≤ g
theorem NewO.nil (B : Nat) (w : World) : NewO B w none [] := ⟨PosAt.nil _ _, (fun _ _ _ e => by cases e), (fun _ h => by cases h)⟩
theorem NewO.keep {R : Nat → Prop} {B : Nat} {w w' : World} {ao : Option Addr} {L : List Po} (h : NewO B w ao L) (K : Keep R w w') (hn : ∀ g, B ≤ g → ¬ R g) : NewO B w' ao L :=
  ⟨⟨h.at_.row.keep K (fun g off m e => hn g (h.own g off m e)), fun p hp => (h.at_.ins p hp).keep K (fun g off m e => hn g (h.vec p hp g off m e))⟩, h.own, h.vec⟩
theorem NewO.lower {B B' : Nat} {w : World} {ao : Option Addr} {L : List Po} (h : NewO B w ao L) (hB : B' ≤ B) : NewO B' w ao L :=
  ⟨h.at_, fun g off m e => Nat.le_trans hB (h.own g off m e), fun p hp g off m e => Nat.le_trans hB (h.vec p hp g off m e)⟩
theorem OwnO.newO {B : Nat} {w : World} {v : Value} {L : List Po} (h : OwnO B w v L) : ∃ ao cap, v = .slice ao L.length cap ∧ NewO B w ao L ∧ L.length ≤ cap ∧ cap ≤ maxLen := by
  obtain ⟨ao, cap, e, h1, h2, h3, h4⟩ := row_of_own poT.len poT.pos h.row
  exact ⟨ao, cap, e, ⟨⟨h1, h.ins⟩, h2, fun p hp g off m e => (h.vec p hp g off m e).1⟩, h3, h4⟩
theorem OwnO.more {B : Nat} {w w' : World} {v v' : Value} {L : List Po} {p : Po} (h : OwnO B w v L) (hp : EnsAt w p.vo p.x.c) (hv : ∀ g off m, p.vo = some ⟨g, off, m⟩ → B ≤ g ∧ (p.x.c.length = 0 ∨ v.ownBlock ≠ some g))
    (h1 : w'.ownsRow B 47 3 v' (L ++ [p]).length (rowOf Po.cells (L ++ [p]))) (h2 : w.grownBy w' v.ownBlock) (h3 : v'.ownBlock = v.ownBlock ∨ v'.ownBlock = some w.heap.size) : OwnO B w' v' (L ++ [p]) := by
  have K := keep_grown h2
  have all : ∀ q ∈ L ++ [p], EnsAt w q.vo q.x.c ∧ (∀ g off m, q.vo = some ⟨g, off, m⟩ → B ≤ g ∧ (q.x.c.length = 0 ∨ v.ownBlock ≠ some g)) := by
    intro q hq'
    rcases List.mem_append.1 hq' with hq' | hq'
    · exact ⟨h.ins q hq', h.vec q hq'⟩
    · rw [List.mem_singleton.1 hq']; exact ⟨hp, hv⟩
  refine ⟨h1, fun q hq' => ?_, fun q hq' g off m e => ?_⟩
  · obtain ⟨a1, a2⟩ := all q hq'
    exact ens_keepO a1 K (fun g off m e => (a2 g off m e).2)
  · obtain ⟨a1, a2⟩ := all q hq'
    refine ⟨(a2 g off m e).1, ?_⟩
    rcases h3 with e3 | e3
    · rw [e3]; exact (a2 g off m e).2
    · rcases ens_ltO a1 g off m e with z | z
      · exact .inl z
      · exact .inr (fun e4 => by rw [e3] at e4; cases e4; omega)
end Go.Proofs.Ytmllchembkpdkaa
