/-
  What this seat's claims lean on of the texts SibMem.
  Conditions: as each theorem states.
-/
import Derived.WalkKit
import Derived.ProofKit
import Derived.Below
import Derived.Deep.Draws
import Derived.Deep.RegionHeld
import Derived.Test.YtfpahdnhnhkcdaaChecked
import Derived.OpenShut
import Derived.ShutString
import Derived.WalkSpells
import Derived.WalkLawsBesides
import Derived.Deep.QuietTactic
import Derived.BigQuiet
import Derived.Laws.Bits64b
import Derived.PlainAid
import Derived.Lib.AppendStr
import Derived.Deep.AppendLies
import Derived.Laws.IdiomStrings
import Derived.Laws.BytesArg
import Derived.Deep.RegionWith
import Derived.Laws.AppendOwn
import Derived.Deep.DeepAppendWide
import Derived.Deep.Upon
import Derived.Laws.Rows
import Derived.Test.YtfpahdnhnhkcdaaZ10
import Derived.Test.YtfpahdnhnhkcdaaZ13
import Derived.Test.YtfpahdnhnhkcdaaZ14
import Derived.Test.YtfpahdnhnhkcdaaZ19
namespace Go.Proofs.Ytfpahdnhnhkcdaa
open Go.RowKit
structure FitsS (x : Sb) : Prop where
  clk : FitsK x.k
  prs : FitsP x.m
  val : x.v.size ≤ maxLen
structure SibIn (w : World) (vo po : Option Addr) (pc : Nat) (x : Sb) : Prop where
  ens : EnsAt w vo x.k.c
  prs : PrsAt w po x.m
  room : CapP x.m pc
theorem SibIn.keep0 {w w' : World} {vo po : Option Addr} {pc : Nat} {x : Sb} (h : SibIn w vo po pc x) (K : Keep0 w w') : SibIn w' vo po pc x := ⟨h.ens.keep0 K, h.prs.keep0 K, h.room⟩
structure SibAt (w : World) (b off : Nat) (x : Sb) (vo : Option Addr) (vc : Nat) (po : Option Addr) (pc : Nat) : Prop where
  c0 : w.cell? ⟨b, off, none⟩ = some (.slice vo x.k.c.length vc)
  c1 : w.cell? ⟨b, off + 1, none⟩ = some (.bool x.k.d)
  c2 : w.cell? ⟨b, off + 2, none⟩ = some (.string x.k.x.a)
  c3 : w.cell? ⟨b, off + 3, none⟩ = some (.int .u64 (x.k.x.n : Int))
  c4 : w.cell? ⟨b, off + 4, none⟩ = some (.slice po x.m.length pc)
  c5 : w.cell? ⟨b, off + 5, none⟩ = some (.bool x.d)
  c6 : w.cell? ⟨b, off + 6, none⟩ = some (.string x.v)
theorem SibAt.keep {R : Nat → Prop} {w w' : World} {b off : Nat} {x : Sb} {vo po : Option Addr} {vc pc : Nat} (h : SibAt w b off x vo vc po pc) (K : Keep R w w') (hn : ¬ R b) : SibAt w' b off x vo vc po pc :=
  ⟨K.cell h.c0 hn, K.cell h.c1 hn, K.cell h.c2 hn, K.cell h.c3 hn, K.cell h.c4 hn, K.cell h.c5 hn, K.cell h.c6 hn⟩
theorem SibAt.keep0 {w w' : World} {b off : Nat} {x : Sb} {vo po : Option Addr} {vc pc : Nat} (h : SibAt w b off x vo vc po pc) (K : Keep0 w w') : SibAt w' b off x vo vc po pc := h.keep K (fun f => f)
theorem sib_new (w : World) (t : TypeId) (x : Sb) (vo : Option Addr) (vc : Nat) (po : Option Addr) (pc : Nat) : SibAt (w.alloc (.cells #[.slice vo x.k.c.length vc, .bool x.k.d, .string x.k.x.a, .int .u64 (x.k.x.n : Int), .slice po x.m.length pc, .bool x.d, .string x.v] t)) w.heap.size 0 x vo vc po pc :=
  ⟨cell_alloc w t rfl, cell_alloc w t rfl, cell_alloc w t rfl, cell_alloc w t rfl, cell_alloc w t rfl, cell_alloc w t rfl, cell_alloc w t rfl⟩
def SibsAt (w : World) (ao : Option Addr) (l : List Sb) : Prop := ∀ i (_ : i < l.length), ∃ b off vo vc po pc, ao = some ⟨b, off, none⟩ ∧ SibAt w b (off + i * 7) l[i] vo vc po pc ∧ SibIn w vo po pc l[i]
theorem SibsAt.keep0 {w w' : World} {ao : Option Addr} {l : List Sb} (h : SibsAt w ao l) (K : Keep0 w w') : SibsAt w' ao l := by
  intro i hi
  obtain ⟨b, off, vo, vc, po, pc, e, h1, h2⟩ := h i hi
  exact ⟨b, off, vo, vc, po, pc, e, h1.keep0 K, h2.keep0 K⟩
structure SAt (w : World) (g : Nat) (v0 v1 v2 v3 v4 v5 v6 : Value) : Prop where
  blk : ∃ ty, w.heap[g]? = some (.cells #[v0, v1, v2, v3, v4, v5, v6] ty)
section
variable {w : World} {g : Nat} {v0 v1 v2 v3 v4 v5 v6 : Value}
theorem SAt.lt (h : SAt w g v0 v1 v2 v3 v4 v5 v6) : g < w.heap.size := by
  obtain ⟨ty, hk⟩ := h.blk
  exact (Array.getElem?_eq_some_iff.mp hk).1
theorem SAt.cells (h : SAt w g v0 v1 v2 v3 v4 v5 v6) : w.cell? ⟨g, 0, none⟩ = some v0 ∧ w.cell? ⟨g, 1, none⟩ = some v1 ∧ w.cell? ⟨g, 2, none⟩ = some v2 ∧ w.cell? ⟨g, 3, none⟩ = some v3 ∧ w.cell? ⟨g, 4, none⟩ = some v4 ∧ w.cell? ⟨g, 5, none⟩ = some v5 ∧ w.cell? ⟨g, 6, none⟩ = some v6 ∧ w.frozen? ⟨g, 0, none⟩ = false ∧ w.frozen? ⟨g, 1, none⟩ = false ∧ w.frozen? ⟨g, 2, none⟩ = false ∧ w.frozen? ⟨g, 3, none⟩ = false ∧ w.frozen? ⟨g, 4, none⟩ = false ∧ w.frozen? ⟨g, 5, none⟩ = false ∧ w.frozen? ⟨g, 6, none⟩ = false := by
  obtain ⟨ty, hk⟩ := h.blk
  simp [World.cell?, World.frozen?, hk]
theorem SAt.keep {R : Nat → Prop} {w' : World} (h : SAt w g v0 v1 v2 v3 v4 v5 v6) (K : Keep R w w') (hn : ¬ R g) : SAt w' g v0 v1 v2 v3 v4 v5 v6 := by
  obtain ⟨ty, hk⟩ := h.blk
  exact ⟨ty, by rw [K.block g h.lt hn]; exact hk⟩
theorem SAt.keep0 {w' : World} (h : SAt w g v0 v1 v2 v3 v4 v5 v6) (K : Keep0 w w') : SAt w' g v0 v1 v2 v3 v4 v5 v6 := h.keep K (fun f => f)
theorem SAt.new (w : World) (ty : TypeId) (v0 v1 v2 v3 v4 v5 v6 : Value) : SAt (w.alloc (.cells #[v0, v1, v2, v3, v4, v5, v6] ty)) w.heap.size v0 v1 v2 v3 v4 v5 v6 := ⟨ty, (MapKept.heap_alloc w _).1⟩
theorem SAt.set0 (h : SAt w g v0 v1 v2 v3 v4 v5 v6) (u : Value) : SAt (w.setCell ⟨g, 0, none⟩ u) g u v1 v2 v3 v4 v5 v6 := by
  obtain ⟨ty, hk⟩ := h.blk
  exact ⟨ty, by rw [heap_setCell_at hk]; rfl⟩
theorem SAt.set1 (h : SAt w g v0 v1 v2 v3 v4 v5 v6) (u : Value) : SAt (w.setCell ⟨g, 1, none⟩ u) g v0 u v2 v3 v4 v5 v6 := by
  obtain ⟨ty, hk⟩ := h.blk
  exact ⟨ty, by rw [heap_setCell_at hk]; rfl⟩
theorem SAt.set2 (h : SAt w g v0 v1 v2 v3 v4 v5 v6) (u : Value) : SAt (w.setCell ⟨g, 2, none⟩ u) g v0 v1 u v3 v4 v5 v6 := by
  obtain ⟨ty, hk⟩ := h.blk
  exact ⟨ty, by rw [heap_setCell_at hk]; rfl⟩
theorem SAt.set3 (h : SAt w g v0 v1 v2 v3 v4 v5 v6) (u : Value) : SAt (w.setCell ⟨g, 3, none⟩ u) g v0 v1 v2 u v4 v5 v6 := by
  obtain ⟨ty, hk⟩ := h.blk
  exact ⟨ty, by rw [heap_setCell_at hk]; rfl⟩
theorem SAt.set4 (h : SAt w g v0 v1 v2 v3 v4 v5 v6) (u : Value) : SAt (w.setCell ⟨g, 4, none⟩ u) g v0 v1 v2 v3 u v5 v6 := by
  obtain ⟨ty, hk⟩ := h.blk
  exact ⟨ty, by rw [heap_setCell_at hk]; rfl⟩
theorem SAt.set5 (h : SAt w g v0 v1 v2 v3 v4 v5 v6) (u : Value) : SAt (w.setCell ⟨g, 5, none⟩ u) g v0 v1 v2 v3 v4 u v6 := by
  obtain ⟨ty, hk⟩ := h.blk
  exact ⟨ty, by rw [heap_setCell_at hk]; rfl⟩
theorem SAt.set6 (h : SAt w g v0 v1 v2 v3 v4 v5 v6) (u : Value) : SAt (w.setCell ⟨g, 6, none⟩ u) g v0 v1 v2 v3 v4 v5 u := by
  obtain ⟨ty, hk⟩ := h.blk
  exact ⟨ty, by rw [heap_setCell_at hk]; rfl⟩
theorem SAt.put (h : SAt w g v0 v1 v2 v3 v4 v5 v6) (u0 u1 u2 u3 u4 u5 u6 : Value) : SAt (((((((w.setCell ⟨g, 0, none⟩ u0).setCell ⟨g, 1, none⟩ u1).setCell ⟨g, 2, none⟩ u2).setCell ⟨g, 3, none⟩ u3).setCell ⟨g, 4, none⟩ u4).setCell ⟨g, 5, none⟩ u5).setCell ⟨g, 6, none⟩ u6) g u0 u1 u2 u3 u4 u5 u6 := (((((((h.set0 u0).set1 u1).set2 u2).set3 u3).set4 u4).set5 u5).set6 u6)
end
theorem put7_keep (w : World) (g : Nat) (u0 u1 u2 u3 u4 u5 u6 : Value) : Keep1 g w (((((((w.setCell ⟨g, 0, none⟩ u0).setCell ⟨g, 1, none⟩ u1).setCell ⟨g, 2, none⟩ u2).setCell ⟨g, 3, none⟩ u3).setCell ⟨g, 4, none⟩ u4).setCell ⟨g, 5, none⟩ u5).setCell ⟨g, 6, none⟩ u6) :=
  (((((((Keep.refl _ w).set1 _ _).set1 _ _).set1 _ _).set1 _ _).set1 _ _).set1 _ _).set1 _ _
theorem retSb {fn : Func} {p : Tmp} (h : fn.results = #[.cell p 30]) (tmps : Array Value) (w : World) (g : Nat) {v0 v1 v2 v3 v4 v5 v6 : Value}
    (hp : tmps.getD p undef = .pointer (some ⟨g, 0, none⟩)) (hg : SAt w g v0 v1 v2 v3 v4 v5 v6) : (results fn tmps).run Try.prog w = .ok (.agg #[v0, v1, v2, v3, v4, v5, v6]) w := by
  obtain ⟨ty, hk⟩ := hg.blk
  exact results_cell_row h tmps w g ty _ _ _ hp hk Try.underlying30 rfl (by kernel_rfl)
theorem retSb2 {fn : Func} {p u : Tmp} (h : fn.results = #[.cell p 30, .tmp u]) (tmps : Array Value) (w : World) (g : Nat) {v0 v1 v2 v3 v4 v5 v6 : Value}
    (hp : tmps.getD p undef = .pointer (some ⟨g, 0, none⟩)) (hg : SAt w g v0 v1 v2 v3 v4 v5 v6) : (results fn tmps).run Try.prog w = .ok (.tuple #[.agg #[v0, v1, v2, v3, v4, v5, v6], tmps.getD u undef]) w := by
  obtain ⟨ty, hk⟩ := hg.blk
  have hp' : tmps[p]?.getD undef = .pointer (some ⟨g, 0, none⟩) := by simpa using hp
  have hl := run_loadVar_row w g ty 30 _ _ _ hk Try.underlying30 rfl (by kernel_rfl)
  simp [results, h, hp', asAddr, hl]
end Go.Proofs.Ytfpahdnhnhkcdaa
