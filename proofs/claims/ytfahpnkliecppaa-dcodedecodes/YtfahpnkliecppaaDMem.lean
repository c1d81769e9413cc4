/-
  A block of two cells in memory.
  Conditions: none beyond what each lemma states.
-/
import Derived.Test.YtfahpnkliecppaaRefVec
namespace Go.Proofs.Ytfahpnkliecppaa
open Go.RowKit

/-! ### a block of two cells -/
structure DAt (w : World) (g : Nat) (v0 v1 : Value) : Prop where
  blk : ∃ ty, w.heap[g]? = some (.cells #[v0, v1] ty)
section
variable {w : World} {g : Nat} {v0 v1 : Value}
theorem DAt.lt (h : DAt w g v0 v1) : g < w.heap.size := by
  obtain ⟨ty, hk⟩ := h.blk
  exact (Array.getElem?_eq_some_iff.mp hk).1
theorem DAt.cells (h : DAt w g v0 v1) : w.cell? ⟨g, 0, none⟩ = some v0 ∧ w.cell? ⟨g, 1, none⟩ = some v1 ∧ w.frozen? ⟨g, 0, none⟩ = false ∧ w.frozen? ⟨g, 1, none⟩ = false := by
  obtain ⟨ty, hk⟩ := h.blk
  simp [World.cell?, World.frozen?, hk]
theorem DAt.keep {R : Nat → Prop} {w' : World} (h : DAt w g v0 v1) (K : Keep R w w') (hn : ¬ R g) : DAt w' g v0 v1 := by
  obtain ⟨ty, hk⟩ := h.blk
  exact ⟨ty, by rw [K.block g h.lt hn]; exact hk⟩
theorem DAt.keep0 {w' : World} (h : DAt w g v0 v1) (K : Keep0 w w') : DAt w' g v0 v1 := h.keep K (fun f => f)
theorem DAt.new (w : World) (ty : TypeId) (v0 v1 : Value) : DAt (w.alloc (.cells #[v0, v1] ty)) w.heap.size v0 v1 := ⟨ty, (MapKept.heap_alloc w _).1⟩
theorem DAt.set0 (h : DAt w g v0 v1) (u : Value) : DAt (w.setCell ⟨g, 0, none⟩ u) g u v1 := by
  obtain ⟨ty, hk⟩ := h.blk
  exact ⟨ty, by rw [heap_setCell_at hk]; rfl⟩
theorem DAt.set1 (h : DAt w g v0 v1) (u : Value) : DAt (w.setCell ⟨g, 1, none⟩ u) g v0 u := by
  obtain ⟨ty, hk⟩ := h.blk
  exact ⟨ty, by rw [heap_setCell_at hk]; rfl⟩
theorem DAt.put (h : DAt w g v0 v1) (u0 u1 : Value) : DAt ((w.setCell ⟨g, 0, none⟩ u0).setCell ⟨g, 1, none⟩ u1) g u0 u1 := (h.set0 u0).set1 u1
end
theorem put2_keep (w : World) (g : Nat) (u0 u1 : Value) : Keep1 g w ((w.setCell ⟨g, 0, none⟩ u0).setCell ⟨g, 1, none⟩ u1) := ((Keep.refl _ w).set1 _ _).set1 _ _
end Go.Proofs.Ytfahpnkliecppaa
