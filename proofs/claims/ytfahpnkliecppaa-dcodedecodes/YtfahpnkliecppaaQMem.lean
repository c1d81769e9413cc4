/-
  A block of four cells (a clock) in memory, and a clock that is answered.
  Conditions: none beyond what each lemma states.
-/
import Derived.Test.YtfahpnkliecppaaDotMem
import Derived.Laws.Rows
namespace Go.Proofs.Ytfahpnkliecppaa
open Go.RowKit

/-! ### a block of four cells -/
structure QAt (w : World) (g : Nat) (v0 v1 v2 v3 : Value) : Prop where
  blk : ∃ ty, w.heap[g]? = some (.cells #[v0, v1, v2, v3] ty)
section
variable {w : World} {g : Nat} {v0 v1 v2 v3 : Value}
theorem QAt.lt (h : QAt w g v0 v1 v2 v3) : g < w.heap.size := by
  obtain ⟨ty, hk⟩ := h.blk
  exact (Array.getElem?_eq_some_iff.mp hk).1
theorem QAt.cells (h : QAt w g v0 v1 v2 v3) : w.cell? ⟨g, 0, none⟩ = some v0 ∧ w.cell? ⟨g, 1, none⟩ = some v1 ∧ w.cell? ⟨g, 2, none⟩ = some v2 ∧ w.cell? ⟨g, 3, none⟩ = some v3 ∧ w.frozen? ⟨g, 0, none⟩ = false ∧ w.frozen? ⟨g, 1, none⟩ = false ∧ w.frozen? ⟨g, 2, none⟩ = false ∧ w.frozen? ⟨g, 3, none⟩ = false := by
  obtain ⟨ty, hk⟩ := h.blk
  simp [World.cell?, World.frozen?, hk]
theorem QAt.keep {R : Nat → Prop} {w' : World} (h : QAt w g v0 v1 v2 v3) (K : Keep R w w') (hn : ¬ R g) : QAt w' g v0 v1 v2 v3 := by
  obtain ⟨ty, hk⟩ := h.blk
  exact ⟨ty, by rw [K.block g h.lt hn]; exact hk⟩
theorem QAt.keep0 {w' : World} (h : QAt w g v0 v1 v2 v3) (K : Keep0 w w') : QAt w' g v0 v1 v2 v3 := h.keep K (fun f => f)
theorem QAt.new (w : World) (ty : TypeId) (v0 v1 v2 v3 : Value) : QAt (w.alloc (.cells #[v0, v1, v2, v3] ty)) w.heap.size v0 v1 v2 v3 := ⟨ty, (MapKept.heap_alloc w _).1⟩
theorem QAt.set0 (h : QAt w g v0 v1 v2 v3) (u : Value) : QAt (w.setCell ⟨g, 0, none⟩ u) g u v1 v2 v3 := by
  obtain ⟨ty, hk⟩ := h.blk
  exact ⟨ty, by rw [heap_setCell_at hk]; rfl⟩
theorem QAt.set1 (h : QAt w g v0 v1 v2 v3) (u : Value) : QAt (w.setCell ⟨g, 1, none⟩ u) g v0 u v2 v3 := by
  obtain ⟨ty, hk⟩ := h.blk
  exact ⟨ty, by rw [heap_setCell_at hk]; rfl⟩
theorem QAt.set2 (h : QAt w g v0 v1 v2 v3) (u : Value) : QAt (w.setCell ⟨g, 2, none⟩ u) g v0 v1 u v3 := by
  obtain ⟨ty, hk⟩ := h.blk
  exact ⟨ty, by rw [heap_setCell_at hk]; rfl⟩
theorem QAt.set3 (h : QAt w g v0 v1 v2 v3) (u : Value) : QAt (w.setCell ⟨g, 3, none⟩ u) g v0 v1 v2 u := by
  obtain ⟨ty, hk⟩ := h.blk
  exact ⟨ty, by rw [heap_setCell_at hk]; rfl⟩
theorem QAt.put (h : QAt w g v0 v1 v2 v3) (u0 u1 u2 u3 : Value) : QAt ((((w.setCell ⟨g, 0, none⟩ u0).setCell ⟨g, 1, none⟩ u1).setCell ⟨g, 2, none⟩ u2).setCell ⟨g, 3, none⟩ u3) g u0 u1 u2 u3 := (((h.set0 u0).set1 u1).set2 u2).set3 u3
end
theorem put4_keep (w : World) (g : Nat) (u0 u1 u2 u3 : Value) : Keep1 g w ((((w.setCell ⟨g, 0, none⟩ u0).setCell ⟨g, 1, none⟩ u1).setCell ⟨g, 2, none⟩ u2).setCell ⟨g, 3, none⟩ u3) :=
  ((((Keep.refl _ w).set1 _ _).set1 _ _).set1 _ _).set1 _ _
theorem set_keep1 (w : World) (g i : Nat) (u : Value) : Keep1 g w (w.setCell ⟨g, i, none⟩ u) := (Keep.refl _ w).set1 _ _
/-- A clock that is answered alone. -/
theorem retCk {fn : Func} {p : Tmp} (h : fn.results = #[.cell p 27]) (tmps : Array Value) (w : World) (g : Nat) {v0 v1 v2 v3 : Value}
    (hp : tmps.getD p undef = .pointer (some ⟨g, 0, none⟩)) (hg : QAt w g v0 v1 v2 v3) : (results fn tmps).run Try.prog w = .ok (.agg #[v0, v1, v2, v3]) w := by
  obtain ⟨ty, hk⟩ := hg.blk
  exact results_cell_row h tmps w g ty _ _ _ hp hk Try.underlying27 rfl (by kernel_rfl)
/-- .. and with another one. -/
theorem retCk2 {fn : Func} {p u : Tmp} (h : fn.results = #[.cell p 27, .tmp u]) (tmps : Array Value) (w : World) (g : Nat) {v0 v1 v2 v3 : Value}
    (hp : tmps.getD p undef = .pointer (some ⟨g, 0, none⟩)) (hg : QAt w g v0 v1 v2 v3) : (results fn tmps).run Try.prog w = .ok (.tuple #[.agg #[v0, v1, v2, v3], tmps.getD u undef]) w := by
  obtain ⟨ty, hk⟩ := hg.blk
  have hp' : tmps[p]?.getD undef = .pointer (some ⟨g, 0, none⟩) := by simpa using hp
  have hl := run_loadVar_row w g ty 27 _ _ _ hk Try.underlying27 rfl (by kernel_rfl)
  simp [results, h, hp', asAddr, hl]
end Go.Proofs.Ytfahpnkliecppaa
