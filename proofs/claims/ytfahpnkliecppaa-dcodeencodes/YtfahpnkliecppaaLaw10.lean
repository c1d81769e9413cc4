/-
  What package vector's functions are claimed to answer, as one structure (VecCode), and the example that every law of layer 10 begins with, out of it.
  Conditions: at most 10,000 entries a list, 100 lists.
-/
import Derived.Test.YtfahpnkliecppaaOpen10
namespace Go.Proofs.Ytfahpnkliecppaa
open Go.RowKit

def Ok10 (l : List En) : Prop := l.length ≤ 10000 ∧ ∀ x ∈ l, x.a.size ≤ maxLen ∧ x.n < 18446744073709551616
theorem Ok10.fits {l : List En} (h : Ok10 l) : Fits l := ⟨by have := h.1; unfold maxLen; omega, h.2⟩
theorem Ok10.len {l : List En} (h : Ok10 l) : l.length ≤ maxLen := by have := h.1; unfold maxLen; omega
def vRight (a b : List En) : Bool := vCheck a == 0 && vCheck b == 0
/-- Two lists in one new block. -/
theorem vecs_two {w : World} {ao bo : Option Addr} {ca cb : Nat} {l m : List En} (t : TypeId) (ha : EnsAt w ao l) (hb : EnsAt w bo m) :
    VecsAt (w.alloc (.cells #[.slice ao l.length ca, .slice bo m.length cb] t)) (some ⟨w.heap.size, 0, none⟩) [l, m] := by
  have k : Keep0 w (w.alloc (.cells #[.slice ao l.length ca, .slice bo m.length cb] t)) := (Keep.refl _ w).alloc _
  intro i hi
  have hi : i = 0 ∨ i = 1 := by simp at hi; omega
  rcases hi with rfl | rfl
  · exact ⟨w.heap.size, 0, ao, ca, rfl, cell_alloc w t rfl, ha.keep0 k⟩
  · exact ⟨w.heap.size, 0, bo, cb, rfl, cell_alloc w t rfl, hb.keep0 k⟩
theorem ens_two (w : World) (t : TypeId) (x y : En) : EnsAt (w.alloc (.cells #[.string x.a, .int .u64 (x.n : Int), .string y.a, .int .u64 (y.n : Int)] t)) (some ⟨w.heap.size, 0, none⟩) [x, y] := by
  intro i hi
  have hi : i = 0 ∨ i = 1 := by simp at hi; omega
  rcases hi with rfl | rfl
  · exact ⟨w.heap.size, 0, rfl, cell_alloc w t rfl, cell_alloc w t rfl⟩
  · exact ⟨w.heap.size, 0, rfl, cell_alloc w t rfl, cell_alloc w t rfl⟩
def xA : List En := [⟨⟨#[97]⟩, 1⟩, ⟨⟨#[98]⟩, 2⟩]
def xB : List En := [⟨⟨#[97]⟩, 3⟩]
def xC : List En := [⟨⟨#[97]⟩, 3⟩, ⟨⟨#[98]⟩, 2⟩]
theorem x_join : vJoin [xA, xB] = (xC, 0) := by rfl
theorem x_order : (if vRight xA xB = true then vOrder xA xB else 0) = 2 ∧ vRight xA xB = true := ⟨by rfl, by rfl⟩
theorem x_ok : Ok10 xA ∧ Ok10 xB ∧ Ok10 xC := by
  unfold Ok10 xA xB xC maxLen
  refine ⟨⟨by decide, ?_⟩, ⟨by decide, ?_⟩, ⟨by decide, ?_⟩⟩ <;> (intro x hx; simp at hx; first | (rcases hx with rfl | rfl <;> exact ⟨by decide, by decide⟩) | (subst hx; exact ⟨by decide, by decide⟩))
theorem x_same : vSame xC xC = true := vSame_iff.2 rfl
end Go.Proofs.Ytfahpnkliecppaa
