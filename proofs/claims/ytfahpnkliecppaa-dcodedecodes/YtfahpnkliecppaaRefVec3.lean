/-
  Contracts of the document's own Put of vectors, proved over this seat's translation.
  Conditions: at most 10,000 entries; each actor takes at most the greatest length that a text may have.
-/
import Derived.Test.YtfahpnkliecppaaRefVec2
namespace Go.Proofs.Ytfahpnkliecppaa
open Go.RowKit

/-- What is left to do. -/
def pRest (i : Bool) (l : List En) (x : En) : List En := if i = true then l else vPut l x
theorem pRest_yes (l : List En) (x : En) : pRest true l x = l := rfl
theorem pRest_no (l : List En) (x : En) : pRest false l x = vPut l x := rfl
/-- What Put answers: a list that the call has made. -/
def REns (l : List En) (w : World) (e : Ending) (w' : World) : Prop := ∃ ao cap, e = .returned (.slice ao l.length cap) ∧ EnsAt w' ao l ∧ (∀ g off m, ao = some ⟨g, off, m⟩ → w.heap.size ≤ g) ∧ Keep0 w w'
theorem REns.mk {l : List En} {w w' : World} {e : Ending} {ao : Option Addr} {cap : Nat} (h : e = .returned (.slice ao l.length cap)) (h1 : EnsAt w' ao l) (h2 : ∀ g off m, ao = some ⟨g, off, m⟩ → w.heap.size ≤ g) (h3 : Keep0 w w') : REns l w e w' := ⟨ao, cap, h, h1, h2, h3⟩
end Go.Proofs.Ytfahpnkliecppaa
