/-
  What package vcode's functions are claimed to answer, as one structure (VcCode), and the example that every law of layer 11 begins with, out of it.
  Conditions: at most 10,000 entries a list, 100 lists; texts of at most 1,000,000 bytes.
-/
import Derived.Test.YtfahpnkliecppaaRefVcode2
import Derived.Test.YtfahpnkliecppaaOpen10
import Derived.Test.YtfahpnkliecppaaL2
namespace Go.Proofs.Ytfahpnkliecppaa
open Go.RowKit

def Ok11 (l : List En) : Prop := l.length ≤ 10000 ∧ ∀ x ∈ l, x.a.size ≤ maxLen ∧ U64 x.n
theorem Ok11.fits {l : List En} (h : Ok11 l) : Fits l := ⟨by have := h.1; unfold maxLen; omega, h.2⟩
def x11 : List En := [⟨⟨#[97]⟩, 1⟩]
theorem x11_enc : encV x11 = (⟨#[1, 1, 97, 1]⟩, 0) := by
  have h : vText 1 = ⟨#[1]⟩ := by unfold vText; rw [vEnc_lt (by decide)]; rfl
  have e : eVec x11 = ⟨#[1, 1, 97, 1]⟩ := by
    show vText 1 ++ ((vText 1 ++ ⟨#[97]⟩) ++ vText 1 ++ ⟨#[]⟩) = _
    rw [h]
    rfl
  unfold encV
  rw [if_pos (by rfl), e]
theorem x11_ok : Ok11 x11 := by
  refine ⟨by decide, fun x hx => ?_⟩
  have hx : x = ⟨⟨#[97]⟩, 1⟩ := by simpa [x11] using hx
  subst hx
  exact ⟨by decide, by unfold U64; decide⟩
end Go.Proofs.Ytfahpnkliecppaa
