/-
  Contracts of the document's own cursor (package spenceref01), each proved over this seat's translation.
  Conditions: the place lies within the text, which takes at most the greatest length that a string may have.
-/
import Derived.Test.YtkmfbcjemfncbaaCursor
namespace Go.Proofs.Ytkmfbcjemfncbaa
open Go.RowKit

theorem rend_any {w : World} {b : Nat} {s : ByteArray} {a x : Int} (h : Cur w b s a x) : Calls Try.prog 39 #[ptr b] w fun e w' => e = .returned (.int .i64 (cEnd s a x)) ∧ Cur w' b s a (cEnd s a x) ∧ Keep1 b w w' := by
  obtain ⟨h0, h1, h2, h3, h4⟩ := h.cells
  have hi := h.hi
  unfold cEnd cFail
  by_cases hx : x = 0
  · subst hx
    by_cases hl : a < s.size
    · rw [if_pos hl, if_pos rfl]
      go_enter Try.func39, Try.ntmps39
      go_wp2
      go_quiet (fail)
      go_wp2
      go_ret
      exact ⟨rfl, (h.keep0 ((Keep.refl _ w).drewN _)).setErr 8, ((Keep.refl _ w).drewN _).set1 _ _⟩
    · rw [if_neg hl]
      have hl' : decide (a < s.size) = false := by simpa using hl
      go_enter Try.func39, Try.ntmps39
      go_wp2
      go_quiet (fail)
      go_wp2
      go_ret
      exact ⟨rfl, h.keep0 ((Keep.refl _ w).drewN _), (Keep.refl _ w).drewN _⟩
  · have e1 : (if a < s.size then if x = 0 then 8 else x else x) = x := by simp [hx]
    rw [e1]
    have hx' : (x == 0) = false := by simpa using hx
    clear hx e1
    go_enter Try.func39, Try.ntmps39
    go_wp2
    go_quiet (fail)
    go_wp2
    go_ret
    exact ⟨rfl, h.keep0 ((Keep.refl _ w).drewN _), (Keep.refl _ w).drewN _⟩
end Go.Proofs.Ytkmfbcjemfncbaa
