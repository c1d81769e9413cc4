/-
  What package vcode's functions are claimed to answer, as one structure (VcCode), and the example that every law of layer 11 begins with, out of it.
  Conditions: at most 10,000 entries a list, 100 lists; texts of at most 1,000,000 bytes.
-/
import Derived.Test.YtmiodefphiknhaaRefVcode2
import Derived.Test.YtmiodefphiknhaaOpen10
import Derived.Test.YtmiodefphiknhaaL2
namespace Go.Proofs.Ytmiodefphiknhaa
open Go.RowKit

def Ok11 (l : List En) : Prop := l.length ≤ 10000 ∧ ∀ x ∈ l, x.a.size ≤ maxLen ∧ U64 x.n
theorem Ok11.fits {l : List En} (h : Ok11 l) : Fits l := ⟨by have := h.1; unfold maxLen; omega, h.2⟩
/-- What package vcode's functions answer. -/
structure VcCode : Prop where
  encode : ∀ (w : World) (ao : Option Addr) (cap : Nat) (l : List En), Ok11 l → EnsAt w ao l → Calls Try.prog 9 #[.slice ao l.length cap] w fun e w' => e = .returned (.tuple #[.string (encV l).1, .int .i64 (encV l).2]) ∧ Keep0 w w'
  decode : ∀ (w : World) (s : ByteArray), s.size ≤ 1000000 → Calls Try.prog 12 #[.string s] w (REnsE (decV s) w)
  take : ∀ {w : World} {b : Nat} {s : ByteArray} {a x : Int}, Cur w b s a x → s.size ≤ 1000000 → Calls Try.prog 18 #[ptr b] w (RTake (rX [] rVec s a x) s b w)
  put : ∀ {w0 w : World} {b r : Nat} {t : ByteArray} {M x : Int} (ao : Option Addr) (cap : Nat) (ls : List (List En)), Pen w b r t M x → t.size ≤ 1000000 → ls.length ≤ 100 → (∀ l ∈ ls, Ok11 l) → VecsAt w0 ao ls → Keep0 w0 w → w0.heap.size ≤ b → w0.heap.size ≤ r →
    Calls Try.prog 23 #[pptr b, .slice ao ls.length cap] w fun e w' => e = .returned (.tuple #[]) ∧ ∃ r', Pen w' b r' (pVecs M (t, x) ls).1 M (pVecs M (t, x) ls).2 ∧ Keep (fun k => k = b ∨ k = r) w w' ∧ (r' = r ∨ w.heap.size ≤ r')
def x11 : List En := [⟨⟨#[97]⟩, 1⟩]
theorem x11_enc : encV x11 = (⟨#[1, 1, 97, 1]⟩, 0) := by
  have h : vText 1 = ⟨#[1]⟩ := by unfold vText; rw [vEnc_lt (by decide)]; rfl
  have e : eVec x11 = ⟨#[1, 1, 97, 1]⟩ := by
    show vText 1 ++ ((vText 1 ++ ⟨#[97]⟩) ++ vText 1 ++ ⟨#[]⟩) = _
    rw [h]
    rfl
  unfold encV
  rw [if_pos (by rfl), e]
theorem x11_ok : Ok11 x11 := by
  refine ⟨by decide, fun x hx => ?_⟩
  have hx : x = ⟨⟨#[97]⟩, 1⟩ := by simpa [x11] using hx
  subst hx
  exact ⟨by decide, by unfold U64; decide⟩
set_option maxRecDepth 100000 in
theorem awake11 (V : VcCode) (w : World) : Calls Try.prog 7 #[] w fun e w' => e = .returned (.bool true) ∧ Keep0 w w' := by
  have hA : EnsAt (w.alloc (.cells #[.string ⟨#[97]⟩, .int .u64 1] 61)) (some ⟨w.heap.size, 0, none⟩) x11 := en_new w 61 ⟨⟨#[97]⟩, 1⟩
  have kA : Keep0 w (w.alloc (.cells #[.string ⟨#[97]⟩, .int .u64 1] 61)) := (Keep.refl _ w).alloc _
  have y := V.encode _ _ 1 x11 x11_ok hA
  rw [x11_enc] at y
  have e1 : x11.length = 1 := rfl
  rw [e1] at y
  clear hA e1
  go_enter Try.func7, Try.ntmps7
  go_wp2_with fail
  generalize w.alloc (.cells #[.string ⟨#[97]⟩, .int .u64 1] 61) = w0 at *
  generalize w.heap.size = g at *
  refine y.mono ?_
  rintro e w1 ⟨rfl, k1⟩
  have K1 := kA.trans k1
  clear y k1 kA
  go_wp2
  go_ret
  exact ⟨rfl, K1⟩
end Go.Proofs.Ytmiodefphiknhaa
