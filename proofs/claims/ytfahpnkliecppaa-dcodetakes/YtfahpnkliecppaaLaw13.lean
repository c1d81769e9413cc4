/-
  What package dcode's functions are claimed to answer, as one structure (DcCode), and the example that every law of layer 13 begins with, out of it.
  Conditions: at most 10,000 entries a vector, 100 clocks; texts of at most 1,000,000 bytes.
-/
import Derived.Test.YtfahpnkliecppaaRefDcode3
import Derived.Test.YtfahpnkliecppaaRefDot2
import Derived.Test.YtfahpnkliecppaaOpen12
import Derived.Test.YtfahpnkliecppaaL2
namespace Go.Proofs.Ytfahpnkliecppaa
open Go.RowKit

structure Ok13 (k : Ck) : Prop where
  len : k.c.length ≤ 10000
  fit : FitsK k
theorem Ok13.u64 {k : Ck} (h : Ok13 k) : (∀ x ∈ k.c, U64 x.n) ∧ U64 k.x.n := ⟨fun x hx => (h.fit.vec.2 x hx).2, h.fit.num⟩
/-- Are the bytes of the one below those of the other? -/
def kBelow (a b : Ck) : Bool × Int := if kCheck a = 0 ∧ kCheck b = 0 then (bl (eClk a) (eClk b), 0) else (false, 1)
/-- What package dcode's functions answer. -/
structure DcCode : Prop where
  encode : ∀ (w : World) (ao : Option Addr) (cap : Nat) (k : Ck), Ok13 k → EnsAt w ao k.c → Calls Try.prog 9 #[.agg #[.slice ao k.c.length cap, .bool k.d, .string k.x.a, .int .u64 (k.x.n : Int)]] w fun e w' => e = .returned (.tuple #[.string (encK k).1, .int .i64 (encK k).2]) ∧ Keep0 w w'
  decode : ∀ (w : World) (s : ByteArray), s.size ≤ 1000000 → Calls Try.prog 12 #[.string s] w (RClkE (decK s) w)
  below : ∀ (w : World) (ao bo : Option Addr) (ca cb : Nat) (a b : Ck), Ok13 a → Ok13 b → EnsAt w ao a.c → EnsAt w bo b.c → Calls Try.prog 11 #[.agg #[.slice ao a.c.length ca, .bool a.d, .string a.x.a, .int .u64 (a.x.n : Int)], .agg #[.slice bo b.c.length cb, .bool b.d, .string b.x.a, .int .u64 (b.x.n : Int)]] w fun e w' => e = .returned (.tuple #[.bool (kBelow a b).1, .int .i64 (kBelow a b).2]) ∧ Keep0 w w'
  take : ∀ {w : World} {b : Nat} {s : ByteArray} {a x : Int}, Cur w b s a x → s.size ≤ 1000000 → Calls Try.prog 20 #[ptr b] w (RTakeK (rX zCk rClk s a x) s b w)
  put : ∀ {w0 w : World} {b r : Nat} {t : ByteArray} {M x : Int} (ao : Option Addr) (cap : Nat) (l : List Ck), Pen w b r t M x → t.size ≤ 1000000 → l.length ≤ 100 → (∀ k ∈ l, Ok13 k) → ClksAt w0 ao l → Keep0 w0 w → w0.heap.size ≤ b → w0.heap.size ≤ r →
    Calls Try.prog 25 #[pptr b, .slice ao l.length cap] w fun e w' => e = .returned (.tuple #[]) ∧ ∃ r', Pen w' b r' (pClks M (t, x) l).1 M (pClks M (t, x) l).2 ∧ Keep (fun k => k = b ∨ k = r) w w' ∧ (r' = r ∨ w.heap.size ≤ r')
def x13 : Ck := ⟨[], true, ⟨⟨#[97]⟩, 1⟩⟩
theorem x13_enc : encK x13 = (⟨#[0, 1, 1, 97, 1]⟩, 0) := by
  have h : vText 1 = ⟨#[1]⟩ := by unfold vText; rw [vEnc_lt (by decide)]; rfl
  have h0 : vText 0 = ⟨#[0]⟩ := by unfold vText; rw [vEnc_lt (by decide)]; rfl
  have e : eClk x13 = ⟨#[0, 1, 1, 97, 1]⟩ := by
    show (vText 0 ++ ⟨#[]⟩) ++ (one 1 ++ ((vText 1 ++ ⟨#[97]⟩) ++ vText 1)) = _
    rw [h, h0]
    rfl
  unfold encK
  rw [if_pos (by rfl), e]
theorem x13_ok : Ok13 x13 := ⟨by show 0 ≤ 10000; omega, ⟨⟨by show 0 ≤ maxLen; omega, fun x hx => by cases hx⟩, by show 1 ≤ maxLen; unfold maxLen; omega, by show 1 < 18446744073709551616; omega⟩⟩
set_option maxRecDepth 100000 in
theorem awake13 (V : DcCode) (w : World) : Calls Try.prog 7 #[] w fun e w' => e = .returned (.bool true) ∧ Keep0 w w' := by
  have y := V.encode w none 0 x13 x13_ok (ens_nil _ _)
  rw [x13_enc] at y
  have y : Calls Try.prog 9 #[.agg #[.slice none 0 0, .bool true, .string ⟨#[97]⟩, .int .u64 1]] w fun e w' => e = .returned (.tuple #[.string ⟨#[0, 1, 1, 97, 1]⟩, .int .i64 0]) ∧ Keep0 w w' := y
  go_enter Try.func7, Try.ntmps7
  go_wp2_with fail
  refine y.mono ?_
  rintro e w1 ⟨rfl, k1⟩
  clear y
  go_wp2
  go_ret
  exact ⟨rfl, k1⟩
end Go.Proofs.Ytfahpnkliecppaa
