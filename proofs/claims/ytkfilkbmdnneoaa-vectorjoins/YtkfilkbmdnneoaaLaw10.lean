/-
  What package vector's functions are claimed to answer, as one structure (VecCode), and the example that every law of layer 10 begins with, out of it.
  Conditions: at most 10,000 entries a list, 100 lists.
-/
import Derived.Test.YtkfilkbmdnneoaaOpen10
namespace Go.Proofs.Ytkfilkbmdnneoaa
open Go.RowKit

def Ok10 (l : List En) : Prop := l.length ≤ 10000 ∧ ∀ x ∈ l, x.a.size ≤ maxLen ∧ x.n < 18446744073709551616
theorem Ok10.fits {l : List En} (h : Ok10 l) : Fits l := ⟨by have := h.1; unfold maxLen; omega, h.2⟩
theorem Ok10.len {l : List En} (h : Ok10 l) : l.length ≤ maxLen := by have := h.1; unfold maxLen; omega
def vRight (a b : List En) : Bool := vCheck a == 0 && vCheck b == 0
/-- What package vector's functions answer. -/
structure VecCode : Prop where
  check : ∀ (w : World) (ao : Option Addr) (cap : Nat) (l : List En), Ok10 l → EnsAt w ao l → Calls Try.prog 9 #[.slice ao l.length cap] w fun e w' => e = .returned (.int .i64 (vCheck l)) ∧ Keep0 w w'
  count : ∀ (w : World) (ao : Option Addr) (cap : Nat) (l : List En), Ok10 l → EnsAt w ao l → ∀ s : ByteArray, s.size ≤ maxLen → Calls Try.prog 11 #[.slice ao l.length cap, .string s] w fun e w' => e = .returned (.int .u64 (vCount l s : Int)) ∧ Keep0 w w'
  same : ∀ (w : World) (ao bo : Option Addr) (ca cb : Nat) (l m : List En), Ok10 l → Ok10 m → EnsAt w ao l → EnsAt w bo m → Calls Try.prog 13 #[.slice ao l.length ca, .slice bo m.length cb] w fun e w' => e = .returned (.bool (vSame l m)) ∧ Keep0 w w'
  descends : ∀ (w : World) (ao bo : Option Addr) (ca cb : Nat) (l m : List En), Ok10 l → Ok10 m → EnsAt w ao l → EnsAt w bo m → Calls Try.prog 17 #[.slice ao l.length ca, .slice bo m.length cb] w fun e w' => e = .returned (.bool (vRight l m && vAbove l m)) ∧ Keep0 w w'
  order : ∀ (w : World) (ao bo : Option Addr) (ca cb : Nat) (l m : List En), Ok10 l → Ok10 m → EnsAt w ao l → EnsAt w bo m → Calls Try.prog 16 #[.slice ao l.length ca, .slice bo m.length cb] w fun e w' => e = .returned (.tuple #[.int .i64 (if vRight l m = true then vOrder l m else 0), .bool (vRight l m)]) ∧ Keep0 w w'
  join : ∀ (w : World) (ao : Option Addr) (cap : Nat) (ls : List (List En)), ls.length ≤ 100 → (∀ l ∈ ls, Ok10 l) → VecsAt w ao ls → Calls Try.prog 20 #[.slice ao ls.length cap] w (REnsE (vJoin ls) w)
  event : ∀ (w : World) (ao : Option Addr) (cap : Nat) (l : List En), Ok10 l → EnsAt w ao l → ∀ s : ByteArray, s.size ≤ maxLen → Calls Try.prog 18 #[.slice ao l.length cap, .string s] w (REnsE (vEvent l s) w)

/-- Two lists in one new block. -/
theorem vecs_two {w : World} {ao bo : Option Addr} {ca cb : Nat} {l m : List En} (t : TypeId) (ha : EnsAt w ao l) (hb : EnsAt w bo m) :
    VecsAt (w.alloc (.cells #[.slice ao l.length ca, .slice bo m.length cb] t)) (some ⟨w.heap.size, 0, none⟩) [l, m] := by
  have k : Keep0 w (w.alloc (.cells #[.slice ao l.length ca, .slice bo m.length cb] t)) := (Keep.refl _ w).alloc _
  intro i hi
  have hi : i = 0 ∨ i = 1 := by simp at hi; omega
  rcases hi with rfl | rfl
  · exact ⟨w.heap.size, 0, ao, ca, rfl, cell_alloc w t rfl, ha.keep0 k⟩
  · exact ⟨w.heap.size, 0, bo, cb, rfl, cell_alloc w t rfl, hb.keep0 k⟩
theorem ens_two (w : World) (t : TypeId) (x y : En) : EnsAt (w.alloc (.cells #[.string x.a, .int .u64 (x.n : Int), .string y.a, .int .u64 (y.n : Int)] t)) (some ⟨w.heap.size, 0, none⟩) [x, y] := by
  intro i hi
  have hi : i = 0 ∨ i = 1 := by simp at hi; omega
  rcases hi with rfl | rfl
  · exact ⟨w.heap.size, 0, rfl, cell_alloc w t rfl, cell_alloc w t rfl⟩
  · exact ⟨w.heap.size, 0, rfl, cell_alloc w t rfl, cell_alloc w t rfl⟩
def xA : List En := [⟨⟨#[97]⟩, 1⟩, ⟨⟨#[98]⟩, 2⟩]
def xB : List En := [⟨⟨#[97]⟩, 3⟩]
def xC : List En := [⟨⟨#[97]⟩, 3⟩, ⟨⟨#[98]⟩, 2⟩]
theorem x_join : vJoin [xA, xB] = (xC, 0) := by rfl
theorem x_order : (if vRight xA xB = true then vOrder xA xB else 0) = 2 ∧ vRight xA xB = true := ⟨by rfl, by rfl⟩
theorem x_ok : Ok10 xA ∧ Ok10 xB ∧ Ok10 xC := by
  unfold Ok10 xA xB xC maxLen
  refine ⟨⟨by decide, ?_⟩, ⟨by decide, ?_⟩, ⟨by decide, ?_⟩⟩ <;> (intro x hx; simp at hx; first | (rcases hx with rfl | rfl <;> exact ⟨by decide, by decide⟩) | (subst hx; exact ⟨by decide, by decide⟩))
theorem x_same : vSame xC xC = true := vSame_iff.2 rfl
set_option maxRecDepth 100000 in
set_option maxHeartbeats 4000000 in
theorem awake10 (V : VecCode) (w : World) : Calls Try.prog 7 #[] w fun e w' => e = .returned (.bool true) ∧ Keep0 w w' := by
  obtain ⟨okA, okB, okC⟩ := x_ok
  have zA : (w.alloc (.cells #[.string ⟨#[97]⟩, .int .u64 1, .string ⟨#[98]⟩, .int .u64 2] 45)).heap.size = w.heap.size + 1 := World.size_alloc _ _
  have zB : ((w.alloc (.cells #[.string ⟨#[97]⟩, .int .u64 1, .string ⟨#[98]⟩, .int .u64 2] 45)).alloc (.cells #[.string ⟨#[97]⟩, .int .u64 3] 45)).heap.size = w.heap.size + 1 + 1 := by rw [World.size_alloc, World.size_alloc]
  have kA : Keep0 w (w.alloc (.cells #[.string ⟨#[97]⟩, .int .u64 1, .string ⟨#[98]⟩, .int .u64 2] 45)) := (Keep.refl _ w).alloc _
  have hA : EnsAt (w.alloc (.cells #[.string ⟨#[97]⟩, .int .u64 1, .string ⟨#[98]⟩, .int .u64 2] 45)) (some ⟨w.heap.size, 0, none⟩) xA := ens_two w 45 ⟨⟨#[97]⟩, 1⟩ ⟨⟨#[98]⟩, 2⟩
  have kB : Keep0 (w.alloc (.cells #[.string ⟨#[97]⟩, .int .u64 1, .string ⟨#[98]⟩, .int .u64 2] 45)) ((w.alloc (.cells #[.string ⟨#[97]⟩, .int .u64 1, .string ⟨#[98]⟩, .int .u64 2] 45)).alloc (.cells #[.string ⟨#[97]⟩, .int .u64 3] 45)) := (Keep.refl _ _).alloc _
  have hB : EnsAt ((w.alloc (.cells #[.string ⟨#[97]⟩, .int .u64 1, .string ⟨#[98]⟩, .int .u64 2] 45)).alloc (.cells #[.string ⟨#[97]⟩, .int .u64 3] 45)) (some ⟨w.heap.size + 1, 0, none⟩) xB := by
    have := en_new (w.alloc (.cells #[.string ⟨#[97]⟩, .int .u64 1, .string ⟨#[98]⟩, .int .u64 2] 45)) 45 ⟨⟨#[97]⟩, 3⟩
    rw [zA] at this
    exact this
  have hA2 := hA.keep0 kB
  have hL : VecsAt (((w.alloc (.cells #[.string ⟨#[97]⟩, .int .u64 1, .string ⟨#[98]⟩, .int .u64 2] 45)).alloc (.cells #[.string ⟨#[97]⟩, .int .u64 3] 45)).alloc (.cells #[.slice (some ⟨w.heap.size, 0, none⟩) 2 2, .slice (some ⟨w.heap.size + 1, 0, none⟩) 1 1] 22)) (some ⟨w.heap.size + 1 + 1, 0, none⟩) [xA, xB] := by
    have := vecs_two (ca := 2) (cb := 1) 22 hA2 hB
    rw [zB] at this
    exact this
  have kL : Keep0 ((w.alloc (.cells #[.string ⟨#[97]⟩, .int .u64 1, .string ⟨#[98]⟩, .int .u64 2] 45)).alloc (.cells #[.string ⟨#[97]⟩, .int .u64 3] 45)) (((w.alloc (.cells #[.string ⟨#[97]⟩, .int .u64 1, .string ⟨#[98]⟩, .int .u64 2] 45)).alloc (.cells #[.string ⟨#[97]⟩, .int .u64 3] 45)).alloc (.cells #[.slice (some ⟨w.heap.size, 0, none⟩) 2 2, .slice (some ⟨w.heap.size + 1, 0, none⟩) 1 1] 22)) := (Keep.refl _ _).alloc _
  have hA3 := hA2.keep0 kL
  have hB3 := hB.keep0 kL
  have KL := (kA.trans kB).trans kL
  have yj := V.join _ _ 2 [xA, xB] (by decide) (by intro l hl; simp at hl; rcases hl with rfl | rfl <;> assumption) hL
  rw [x_join] at yj
  have e2 : ([xA, xB] : List (List En)).length = 2 := rfl
  rw [e2] at yj
  clear hA hB hA2 hL kA kB kL zA zB e2
  go_enter Try.func7, Try.ntmps7
  go_wp2_with fail
  generalize (((w.alloc (.cells #[.string ⟨#[97]⟩, .int .u64 1, .string ⟨#[98]⟩, .int .u64 2] 45)).alloc (.cells #[.string ⟨#[97]⟩, .int .u64 3] 45)).alloc (.cells #[.slice (some ⟨w.heap.size, 0, none⟩) 2 2, .slice (some ⟨w.heap.size + 1, 0, none⟩) 1 1] 22)) = w0 at *
  generalize w.heap.size = g at *
  refine yj.mono ?_
  rintro e w1 ⟨ao, cap, rfl, x1, x2, k1⟩
  have hA4 := hA3.keep0 k1
  have hB4 := hB3.keep0 k1
  have K1 := KL.trans k1
  have yo := V.order w1 _ _ 2 1 xA xB okA okB hA4 hB4
  rw [x_order.1, x_order.2] at yo
  have e1 : xA.length = 2 := rfl
  have e2 : xB.length = 1 := rfl
  have e3 : xC.length = 2 := rfl
  rw [e1, e2] at yo
  clear yj hA3 hB3 KL k1 x2
  go_wp2_with fail
  refine yo.mono ?_
  rintro e w2 ⟨rfl, k2⟩
  have x1 := x1.keep0 k2
  have K2 := K1.trans k2
  have kC : Keep0 w2 (w2.alloc (.cells #[.string ⟨#[97]⟩, .int .u64 3, .string ⟨#[98]⟩, .int .u64 2] 45)) := (Keep.refl _ _).alloc _
  have hC : EnsAt (w2.alloc (.cells #[.string ⟨#[97]⟩, .int .u64 3, .string ⟨#[98]⟩, .int .u64 2] 45)) (some ⟨w2.heap.size, 0, none⟩) xC := ens_two w2 45 ⟨⟨#[97]⟩, 3⟩ ⟨⟨#[98]⟩, 2⟩
  have K3 := K2.trans kC
  have ys := V.same _ _ _ cap 2 xC xC okC okC (x1.keep0 kC) hC
  rw [x_same, e3] at ys
  have e3' : (xC, (0 : Int)).1.length = 2 := rfl
  clear yo k2 K1 K2 kC hC x1 hA4 hB4 e1 e2
  go_wp2_with fail
  generalize (w2.alloc (.cells #[.string ⟨#[97]⟩, .int .u64 3, .string ⟨#[98]⟩, .int .u64 2] 45)) = w3 at *
  generalize w2.heap.size = g2 at *
  refine ys.mono ?_
  rintro e w4 ⟨rfl, k4⟩
  have K4 := K3.trans k4
  clear ys k4 K3
  go_wp2
  go_ret
  exact ⟨rfl, K4⟩
end Go.Proofs.Ytkfilkbmdnneoaa
