/-
  What package dotted's functions are claimed to answer, as one structure (DotCode), and the example that every law of layer 12 begins with, out of it.
  Conditions: at most 10,000 entries a vector, 100 clocks.
-/
import Derived.Test.YtkbihpdfafapeaaOpen12
import Derived.Test.YtkbihpdfafapeaaRefDot5
import Derived.Test.YtkbihpdfafapeaaRefDot4
namespace Go.Proofs.Ytkbihpdfafapeaa
open Go.RowKit

structure Ok12 (k : Ck) : Prop where
  len : k.c.length ≤ 10000
  fit : FitsK k
def kRight (a b : Ck) : Bool := kCheck a == 0 && kCheck b == 0
/-- What package dotted's functions answer. -/
structure DotCode : Prop where
  check : ∀ (w : World) (ao : Option Addr) (cap : Nat) (k : Ck), Ok12 k → EnsAt w ao k.c → Calls Try.prog 11 #[.agg #[.slice ao k.c.length cap, .bool k.d, .string k.x.a, .int .u64 (k.x.n : Int)]] w fun e w' => e = .returned (.int .i64 (kCheck k)) ∧ Keep0 w w'
  knows : ∀ (w : World) (ao : Option Addr) (cap : Nat) (k : Ck), Ok12 k → EnsAt w ao k.c → ∀ (s : ByteArray) (n : Nat), s.size ≤ maxLen → n < 18446744073709551616 → Calls Try.prog 14 #[.agg #[.slice ao k.c.length cap, .bool k.d, .string k.x.a, .int .u64 (k.x.n : Int)], .string s, .int .u64 (n : Int)] w fun e w' => e = .returned (.bool ((kCheck k == 0) && kKnows k s n)) ∧ Keep0 w w'
  covers : ∀ (w : World) (ao bo : Option Addr) (ca cb : Nat) (a b : Ck), Ok12 a → Ok12 b → EnsAt w ao a.c → EnsAt w bo b.c → Calls Try.prog 16 #[.agg #[.slice ao a.c.length ca, .bool a.d, .string a.x.a, .int .u64 (a.x.n : Int)], .agg #[.slice bo b.c.length cb, .bool b.d, .string b.x.a, .int .u64 (b.x.n : Int)]] w fun e w' => e = .returned (.bool (kRight a b && kCovers a b)) ∧ Keep0 w w'
  same : ∀ (w : World) (ao bo : Option Addr) (ca cb : Nat) (a b : Ck), Ok12 a → Ok12 b → EnsAt w ao a.c → EnsAt w bo b.c → Calls Try.prog 12 #[.agg #[.slice ao a.c.length ca, .bool a.d, .string a.x.a, .int .u64 (a.x.n : Int)], .agg #[.slice bo b.c.length cb, .bool b.d, .string b.x.a, .int .u64 (b.x.n : Int)]] w fun e w' => e = .returned (.bool (kSame a b)) ∧ Keep0 w w'
  ceiling : ∀ (w : World) (ao : Option Addr) (cap : Nat) (l : List Ck), l.length ≤ 100 → (∀ k ∈ l, Ok12 k) → ClksAt w ao l → Calls Try.prog 18 #[.slice ao l.length cap] w (REnsE (kCeil l) w)
  keep : ∀ (w : World) (ao : Option Addr) (cap : Nat) (l : List Ck), l.length ≤ 100 → (∀ k ∈ l, Ok12 k) → ClksAt w ao l → Calls Try.prog 20 #[.slice ao l.length cap] w (RNumsE (kKeep l) w)
  plain : ∀ (w : World) (ao : Option Addr) (cap : Nat) (v : List En), Fits v → v.length ≤ 10000 → EnsAt w ao v → Calls Try.prog 10 #[.slice ao v.length cap] w fun e w' => ∃ bo c, e = .returned (.agg #[.slice bo v.length c, .bool false, .string ⟨#[]⟩, .int .u64 0]) ∧ EnsAt w' bo v ∧ Keep0 w w'

theorem clks_one {w : World} {ao : Option Addr} {cap : Nat} {k : Ck} (t : TypeId) (h : EnsAt w ao k.c) :
    ClksAt (w.alloc (.cells #[.slice ao k.c.length cap, .bool k.d, .string k.x.a, .int .u64 (k.x.n : Int)] t)) (some ⟨w.heap.size, 0, none⟩) [k] := by
  have K : Keep0 w (w.alloc (.cells #[.slice ao k.c.length cap, .bool k.d, .string k.x.a, .int .u64 (k.x.n : Int)] t)) := (Keep.refl _ w).alloc _
  intro i hi
  obtain rfl : i = 0 := by simpa using hi
  exact ⟨w.heap.size, 0, ao, cap, rfl, clk_new w t k ao cap, h.keep0 K⟩
def yC : List En := [⟨⟨#[97]⟩, 1⟩]
def yV : List En := [⟨⟨#[97]⟩, 3⟩]
def yK : Ck := ⟨yC, true, ⟨⟨#[97]⟩, 3⟩⟩
theorem y_ceil : kCeil [yK] = (yV, 0) := by rfl
theorem y_knows : ((kCheck yK == 0) && kKnows yK ⟨#[97]⟩ 3) = true ∧ ((kCheck yK == 0) && kKnows yK ⟨#[97]⟩ 2) = false := ⟨by rfl, by rfl⟩
theorem y_ok : Ok12 yK := by
  refine ⟨by show 1 ≤ 10000; omega, ⟨⟨by show 1 ≤ maxLen; unfold maxLen; omega, ?_⟩, by show 1 ≤ maxLen; unfold maxLen; omega, by show 3 < 18446744073709551616; omega⟩⟩
  intro x hx
  have : x = ⟨⟨#[97]⟩, 1⟩ := by simpa [yK, yC] using hx
  subst this
  exact ⟨by show 1 ≤ maxLen; unfold maxLen; omega, by show 1 < 18446744073709551616; omega⟩
theorem y_same : vSame yV yV = true := vSame_iff.2 rfl
set_option maxRecDepth 100000 in
set_option maxHeartbeats 4000000 in
theorem awake12 (V : DotCode) (w : World) : Calls Try.prog 7 #[] w fun e w' => e = .returned (.bool true) ∧ Keep0 w w' := by
  have hC : EnsAt (w.alloc (.cells #[.string ⟨#[97]⟩, .int .u64 1] 25)) (some ⟨w.heap.size, 0, none⟩) yC := en_new w 25 ⟨⟨#[97]⟩, 1⟩
  have kA : Keep0 w (w.alloc (.cells #[.string ⟨#[97]⟩, .int .u64 1] 25)) := (Keep.refl _ w).alloc _
  have zA : (w.alloc (.cells #[.string ⟨#[97]⟩, .int .u64 1] 25)).heap.size = w.heap.size + 1 := World.size_alloc _ _
  have kB : Keep0 (w.alloc (.cells #[.string ⟨#[97]⟩, .int .u64 1] 25)) ((w.alloc (.cells #[.string ⟨#[97]⟩, .int .u64 1] 25)).alloc (.cells #[.slice (some ⟨w.heap.size, 0, none⟩) 1 1, .bool true, .string ⟨#[97]⟩, .int .u64 3] 27)) := (Keep.refl _ _).alloc _
  have zB : ((w.alloc (.cells #[.string ⟨#[97]⟩, .int .u64 1] 25)).alloc (.cells #[.slice (some ⟨w.heap.size, 0, none⟩) 1 1, .bool true, .string ⟨#[97]⟩, .int .u64 3] 27)).heap.size = w.heap.size + 1 + 1 := by rw [World.size_alloc, zA]
  have hK : ClkAt ((w.alloc (.cells #[.string ⟨#[97]⟩, .int .u64 1] 25)).alloc (.cells #[.slice (some ⟨w.heap.size, 0, none⟩) 1 1, .bool true, .string ⟨#[97]⟩, .int .u64 3] 27)) (w.heap.size + 1) 0 yK (some ⟨w.heap.size, 0, none⟩) 1 := by
    have := clk_new (w.alloc (.cells #[.string ⟨#[97]⟩, .int .u64 1] 25)) 27 yK (some ⟨w.heap.size, 0, none⟩) 1
    rw [zA] at this
    exact this
  have hC2 := hC.keep0 kB
  have hL : ClksAt (((w.alloc (.cells #[.string ⟨#[97]⟩, .int .u64 1] 25)).alloc (.cells #[.slice (some ⟨w.heap.size, 0, none⟩) 1 1, .bool true, .string ⟨#[97]⟩, .int .u64 3] 27)).alloc (.cells #[.slice (some ⟨w.heap.size, 0, none⟩) 1 1, .bool true, .string ⟨#[97]⟩, .int .u64 3] 27)) (some ⟨w.heap.size + 1 + 1, 0, none⟩) [yK] := by
    have := clks_one (k := yK) (cap := 1) 27 hC2
    rw [zB] at this
    exact this
  have kC : Keep0 ((w.alloc (.cells #[.string ⟨#[97]⟩, .int .u64 1] 25)).alloc (.cells #[.slice (some ⟨w.heap.size, 0, none⟩) 1 1, .bool true, .string ⟨#[97]⟩, .int .u64 3] 27)) (((w.alloc (.cells #[.string ⟨#[97]⟩, .int .u64 1] 25)).alloc (.cells #[.slice (some ⟨w.heap.size, 0, none⟩) 1 1, .bool true, .string ⟨#[97]⟩, .int .u64 3] 27)).alloc (.cells #[.slice (some ⟨w.heap.size, 0, none⟩) 1 1, .bool true, .string ⟨#[97]⟩, .int .u64 3] 27)) := (Keep.refl _ _).alloc _
  have hC3 := hC2.keep0 kC
  have hK3 := hK.keep0 kC
  have K3 := (kA.trans kB).trans kC
  have yc := V.ceiling _ _ 1 [yK] (by show 1 ≤ 100; omega) (by intro k hk; rw [List.mem_singleton.1 hk]; exact y_ok) hL
  rw [y_ceil] at yc
  have e1 : ([yK] : List Ck).length = 1 := rfl
  rw [e1] at yc
  clear hC hC2 hL hK kA kB kC zA zB e1
  go_enter Try.func7, Try.ntmps7
  go_wp2_with fail
  generalize (((w.alloc (.cells #[.string ⟨#[97]⟩, .int .u64 1] 25)).alloc (.cells #[.slice (some ⟨w.heap.size, 0, none⟩) 1 1, .bool true, .string ⟨#[97]⟩, .int .u64 3] 27)).alloc (.cells #[.slice (some ⟨w.heap.size, 0, none⟩) 1 1, .bool true, .string ⟨#[97]⟩, .int .u64 3] 27)) = W3 at *
  generalize w.heap.size = g at *
  refine yc.mono ?_
  rintro e w1 ⟨vo, vc, rfl, x1, x2, k1⟩
  have hC4 := hC3.keep0 k1
  have K4 := K3.trans k1
  obtain ⟨c0, c1, c2, c3⟩ := hK3.keep0 k1
  have yk := fun W (K : Keep0 w1 W) => V.knows W _ 1 yK y_ok (hC4.keep0 K) ⟨#[97]⟩ 3 (by show 1 ≤ maxLen; unfold maxLen; omega) (by decide)
  have yk2 := fun W (K : Keep0 w1 W) => V.knows W _ 1 yK y_ok (hC4.keep0 K) ⟨#[97]⟩ 2 (by show 1 ≤ maxLen; unfold maxLen; omega) (by decide)
  rw [y_knows.1] at yk
  rw [y_knows.2] at yk2
  have yk := yk w1 (Keep.refl _ _)
  have c0 : w1.cell? ⟨g + 1, 0, none⟩ = some (.slice (some ⟨g, 0, none⟩) 1 1) := c0
  have c1 : w1.cell? ⟨g + 1, 1, none⟩ = some (.bool true) := c1
  have c2 : w1.cell? ⟨g + 1, 2, none⟩ = some (.string ⟨#[97]⟩) := c2
  have c3 : w1.cell? ⟨g + 1, 3, none⟩ = some (.int .u64 3) := c3
  have yk : Calls Try.prog 14 #[.agg #[.slice (some ⟨g, 0, none⟩) 1 1, .bool true, .string ⟨#[97]⟩, .int .u64 3], .string ⟨#[97]⟩, .int .u64 3] w1 fun e w' => e = .returned (.bool true) ∧ Keep0 w1 w' := yk
  have x1 : EnsAt w1 vo yV := x1
  clear yc hC3 hK3 K3 x2 k1
  go_wp2_with fail
  refine yk.mono ?_
  rintro e w2 ⟨rfl, k2⟩
  have K5 := K4.trans k2
  have d0 := k2.cell c0 (fun f => f)
  have d1 := k2.cell c1 (fun f => f)
  have d2 := k2.cell c2 (fun f => f)
  have d3 := k2.cell c3 (fun f => f)
  have x1 := x1.keep0 k2
  have yk2 := yk2 w2 k2
  have yk2 : Calls Try.prog 14 #[.agg #[.slice (some ⟨g, 0, none⟩) 1 1, .bool true, .string ⟨#[97]⟩, .int .u64 3], .string ⟨#[97]⟩, .int .u64 2] w2 fun e w' => e = .returned (.bool false) ∧ Keep0 w2 w' := yk2
  clear yk K4 k2 c0 c1 c2 c3
  go_wp2_with fail
  refine yk2.mono ?_
  rintro e w4 ⟨rfl, k4⟩
  have K6 := K5.trans k4
  have x1 := x1.keep0 k4
  clear yk2 K5 k4 d0 d1 d2 d3
  have kE : Keep0 w4 (w4.alloc (.cells #[.string ⟨#[97]⟩, .int .u64 3] 25)) := (Keep.refl _ _).alloc _
  have hE : EnsAt (w4.alloc (.cells #[.string ⟨#[97]⟩, .int .u64 3] 25)) (some ⟨w4.heap.size, 0, none⟩) yV := en_new w4 25 ⟨⟨#[97]⟩, 3⟩
  have K7 := K6.trans kE
  have ys := rsame10 _ vo _ vc 1 yV yV (by show 1 ≤ maxLen; unfold maxLen; omega) (by show 1 ≤ maxLen; unfold maxLen; omega) (x1.keep0 kE) hE
  rw [y_same] at ys
  have e1 : yV.length = 1 := rfl
  rw [e1] at ys
  have e2 : (yV, (0 : Int)).1.length = 1 := rfl
  clear kE hE K6 x1
  go_wp2_with fail
  generalize (w4.alloc (.cells #[.string ⟨#[97]⟩, .int .u64 3] 25)) = w5 at *
  generalize w4.heap.size = g2 at *
  refine ys.mono ?_
  rintro e w6 ⟨rfl, hw6⟩
  have K8 := K7.trans (keepN hw6)
  clear ys hw6 K7
  go_wp2
  go_ret
  exact ⟨rfl, K8⟩
end Go.Proofs.Ytkbihpdfafapeaa
