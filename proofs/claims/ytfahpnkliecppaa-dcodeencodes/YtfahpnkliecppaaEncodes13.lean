/-
  The walk of the law DcodeEncodes, out of what package dcode's functions answer (DcCode) and of the document's own answers.
  Conditions: none beyond that the arguments can be read as data.
-/
import Derived.Test.YtfahpnkliecppaaLaw13
import Derived.Test.YtfahpnkliecppaaCuts13
namespace Go.Proofs.Ytfahpnkliecppaa
open Go.RowKit

set_option maxRecDepth 100000 in
set_option maxHeartbeats 8000000 in
theorem dcodeEncodes_law (V : DcCode) (w : World) (ao : Option Addr) (ca : Nat) (a : Ck) (fa : FitsK a) (hA : EnsAt w ao a.c) (bo : Option Addr) (cb : Nat) (b : Ck) (fb : FitsK b) (hB : EnsAt w bo b.c) :
    Calls Try.prog 3 #[.agg #[.slice ao a.c.length ca, .bool a.d, .string a.x.a, .int .u64 (a.x.n : Int)], .agg #[.slice bo b.c.length cb, .bool b.d, .string b.x.a, .int .u64 (b.x.n : Int)]] w fun e w' => e = .returned (.bool true) ∧ Keep0 w w' := by
  have yga := fun W (h : EnsAt W ao a.c) => rgreat12 W ao ca a fa h
  have ygb := fun W (h : EnsAt W bo b.c) => rgreat12 W bo cb b fb h
  have kB : Keep0 w ((w.alloc (.cells #[.slice ao a.c.length ca, .bool a.d, .string a.x.a, .int .u64 (a.x.n : Int)] 27)).alloc (.cells #[.slice bo b.c.length cb, .bool b.d, .string b.x.a, .int .u64 (b.x.n : Int)] 27)) := ((Keep.refl _ w).alloc _).alloc _
  have k0 : Keep0 (w.alloc (.cells #[.slice ao a.c.length ca, .bool a.d, .string a.x.a, .int .u64 (a.x.n : Int)] 27)) ((w.alloc (.cells #[.slice ao a.c.length ca, .bool a.d, .string a.x.a, .int .u64 (a.x.n : Int)] 27)).alloc (.cells #[.slice bo b.c.length cb, .bool b.d, .string b.x.a, .int .u64 (b.x.n : Int)] 27)) := (Keep.refl _ _).alloc _
  have hX : ClkAt ((w.alloc (.cells #[.slice ao a.c.length ca, .bool a.d, .string a.x.a, .int .u64 (a.x.n : Int)] 27)).alloc (.cells #[.slice bo b.c.length cb, .bool b.d, .string b.x.a, .int .u64 (b.x.n : Int)] 27)) w.heap.size 0 a ao ca := (clk_new w 27 a ao ca).keep0 k0
  have hZ : ClkAt ((w.alloc (.cells #[.slice ao a.c.length ca, .bool a.d, .string a.x.a, .int .u64 (a.x.n : Int)] 27)).alloc (.cells #[.slice bo b.c.length cb, .bool b.d, .string b.x.a, .int .u64 (b.x.n : Int)] 27)) (w.heap.size + 1) 0 b bo cb := by
    have := clk_new (w.alloc (.cells #[.slice ao a.c.length ca, .bool a.d, .string a.x.a, .int .u64 (a.x.n : Int)] 27)) 27 b bo cb
    rw [World.size_alloc] at this
    exact this
  have yw := awake13 V ((w.alloc (.cells #[.slice ao a.c.length ca, .bool a.d, .string a.x.a, .int .u64 (a.x.n : Int)] 27)).alloc (.cells #[.slice bo b.c.length cb, .bool b.d, .string b.x.a, .int .u64 (b.x.n : Int)] 27))
  have hA := hA.keep0 kB
  have hB := hB.keep0 kB
  clear k0
  cases hga : kGreat a with
  | true =>
    rw [hga] at yga
    go_enter Try.func3, Try.ntmps3
    go_wp2_with fail
    generalize ((w.alloc (.cells #[.slice ao a.c.length ca, .bool a.d, .string a.x.a, .int .u64 (a.x.n : Int)] 27)).alloc (.cells #[.slice bo b.c.length cb, .bool b.d, .string b.x.a, .int .u64 (b.x.n : Int)] 27)) = WB at *
    generalize w.heap.size = g at *
    refine yw.mono ?_
    rintro e w1 ⟨rfl, k1⟩
    have K1 := kB.trans k1
    obtain ⟨a0, a1, a2, a3⟩ := hX.keep0 k1
    obtain ⟨b0, b1, b2, b3⟩ := hZ.keep0 k1
    have hA1 := hA.keep0 k1
    have hB1 := hB.keep0 k1
    clear kB k1 hX hZ yw hA hB
    go_wp2_with fail
    refine (yga w1 hA1).mono ?_
    rintro e w2 ⟨rfl, k⟩
    replace a0 := k.cell a0 (fun f => f)
    replace a1 := k.cell a1 (fun f => f)
    replace a2 := k.cell a2 (fun f => f)
    replace a3 := k.cell a3 (fun f => f)
    replace b0 := k.cell b0 (fun f => f)
    replace b1 := k.cell b1 (fun f => f)
    replace b2 := k.cell b2 (fun f => f)
    replace b3 := k.cell b3 (fun f => f)
    have hA2 := hA1.keep0 k
    have hB2 := hB1.keep0 k
    have K2 := K1.trans k
    clear k hA1 hB1 K1
    go_wp2
    go_ret
    exact ⟨rfl, K2⟩
  | false =>
    rw [hga] at yga
    cases hgb : kGreat b with
    | true =>
      rw [hgb] at ygb
      go_enter Try.func3, Try.ntmps3
      go_wp2_with fail
      generalize ((w.alloc (.cells #[.slice ao a.c.length ca, .bool a.d, .string a.x.a, .int .u64 (a.x.n : Int)] 27)).alloc (.cells #[.slice bo b.c.length cb, .bool b.d, .string b.x.a, .int .u64 (b.x.n : Int)] 27)) = WB at *
      generalize w.heap.size = g at *
      refine yw.mono ?_
      rintro e w1 ⟨rfl, k1⟩
      have K1 := kB.trans k1
      obtain ⟨a0, a1, a2, a3⟩ := hX.keep0 k1
      obtain ⟨b0, b1, b2, b3⟩ := hZ.keep0 k1
      have hA1 := hA.keep0 k1
      have hB1 := hB.keep0 k1
      clear kB k1 hX hZ yw hA hB
      go_wp2_with fail
      refine (yga w1 hA1).mono ?_
      rintro e w2 ⟨rfl, k⟩
      replace a0 := k.cell a0 (fun f => f)
      replace a1 := k.cell a1 (fun f => f)
      replace a2 := k.cell a2 (fun f => f)
      replace a3 := k.cell a3 (fun f => f)
      replace b0 := k.cell b0 (fun f => f)
      replace b1 := k.cell b1 (fun f => f)
      replace b2 := k.cell b2 (fun f => f)
      replace b3 := k.cell b3 (fun f => f)
      have hA2 := hA1.keep0 k
      have hB2 := hB1.keep0 k
      have K2 := K1.trans k
      clear k hA1 hB1 K1
      go_wp2_with fail
      refine (ygb w2 hB2).mono ?_
      rintro e w3 ⟨rfl, k⟩
      replace a0 := k.cell a0 (fun f => f)
      replace a1 := k.cell a1 (fun f => f)
      replace a2 := k.cell a2 (fun f => f)
      replace a3 := k.cell a3 (fun f => f)
      replace b0 := k.cell b0 (fun f => f)
      replace b1 := k.cell b1 (fun f => f)
      replace b2 := k.cell b2 (fun f => f)
      replace b3 := k.cell b3 (fun f => f)
      have hA3 := hA2.keep0 k
      have hB3 := hB2.keep0 k
      have K3 := K2.trans k
      clear k hA2 hB2 K2
      go_wp2
      go_ret
      exact ⟨rfl, K3⟩
    | false =>
      rw [hgb] at ygb
      have la : a.c.length ≤ 100 := by unfold kGreat at hga; rw [Bool.or_eq_false_iff] at hga; exact (great_no hga.1).1
      have lb : b.c.length ≤ 100 := by unfold kGreat at hgb; rw [Bool.or_eq_false_iff] at hgb; exact (great_no hgb.1).1
      have okA : Ok13 a := ⟨by omega, fa⟩
      have okB : Ok13 b := ⟨by omega, fb⟩
      have ye := fun W (h : EnsAt W ao a.c) => V.encode W ao ca a okA h
      have yra := fun W (h : EnsAt W ao a.c) => rencode13 W ao ca a fa h
      have yrb := fun W (h : EnsAt W bo b.c) => rencode13 W bo cb b fb h
      have ybl := fun W (h : EnsAt W ao a.c) (h' : EnsAt W bo b.c) => V.below W ao bo ca cb a b okA okB h h'
      by_cases h0 : kCheck a = 0
      · by_cases h1 : kCheck b = 0
        · have hka : okClk a := ⟨h0, okA.u64.1, okA.u64.2⟩
          have hkb : okClk b := ⟨h1, okB.u64.1, okB.u64.2⟩
          have hsa := eClk_size hka
          have hsb := eClk_size hkb
          have hbe : kBelow a b = (bl (eClk a) (eClk b), 0) := if_pos ⟨h0, h1⟩
          rw [encK_yes h0] at ye yra
          rw [encK_yes h1] at yrb
          rw [hbe] at ybl
          have yd := fun W => V.decode W (eClk a) (by omega)
          rw [decK_enc hka] at yd
          replace yd : ∀ W, Calls Try.prog 12 #[.string (eClk a)] W fun e w' => ∃ vo vc, e = .returned (.tuple #[.agg #[.slice vo a.c.length vc, .bool a.d, .string a.x.a, .int .u64 (a.x.n : Int)], .int .i64 0]) ∧ EnsAt w' vo a.c ∧ (∀ g off m, vo = some ⟨g, off, m⟩ → W.heap.size ≤ g) ∧ Keep0 W w' := yd
          have ysm := fun W vo vc (h : EnsAt W vo a.c) (h' : EnsAt W ao a.c) => rsame12 W vo ao vc ca a a fa fa h h'
          rw [kSame_iff.2 rfl] at ysm
          have ylo : ∀ W : World, Calls Try.prog 14 #[.string (eClk a), .string (eClk b)] W fun e w' => e = .returned (.bool (bl (eClk a) (eClk b))) ∧ ∃ m, w' = W.drewN m := fun W => rbelow_q W 0 (eClk a) (eClk b) (by unfold maxLen; omega) (by unfold maxLen; omega)
          generalize bl (eClk a) (eClk b) = BL at *
          generalize eClk a = EA at *
          generalize eClk b = EB at *
          clear hka hkb hsa hsb hbe h0 h1 hga hgb la lb okA okB
          go_enter Try.func3, Try.ntmps3
          go_wp2_with fail
          generalize ((w.alloc (.cells #[.slice ao a.c.length ca, .bool a.d, .string a.x.a, .int .u64 (a.x.n : Int)] 27)).alloc (.cells #[.slice bo b.c.length cb, .bool b.d, .string b.x.a, .int .u64 (b.x.n : Int)] 27)) = WB at *
          generalize w.heap.size = g at *
          refine yw.mono ?_
          rintro e w1 ⟨rfl, k1⟩
          have K1 := kB.trans k1
          obtain ⟨a0, a1, a2, a3⟩ := hX.keep0 k1
          obtain ⟨b0, b1, b2, b3⟩ := hZ.keep0 k1
          have hA1 := hA.keep0 k1
          have hB1 := hB.keep0 k1
          clear kB k1 hX hZ yw hA hB
          go_wp2_with fail
          refine (yga w1 hA1).mono ?_
          rintro e w2 ⟨rfl, k⟩
          replace a0 := k.cell a0 (fun f => f)
          replace a1 := k.cell a1 (fun f => f)
          replace a2 := k.cell a2 (fun f => f)
          replace a3 := k.cell a3 (fun f => f)
          replace b0 := k.cell b0 (fun f => f)
          replace b1 := k.cell b1 (fun f => f)
          replace b2 := k.cell b2 (fun f => f)
          replace b3 := k.cell b3 (fun f => f)
          have hA2 := hA1.keep0 k
          have hB2 := hB1.keep0 k
          have K2 := K1.trans k
          clear k hA1 hB1 K1
          go_wp2_with fail
          refine (ygb w2 hB2).mono ?_
          rintro e w3 ⟨rfl, k⟩
          replace a0 := k.cell a0 (fun f => f)
          replace a1 := k.cell a1 (fun f => f)
          replace a2 := k.cell a2 (fun f => f)
          replace a3 := k.cell a3 (fun f => f)
          replace b0 := k.cell b0 (fun f => f)
          replace b1 := k.cell b1 (fun f => f)
          replace b2 := k.cell b2 (fun f => f)
          replace b3 := k.cell b3 (fun f => f)
          have hA3 := hA2.keep0 k
          have hB3 := hB2.keep0 k
          have K3 := K2.trans k
          clear k hA2 hB2 K2
          go_wp2_with fail
          refine (ye w3 hA3).mono ?_
          rintro e w4 ⟨rfl, k⟩
          replace a0 := k.cell a0 (fun f => f)
          replace a1 := k.cell a1 (fun f => f)
          replace a2 := k.cell a2 (fun f => f)
          replace a3 := k.cell a3 (fun f => f)
          replace b0 := k.cell b0 (fun f => f)
          replace b1 := k.cell b1 (fun f => f)
          replace b2 := k.cell b2 (fun f => f)
          replace b3 := k.cell b3 (fun f => f)
          have hA4 := hA3.keep0 k
          have hB4 := hB3.keep0 k
          have K4 := K3.trans k
          clear k hA3 hB3 K3
          go_wp2_with fail
          refine (yra w4 hA4).mono ?_
          rintro e w5 ⟨rfl, k⟩
          replace a0 := k.cell a0 (fun f => f)
          replace a1 := k.cell a1 (fun f => f)
          replace a2 := k.cell a2 (fun f => f)
          replace a3 := k.cell a3 (fun f => f)
          replace b0 := k.cell b0 (fun f => f)
          replace b1 := k.cell b1 (fun f => f)
          replace b2 := k.cell b2 (fun f => f)
          replace b3 := k.cell b3 (fun f => f)
          have hA5 := hA4.keep0 k
          have hB5 := hB4.keep0 k
          have K5 := K4.trans k
          clear k hA4 hB4 K4
          go_wp2_with fail
          refine (yrb w5 hB5).mono ?_
          rintro e w6 ⟨rfl, k⟩
          replace a0 := k.cell a0 (fun f => f)
          replace a1 := k.cell a1 (fun f => f)
          replace a2 := k.cell a2 (fun f => f)
          replace a3 := k.cell a3 (fun f => f)
          replace b0 := k.cell b0 (fun f => f)
          replace b1 := k.cell b1 (fun f => f)
          replace b2 := k.cell b2 (fun f => f)
          replace b3 := k.cell b3 (fun f => f)
          have hA6 := hA5.keep0 k
          have hB6 := hB5.keep0 k
          have K6 := K5.trans k
          clear k hA5 hB5 K5
          go_wp2_with fail
          refine (ybl w6 hA6 hB6).mono ?_
          rintro e w7 ⟨rfl, k⟩
          replace a0 := k.cell a0 (fun f => f)
          replace a1 := k.cell a1 (fun f => f)
          replace a2 := k.cell a2 (fun f => f)
          replace a3 := k.cell a3 (fun f => f)
          replace b0 := k.cell b0 (fun f => f)
          replace b1 := k.cell b1 (fun f => f)
          replace b2 := k.cell b2 (fun f => f)
          replace b3 := k.cell b3 (fun f => f)
          have hA7 := hA6.keep0 k
          have hB7 := hB6.keep0 k
          have K7 := K6.trans k
          clear k hA6 hB6 K6
          go_wp2_with fail
          refine (yd w7).mono ?_
          rintro e w8 ⟨vo, vc, rfl, x1, _, k⟩
          replace a0 := k.cell a0 (fun f => f)
          replace a1 := k.cell a1 (fun f => f)
          replace a2 := k.cell a2 (fun f => f)
          replace a3 := k.cell a3 (fun f => f)
          replace b0 := k.cell b0 (fun f => f)
          replace b1 := k.cell b1 (fun f => f)
          replace b2 := k.cell b2 (fun f => f)
          replace b3 := k.cell b3 (fun f => f)
          have hA8 := hA7.keep0 k
          have hB8 := hB7.keep0 k
          have K8 := K7.trans k
          clear k hA7 hB7 K7
          have kV : Keep0 w8 (w8.alloc (.cells #[.slice vo a.c.length vc, .bool a.d, .string a.x.a, .int .u64 (a.x.n : Int)] 27)) := (Keep.refl _ _).alloc _
          have hV := clk_new w8 27 a vo vc
          replace a0 := kV.cell a0 (fun f => f)
          replace a1 := kV.cell a1 (fun f => f)
          replace a2 := kV.cell a2 (fun f => f)
          replace a3 := kV.cell a3 (fun f => f)
          replace b0 := kV.cell b0 (fun f => f)
          replace b1 := kV.cell b1 (fun f => f)
          replace b2 := kV.cell b2 (fun f => f)
          replace b3 := kV.cell b3 (fun f => f)
          have hA9 := hA8.keep0 kV
          have hB9 := hB8.keep0 kV
          have K9 := K8.trans kV
          have x1 := x1.keep0 kV
          clear kV hA8 hB8 K8
          obtain ⟨v0, v1, v2, v3⟩ := hV
          go_wp2_with fail
          generalize (w8.alloc (.cells #[.slice vo a.c.length vc, .bool a.d, .string a.x.a, .int .u64 (a.x.n : Int)] 27)) = w9 at *
          generalize w8.heap.size = gv at *
          refine (ysm w9 vo vc x1 hA9).mono ?_
          rintro e w10 ⟨rfl, k⟩
          have K10 := K9.trans k
          clear k
          go_wp2_with fail
          refine (ylo w10).mono ?_
          rintro e w11 ⟨rfl, hw⟩
          have K11 := K10.trans (keepN hw)
          clear hw
          go_wp2
          go_ret
          exact ⟨by simp, K11⟩
        · have hbe : kBelow a b = (false, 1) := if_neg (fun e => h1 e.2)
          rw [encK_yes h0] at ye yra
          rw [encK_no h1] at yrb
          rw [hbe] at ybl
          have e0 : (kCheck b != 0) = true := by simpa using h1
          clear h0 h1 hga hgb la lb okA okB hbe
          generalize eClk a = EA at *
          generalize kCheck b = CB at *
          go_enter Try.func3, Try.ntmps3
          go_wp2_with fail
          generalize ((w.alloc (.cells #[.slice ao a.c.length ca, .bool a.d, .string a.x.a, .int .u64 (a.x.n : Int)] 27)).alloc (.cells #[.slice bo b.c.length cb, .bool b.d, .string b.x.a, .int .u64 (b.x.n : Int)] 27)) = WB at *
          generalize w.heap.size = g at *
          refine yw.mono ?_
          rintro e w1 ⟨rfl, k1⟩
          have K1 := kB.trans k1
          obtain ⟨a0, a1, a2, a3⟩ := hX.keep0 k1
          obtain ⟨b0, b1, b2, b3⟩ := hZ.keep0 k1
          have hA1 := hA.keep0 k1
          have hB1 := hB.keep0 k1
          clear kB k1 hX hZ yw hA hB
          go_wp2_with fail
          refine (yga w1 hA1).mono ?_
          rintro e w2 ⟨rfl, k⟩
          replace a0 := k.cell a0 (fun f => f)
          replace a1 := k.cell a1 (fun f => f)
          replace a2 := k.cell a2 (fun f => f)
          replace a3 := k.cell a3 (fun f => f)
          replace b0 := k.cell b0 (fun f => f)
          replace b1 := k.cell b1 (fun f => f)
          replace b2 := k.cell b2 (fun f => f)
          replace b3 := k.cell b3 (fun f => f)
          have hA2 := hA1.keep0 k
          have hB2 := hB1.keep0 k
          have K2 := K1.trans k
          clear k hA1 hB1 K1
          go_wp2_with fail
          refine (ygb w2 hB2).mono ?_
          rintro e w3 ⟨rfl, k⟩
          replace a0 := k.cell a0 (fun f => f)
          replace a1 := k.cell a1 (fun f => f)
          replace a2 := k.cell a2 (fun f => f)
          replace a3 := k.cell a3 (fun f => f)
          replace b0 := k.cell b0 (fun f => f)
          replace b1 := k.cell b1 (fun f => f)
          replace b2 := k.cell b2 (fun f => f)
          replace b3 := k.cell b3 (fun f => f)
          have hA3 := hA2.keep0 k
          have hB3 := hB2.keep0 k
          have K3 := K2.trans k
          clear k hA2 hB2 K2
          go_wp2_with fail
          refine (ye w3 hA3).mono ?_
          rintro e w4 ⟨rfl, k⟩
          replace a0 := k.cell a0 (fun f => f)
          replace a1 := k.cell a1 (fun f => f)
          replace a2 := k.cell a2 (fun f => f)
          replace a3 := k.cell a3 (fun f => f)
          replace b0 := k.cell b0 (fun f => f)
          replace b1 := k.cell b1 (fun f => f)
          replace b2 := k.cell b2 (fun f => f)
          replace b3 := k.cell b3 (fun f => f)
          have hA4 := hA3.keep0 k
          have hB4 := hB3.keep0 k
          have K4 := K3.trans k
          clear k hA3 hB3 K3
          go_wp2_with fail
          refine (yra w4 hA4).mono ?_
          rintro e w5 ⟨rfl, k⟩
          replace a0 := k.cell a0 (fun f => f)
          replace a1 := k.cell a1 (fun f => f)
          replace a2 := k.cell a2 (fun f => f)
          replace a3 := k.cell a3 (fun f => f)
          replace b0 := k.cell b0 (fun f => f)
          replace b1 := k.cell b1 (fun f => f)
          replace b2 := k.cell b2 (fun f => f)
          replace b3 := k.cell b3 (fun f => f)
          have hA5 := hA4.keep0 k
          have hB5 := hB4.keep0 k
          have K5 := K4.trans k
          clear k hA4 hB4 K4
          go_wp2_with fail
          refine (yrb w5 hB5).mono ?_
          rintro e w6 ⟨rfl, k⟩
          replace a0 := k.cell a0 (fun f => f)
          replace a1 := k.cell a1 (fun f => f)
          replace a2 := k.cell a2 (fun f => f)
          replace a3 := k.cell a3 (fun f => f)
          replace b0 := k.cell b0 (fun f => f)
          replace b1 := k.cell b1 (fun f => f)
          replace b2 := k.cell b2 (fun f => f)
          replace b3 := k.cell b3 (fun f => f)
          have hA6 := hA5.keep0 k
          have hB6 := hB5.keep0 k
          have K6 := K5.trans k
          clear k hA5 hB5 K5
          go_wp2_with fail
          refine (ybl w6 hA6 hB6).mono ?_
          rintro e w7 ⟨rfl, k⟩
          replace a0 := k.cell a0 (fun f => f)
          replace a1 := k.cell a1 (fun f => f)
          replace a2 := k.cell a2 (fun f => f)
          replace a3 := k.cell a3 (fun f => f)
          replace b0 := k.cell b0 (fun f => f)
          replace b1 := k.cell b1 (fun f => f)
          replace b2 := k.cell b2 (fun f => f)
          replace b3 := k.cell b3 (fun f => f)
          have hA7 := hA6.keep0 k
          have hB7 := hB6.keep0 k
          have K7 := K6.trans k
          clear k hA6 hB6 K6
          go_wp2
          go_ret
          exact ⟨by simp, K7⟩
      · have hbe : kBelow a b = (false, 1) := if_neg (fun e => h0 e.1)
        rw [encK_no h0] at ye yra
        rw [hbe] at ybl
        have e0 : (kCheck a != 0) = true := by simpa using h0
        clear h0 hga hgb la lb okA okB hbe
        generalize (encK b).1 = EB at *
        generalize (encK b).2 = CB at *
        generalize kCheck a = CA at *
        go_enter Try.func3, Try.ntmps3
        go_wp2_with fail
        generalize ((w.alloc (.cells #[.slice ao a.c.length ca, .bool a.d, .string a.x.a, .int .u64 (a.x.n : Int)] 27)).alloc (.cells #[.slice bo b.c.length cb, .bool b.d, .string b.x.a, .int .u64 (b.x.n : Int)] 27)) = WB at *
        generalize w.heap.size = g at *
        refine yw.mono ?_
        rintro e w1 ⟨rfl, k1⟩
        have K1 := kB.trans k1
        obtain ⟨a0, a1, a2, a3⟩ := hX.keep0 k1
        obtain ⟨b0, b1, b2, b3⟩ := hZ.keep0 k1
        have hA1 := hA.keep0 k1
        have hB1 := hB.keep0 k1
        clear kB k1 hX hZ yw hA hB
        go_wp2_with fail
        refine (yga w1 hA1).mono ?_
        rintro e w2 ⟨rfl, k⟩
        replace a0 := k.cell a0 (fun f => f)
        replace a1 := k.cell a1 (fun f => f)
        replace a2 := k.cell a2 (fun f => f)
        replace a3 := k.cell a3 (fun f => f)
        replace b0 := k.cell b0 (fun f => f)
        replace b1 := k.cell b1 (fun f => f)
        replace b2 := k.cell b2 (fun f => f)
        replace b3 := k.cell b3 (fun f => f)
        have hA2 := hA1.keep0 k
        have hB2 := hB1.keep0 k
        have K2 := K1.trans k
        clear k hA1 hB1 K1
        go_wp2_with fail
        refine (ygb w2 hB2).mono ?_
        rintro e w3 ⟨rfl, k⟩
        replace a0 := k.cell a0 (fun f => f)
        replace a1 := k.cell a1 (fun f => f)
        replace a2 := k.cell a2 (fun f => f)
        replace a3 := k.cell a3 (fun f => f)
        replace b0 := k.cell b0 (fun f => f)
        replace b1 := k.cell b1 (fun f => f)
        replace b2 := k.cell b2 (fun f => f)
        replace b3 := k.cell b3 (fun f => f)
        have hA3 := hA2.keep0 k
        have hB3 := hB2.keep0 k
        have K3 := K2.trans k
        clear k hA2 hB2 K2
        go_wp2_with fail
        refine (ye w3 hA3).mono ?_
        rintro e w4 ⟨rfl, k⟩
        replace a0 := k.cell a0 (fun f => f)
        replace a1 := k.cell a1 (fun f => f)
        replace a2 := k.cell a2 (fun f => f)
        replace a3 := k.cell a3 (fun f => f)
        replace b0 := k.cell b0 (fun f => f)
        replace b1 := k.cell b1 (fun f => f)
        replace b2 := k.cell b2 (fun f => f)
        replace b3 := k.cell b3 (fun f => f)
        have hA4 := hA3.keep0 k
        have hB4 := hB3.keep0 k
        have K4 := K3.trans k
        clear k hA3 hB3 K3
        go_wp2_with fail
        refine (yra w4 hA4).mono ?_
        rintro e w5 ⟨rfl, k⟩
        replace a0 := k.cell a0 (fun f => f)
        replace a1 := k.cell a1 (fun f => f)
        replace a2 := k.cell a2 (fun f => f)
        replace a3 := k.cell a3 (fun f => f)
        replace b0 := k.cell b0 (fun f => f)
        replace b1 := k.cell b1 (fun f => f)
        replace b2 := k.cell b2 (fun f => f)
        replace b3 := k.cell b3 (fun f => f)
        have hA5 := hA4.keep0 k
        have hB5 := hB4.keep0 k
        have K5 := K4.trans k
        clear k hA4 hB4 K4
        go_wp2_with fail
        refine (yrb w5 hB5).mono ?_
        rintro e w6 ⟨rfl, k⟩
        replace a0 := k.cell a0 (fun f => f)
        replace a1 := k.cell a1 (fun f => f)
        replace a2 := k.cell a2 (fun f => f)
        replace a3 := k.cell a3 (fun f => f)
        replace b0 := k.cell b0 (fun f => f)
        replace b1 := k.cell b1 (fun f => f)
        replace b2 := k.cell b2 (fun f => f)
        replace b3 := k.cell b3 (fun f => f)
        have hA6 := hA5.keep0 k
        have hB6 := hB5.keep0 k
        have K6 := K5.trans k
        clear k hA5 hB5 K5
        go_wp2_with fail
        refine (ybl w6 hA6 hB6).mono ?_
        rintro e w7 ⟨rfl, k⟩
        replace a0 := k.cell a0 (fun f => f)
        replace a1 := k.cell a1 (fun f => f)
        replace a2 := k.cell a2 (fun f => f)
        replace a3 := k.cell a3 (fun f => f)
        replace b0 := k.cell b0 (fun f => f)
        replace b1 := k.cell b1 (fun f => f)
        replace b2 := k.cell b2 (fun f => f)
        replace b3 := k.cell b3 (fun f => f)
        have hA7 := hA6.keep0 k
        have hB7 := hB6.keep0 k
        have K7 := K6.trans k
        clear k hA6 hB6 K6
        go_wp2
        go_ret
        exact ⟨by simp, K7⟩
end Go.Proofs.Ytfahpnkliecppaa
