/-
  The walk of the law DcodeCuts, out of what package dcode's functions answer (DcCode) and of the document's own answers.
  Conditions: none beyond that the arguments can be read as data.
-/
import Derived.Test.YtfahpnkliecppaaLaw13
namespace Go.Proofs.Ytfahpnkliecppaa
open Go.RowKit

theorem encK_no {k : Ck} (h : kCheck k ≠ 0) : encK k = (⟨#[]⟩, kCheck k) := if_neg h
theorem encK_yes {k : Ck} (h : kCheck k = 0) : encK k = (eClk k, 0) := if_pos h
set_option maxRecDepth 100000 in
set_option maxHeartbeats 8000000 in
theorem dcodeCuts_law (V : DcCode) (w : World) (ao : Option Addr) (cap : Nat) (k : Ck) (fk : FitsK k) (hA : EnsAt w ao k.c) (t : ByteArray) (ht : t.size ≤ maxLen) :
    Calls Try.prog 6 #[.agg #[.slice ao k.c.length cap, .bool k.d, .string k.x.a, .int .u64 (k.x.n : Int)], .string t] w fun e w' => e = .returned (.bool true) ∧ Keep0 w w' := by
  have yg := fun W (h : EnsAt W ao k.c) => rgreat12 W ao cap k fk h
  have i0 : (t.size : Int) ≤ 9223372036854775807 := by unfold maxLen at ht; omega
  have kB : Keep0 w (w.alloc (.cells #[.slice ao k.c.length cap, .bool k.d, .string k.x.a, .int .u64 (k.x.n : Int)] 27)) := (Keep.refl _ w).alloc _
  have hX := clk_new w 27 k ao cap
  have yw := awake13 V (w.alloc (.cells #[.slice ao k.c.length cap, .bool k.d, .string k.x.a, .int .u64 (k.x.n : Int)] 27))
  have hA := hA.keep0 kB
  cases ga : kGreat k with
  | true =>
    rw [ga] at yg
    go_enter Try.func6, Try.ntmps6
    go_wp2_with fail
    generalize (w.alloc (.cells #[.slice ao k.c.length cap, .bool k.d, .string k.x.a, .int .u64 (k.x.n : Int)] 27)) = W0 at *
    generalize w.heap.size = g at *
    refine yw.mono ?_
    rintro e w1 ⟨rfl, k1⟩
    have K1 := kB.trans k1
    obtain ⟨a0, a1, a2, a3⟩ := hX.keep0 k1
    have hA1 := hA.keep0 k1
    clear kB k1 hX yw hA
    go_wp2_with fail
    refine (yg w1 hA1).mono ?_
    rintro e w2 ⟨rfl, k2⟩
    have K2 := K1.trans k2
    replace a0 := k2.cell a0 (fun f => f)
    replace a1 := k2.cell a1 (fun f => f)
    replace a2 := k2.cell a2 (fun f => f)
    replace a3 := k2.cell a3 (fun f => f)
    have hA2 := hA1.keep0 k2
    clear K1 k2 yg hA1
    go_wp2
    go_ret
    exact ⟨rfl, K2⟩
  | false =>
    rw [ga] at yg
    by_cases h1 : t.size = 0
    · have i1 : (t.size : Int) = 0 := by omega
      go_enter Try.func6, Try.ntmps6
      go_wp2_with fail
      generalize (w.alloc (.cells #[.slice ao k.c.length cap, .bool k.d, .string k.x.a, .int .u64 (k.x.n : Int)] 27)) = W0 at *
      generalize w.heap.size = g at *
      refine yw.mono ?_
      rintro e w1 ⟨rfl, k1⟩
      have K1 := kB.trans k1
      obtain ⟨a0, a1, a2, a3⟩ := hX.keep0 k1
      have hA1 := hA.keep0 k1
      clear kB k1 hX yw hA
      go_wp2_with fail
      refine (yg w1 hA1).mono ?_
      rintro e w2 ⟨rfl, k2⟩
      have K2 := K1.trans k2
      replace a0 := k2.cell a0 (fun f => f)
      replace a1 := k2.cell a1 (fun f => f)
      replace a2 := k2.cell a2 (fun f => f)
      replace a3 := k2.cell a3 (fun f => f)
      have hA2 := hA1.keep0 k2
      clear K1 k2 yg hA1
      go_wp2
      go_ret
      exact ⟨rfl, K2⟩
    have i1 : ((t.size : Int) == 0) = false := beq_eq_false_iff_ne.2 (by omega)
    have i1' : ¬ (t.size : Int) = 0 := by omega
    by_cases h2 : 100 < t.size
    · have i2 : (100 : Int) < t.size := by omega
      go_enter Try.func6, Try.ntmps6
      go_wp2_with fail
      generalize (w.alloc (.cells #[.slice ao k.c.length cap, .bool k.d, .string k.x.a, .int .u64 (k.x.n : Int)] 27)) = W0 at *
      generalize w.heap.size = g at *
      refine yw.mono ?_
      rintro e w1 ⟨rfl, k1⟩
      have K1 := kB.trans k1
      obtain ⟨a0, a1, a2, a3⟩ := hX.keep0 k1
      have hA1 := hA.keep0 k1
      clear kB k1 hX yw hA
      go_wp2_with fail
      refine (yg w1 hA1).mono ?_
      rintro e w2 ⟨rfl, k2⟩
      have K2 := K1.trans k2
      replace a0 := k2.cell a0 (fun f => f)
      replace a1 := k2.cell a1 (fun f => f)
      replace a2 := k2.cell a2 (fun f => f)
      replace a3 := k2.cell a3 (fun f => f)
      have hA2 := hA1.keep0 k2
      clear K1 k2 yg hA1
      go_wp2
      go_ret
      exact ⟨rfl, K2⟩
    have i2 : ¬ (100 : Int) < t.size := by omega
    have yr := fun W (h : EnsAt W ao k.c) => rencode13 W ao cap k fk h
    by_cases h0 : kCheck k = 0
    case neg =>
      rw [encK_no h0] at yr
      have e0 : (kCheck k != 0) = true := by simpa using h0
      clear h0
      generalize kCheck k = C at *
      go_enter Try.func6, Try.ntmps6
      go_wp2_with fail
      generalize (w.alloc (.cells #[.slice ao k.c.length cap, .bool k.d, .string k.x.a, .int .u64 (k.x.n : Int)] 27)) = W0 at *
      generalize w.heap.size = g at *
      refine yw.mono ?_
      rintro e w1 ⟨rfl, k1⟩
      have K1 := kB.trans k1
      obtain ⟨a0, a1, a2, a3⟩ := hX.keep0 k1
      have hA1 := hA.keep0 k1
      clear kB k1 hX yw hA
      go_wp2_with fail
      refine (yg w1 hA1).mono ?_
      rintro e w2 ⟨rfl, k2⟩
      have K2 := K1.trans k2
      replace a0 := k2.cell a0 (fun f => f)
      replace a1 := k2.cell a1 (fun f => f)
      replace a2 := k2.cell a2 (fun f => f)
      replace a3 := k2.cell a3 (fun f => f)
      have hA2 := hA1.keep0 k2
      clear K1 k2 yg hA1
      go_wp2_with fail
      refine (yr w2 hA2).mono ?_
      rintro e w3 ⟨rfl, k3⟩
      have K3 := K2.trans k3
      clear K2 k3 yr a0 a1 a2 a3 hA2
      go_wp2
      go_ret
      exact ⟨rfl, K3⟩
    rw [encK_yes h0] at yr
    have hok : okClk k := ⟨h0, fun x hx => (fk.vec.2 x hx).2, fk.num⟩
    have hes := eClk_size hok
    have HS : Hid (∀ i, i < (eClk k).size → (decK ((eClk k).extract 0 i)).2 = 2) := fun i hi => decK_short hok hi
    have HM : Hid ((decK (eClk k ++ t)).2 = 8) := decK_more hok (by omega)
    generalize eClk k = F at *
    have hF : (F.size : Int) ≤ 2797 := by omega
    have hF' : (F.size : Int) ≤ 9223372036854775807 := by omega
    have hF6 : ¬ (6000 : Int) < F.size := by omega
    have hcat : ¬ 9223372036854775807 < F.size + t.size := by omega
    clear hok h0
    go_enter Try.func6, Try.ntmps6
    go_wp2_with fail
    generalize (w.alloc (.cells #[.slice ao k.c.length cap, .bool k.d, .string k.x.a, .int .u64 (k.x.n : Int)] 27)) = W0 at *
    generalize w.heap.size = g at *
    refine yw.mono ?_
    rintro e w1 ⟨rfl, k1⟩
    have K1 := kB.trans k1
    obtain ⟨a0, a1, a2, a3⟩ := hX.keep0 k1
    have hA1 := hA.keep0 k1
    clear kB k1 hX yw hA
    go_wp2_with fail
    refine (yg w1 hA1).mono ?_
    rintro e w2 ⟨rfl, k2⟩
    have K2 := K1.trans k2
    replace a0 := k2.cell a0 (fun f => f)
    replace a1 := k2.cell a1 (fun f => f)
    replace a2 := k2.cell a2 (fun f => f)
    replace a3 := k2.cell a3 (fun f => f)
    have hA2 := hA1.keep0 k2
    clear K1 k2 yg hA1
    go_wp2_with fail
    refine (yr w2 hA2).mono ?_
    rintro e w3 ⟨rfl, k3⟩
    have K3 := K2.trans k3
    clear K2 k3 yr a0 a1 a2 a3 hA2
    go_wp2_with fail
    go_loopw [7] (fun i wr => ∃ (j : Nat), i = .int .i64 (j : Int) ∧ j ≤ F.size ∧ Keep0 w wr) (fun i _ => F.size - (intOf i).toNat)
    case atStart => exact ⟨0, rfl, by omega, K3⟩
    case round =>
      obtain ⟨j, rfl, hj, hK⟩ := hrel
      clear K3
      by_cases hlt : j < F.size
      · have j1 : (j : Int) < F.size := by omega
        have yd := V.decode wr (F.extract 0 j) (by rw [ByteArray.size_extract]; omega)
        have hd := HS.out j hlt
        obtain ⟨D, hD⟩ : ∃ D, decK (F.extract 0 j) = D := ⟨_, rfl⟩
        rw [hD] at yd hd
        obtain ⟨D1, D2⟩ := D
        have hd : D2 = 2 := hd
        subst hd
        clear hD
        go_wp2_with fail
        refine yd.mono ?_
        rintro e w4 ⟨bo, cb, rfl, _, _, k4⟩
        have K4 : ∀ o, Keep0 w (w4.alloc o) := fun o => (hK.trans k4).alloc o
        clear yd k4 hK
        go_wp2
        go_roundw
        case rel => exact ⟨j + 1, by go_num, by omega, K4 _⟩
        case measure => simp [intOf]; omega
      · have j1 : ¬ (j : Int) < F.size := by omega
        have yd := V.decode wr (F ++ t) (by rw [ByteArray.size_append]; omega)
        have hd := HM.out
        obtain ⟨D, hD⟩ : ∃ D, decK (F ++ t) = D := ⟨_, rfl⟩
        rw [hD] at yd hd
        obtain ⟨D1, D2⟩ := D
        have hd : D2 = 8 := hd
        subst hd
        clear hD
        go_wp2_with fail
        refine yd.mono ?_
        rintro e w4 ⟨bo, cb, rfl, _, _, k4⟩
        have K4 : ∀ o, Keep0 w (w4.alloc o) := fun o => (hK.trans k4).alloc o
        clear yd k4 hK
        go_wp2
        go_ret
        exact ⟨rfl, K4 _⟩
end Go.Proofs.Ytfahpnkliecppaa
