/-
  The walk of the law VectorTells, out of what package vector's functions answer (VecCode) and of the document's own answers.
  Conditions: none beyond that the arguments can be read as data.
-/
import Derived.Test.YtkfilkbmdnneoaaLaw10
namespace Go.Proofs.Ytkfilkbmdnneoaa
open Go.RowKit

theorem right_no_a {a b : List En} (h : vCheck a ≠ 0) : vRight a b = false := by unfold vRight; rw [beq_eq_false_iff_ne.2 h]; rfl
theorem right_no_b {a b : List En} (h : vCheck b ≠ 0) : vRight a b = false := by unfold vRight; rw [beq_eq_false_iff_ne.2 h, Bool.and_false]
theorem right_yes {a b : List En} (h : vCheck a = 0) (h' : vCheck b = 0) : vRight a b = true := by unfold vRight; rw [h, h']; rfl
set_option maxRecDepth 100000 in
set_option maxHeartbeats 8000000 in
theorem vectorTells_go (V : VecCode) (w : World) (ao bo : Option Addr) (ca cb : Nat) (a b : List En) (fa : Fits a) (fb : Fits b) (hA : EnsAt w ao a) (hB : EnsAt w bo b) (s : ByteArray) (hs : s.size ≤ maxLen) (la : a.length ≤ 100) (lb : b.length ≤ 100) (ls : s.size ≤ 100) (hga : ∀ W, EnsAt W ao a → Calls Try.prog 8 #[.slice ao a.length ca] W fun e w' => e = .returned (.bool false) ∧ W = w') (hgb : ∀ W, EnsAt W bo b → Calls Try.prog 8 #[.slice bo b.length cb] W fun e w' => e = .returned (.bool false) ∧ W = w') :
    Calls Try.prog 3 #[.slice ao a.length ca, .slice bo b.length cb, .string s] w fun e w' => e = .returned (.bool true) ∧ Keep0 w w' := by
  have okA : Ok10 a := ⟨by omega, fa.2⟩
  have okB : Ok10 b := ⟨by omega, fb.2⟩
  have ycv := fun W (h : EnsAt W ao a) => V.check W ao ca a okA h
  have ycr := fun W (h : EnsAt W ao a) => rcheck10 W ao ca a fa h
  have ycb := fun W (h : EnsAt W bo b) => rcheck10 W bo cb b fb h
  have ynv := fun W (h : EnsAt W ao a) => V.count W ao ca a okA h s hs
  have ynr := fun W (h : EnsAt W ao a) => rcount10 W ao ca a fa.1 h s
  have ysv := fun W (h : EnsAt W ao a) (h' : EnsAt W bo b) => V.same W ao bo ca cb a b okA okB h h'
  have ysr := fun W (h : EnsAt W ao a) (h' : EnsAt W bo b) => rsame10 W ao bo ca cb a b fa.1 fb.1 h h'
  have yab := fun W (h : EnsAt W ao a) (h' : EnsAt W bo b) => rabove10 W ao bo ca cb a b fa.1 fb.1 h h'
  have yba := fun W (h : EnsAt W ao a) (h' : EnsAt W bo b) => rabove10 W bo ao cb ca b a fb.1 fa.1 h' h
  have yo := fun W (h : EnsAt W ao a) (h' : EnsAt W bo b) => V.order W ao bo ca cb a b okA okB h h'
  have yd := fun W (h : EnsAt W ao a) (h' : EnsAt W bo b) => V.descends W ao bo ca cb a b okA okB h h'
  have i0 : (s.size : Int) ≤ 9223372036854775807 := by unfold maxLen at hs; omega
  have i1 : ¬ (100 : Int) < s.size := by omega
  by_cases ha : vCheck a = 0
  case neg =>
    have e1 : (vCheck a == 0) = false := beq_eq_false_iff_ne.2 ha
    have hr := right_no_a (b := b) ha
    rw [hr] at yd yo
    rw [Bool.false_and] at yd
    rw [if_neg (by decide)] at yo
    clear ha hr ycb
    generalize vCheck a = CA at *
    generalize vAbove a b = U at *
    generalize vAbove b a = D at *
    generalize vSame a b = SM at *
    generalize vCount a s = CN at *
    go_enter Try.func3, Try.ntmps3
    go_wp2_with fail
    refine (awake10 V w).mono ?_
    rintro e w1 ⟨rfl, K1⟩
    have hA1 := hA.keep0 K1
    have hB1 := hB.keep0 K1
    go_wp2_with fail
    refine (hga w1 hA1).mono ?_
    rintro e w' ⟨rfl, rfl⟩
    go_wp2_with fail
    refine (hgb w1 hB1).mono ?_
    rintro e w' ⟨rfl, rfl⟩
    clear okA okB fa fb la lb ls hga hgb V
    go_wp2_with fail
    refine (ycv w1 hA1).mono ?_
    rintro e v1 ⟨rfl, hx⟩
    have k : Keep0 w1 v1 := hx
    have hAv1 := hA1.keep0 k
    have hBv1 := hB1.keep0 k
    have Kv1 := K1.trans k
    clear k hA1 hB1 K1 hx
    go_wp2_with fail
    refine (ycr v1 hAv1).mono ?_
    rintro e v2 ⟨rfl, hx⟩
    have k : Keep0 v1 v2 := keepN hx
    have hAv2 := hAv1.keep0 k
    have hBv2 := hBv1.keep0 k
    have Kv2 := Kv1.trans k
    clear k hAv1 hBv1 Kv1 hx
    go_wp2_with fail
    refine (ynv v2 hAv2).mono ?_
    rintro e v3 ⟨rfl, hx⟩
    have k : Keep0 v2 v3 := hx
    have hAv3 := hAv2.keep0 k
    have hBv3 := hBv2.keep0 k
    have Kv3 := Kv2.trans k
    clear k hAv2 hBv2 Kv2 hx
    go_wp2_with fail
    refine (ynr v3 hAv3).mono ?_
    rintro e v4 ⟨rfl, hx⟩
    have k : Keep0 v3 v4 := by rw [← hx]; exact Keep.refl _ _
    have hAv4 := hAv3.keep0 k
    have hBv4 := hBv3.keep0 k
    have Kv4 := Kv3.trans k
    clear k hAv3 hBv3 Kv3 hx
    go_wp2_with fail
    refine (ysv v4 hAv4 hBv4).mono ?_
    rintro e v5 ⟨rfl, hx⟩
    have k : Keep0 v4 v5 := hx
    have hAv5 := hAv4.keep0 k
    have hBv5 := hBv4.keep0 k
    have Kv5 := Kv4.trans k
    clear k hAv4 hBv4 Kv4 hx
    go_wp2_with fail
    refine (ysr v5 hAv5 hBv5).mono ?_
    rintro e v6 ⟨rfl, hx⟩
    have k : Keep0 v5 v6 := keepN hx
    have hAv6 := hAv5.keep0 k
    have hBv6 := hBv5.keep0 k
    have Kv6 := Kv5.trans k
    clear k hAv5 hBv5 Kv5 hx
    go_wp2_with fail
    refine (ycr v6 hAv6).mono ?_
    rintro e v7 ⟨rfl, hx⟩
    have k : Keep0 v6 v7 := keepN hx
    have hAv7 := hAv6.keep0 k
    have hBv7 := hBv6.keep0 k
    have Kv7 := Kv6.trans k
    clear k hAv6 hBv6 Kv6 hx
    go_wp2_with fail
    refine (yab v7 hAv7 hBv7).mono ?_
    rintro e v8 ⟨rfl, hx⟩
    have k : Keep0 v7 v8 := keepN hx
    have hAv8 := hAv7.keep0 k
    have hBv8 := hBv7.keep0 k
    have Kv8 := Kv7.trans k
    clear k hAv7 hBv7 Kv7 hx
    go_wp2_with fail
    refine (yba v8 hAv8 hBv8).mono ?_
    rintro e v9 ⟨rfl, hx⟩
    have k : Keep0 v8 v9 := keepN hx
    have hAv9 := hAv8.keep0 k
    have hBv9 := hBv8.keep0 k
    have Kv9 := Kv8.trans k
    clear k hAv8 hBv8 Kv8 hx
    go_wp2_with fail
    refine (yo v9 hAv9 hBv9).mono ?_
    rintro e v10 ⟨rfl, hx⟩
    have k : Keep0 v9 v10 := hx
    have hAv10 := hAv9.keep0 k
    have hBv10 := hBv9.keep0 k
    have Kv10 := Kv9.trans k
    clear k hAv9 hBv9 Kv9 hx
    go_wp2_with fail
    refine (yd v10 hAv10 hBv10).mono ?_
    rintro e v11 ⟨rfl, hx⟩
    have k : Keep0 v10 v11 := hx
    have hAv11 := hAv10.keep0 k
    have hBv11 := hBv10.keep0 k
    have Kv11 := Kv10.trans k
    clear k hAv10 hBv10 Kv10 hx
    go_wp2
    go_ret
    exact ⟨by simp, Kv11⟩
  by_cases hb : vCheck b = 0
  case neg =>
    have e1 : (vCheck b == 0) = false := beq_eq_false_iff_ne.2 hb
    have hr := right_no_b (a := a) hb
    rw [ha] at ycv ycr
    rw [hr] at yd yo
    rw [Bool.false_and] at yd
    rw [if_neg (by decide)] at yo
    clear ha hb hr
    generalize vCheck b = CB at *
    generalize vAbove a b = U at *
    generalize vAbove b a = D at *
    generalize vSame a b = SM at *
    generalize vCount a s = CN at *
    go_enter Try.func3, Try.ntmps3
    go_wp2_with fail
    refine (awake10 V w).mono ?_
    rintro e w1 ⟨rfl, K1⟩
    have hA1 := hA.keep0 K1
    have hB1 := hB.keep0 K1
    go_wp2_with fail
    refine (hga w1 hA1).mono ?_
    rintro e w' ⟨rfl, rfl⟩
    go_wp2_with fail
    refine (hgb w1 hB1).mono ?_
    rintro e w' ⟨rfl, rfl⟩
    clear okA okB fa fb la lb ls hga hgb V
    go_wp2_with fail
    refine (ycv w1 hA1).mono ?_
    rintro e v1 ⟨rfl, hx⟩
    have k : Keep0 w1 v1 := hx
    have hAv1 := hA1.keep0 k
    have hBv1 := hB1.keep0 k
    have Kv1 := K1.trans k
    clear k hA1 hB1 K1 hx
    go_wp2_with fail
    refine (ycr v1 hAv1).mono ?_
    rintro e v2 ⟨rfl, hx⟩
    have k : Keep0 v1 v2 := keepN hx
    have hAv2 := hAv1.keep0 k
    have hBv2 := hBv1.keep0 k
    have Kv2 := Kv1.trans k
    clear k hAv1 hBv1 Kv1 hx
    go_wp2_with fail
    refine (ynv v2 hAv2).mono ?_
    rintro e v3 ⟨rfl, hx⟩
    have k : Keep0 v2 v3 := hx
    have hAv3 := hAv2.keep0 k
    have hBv3 := hBv2.keep0 k
    have Kv3 := Kv2.trans k
    clear k hAv2 hBv2 Kv2 hx
    go_wp2_with fail
    refine (ynr v3 hAv3).mono ?_
    rintro e v4 ⟨rfl, hx⟩
    have k : Keep0 v3 v4 := by rw [← hx]; exact Keep.refl _ _
    have hAv4 := hAv3.keep0 k
    have hBv4 := hBv3.keep0 k
    have Kv4 := Kv3.trans k
    clear k hAv3 hBv3 Kv3 hx
    go_wp2_with fail
    refine (ysv v4 hAv4 hBv4).mono ?_
    rintro e v5 ⟨rfl, hx⟩
    have k : Keep0 v4 v5 := hx
    have hAv5 := hAv4.keep0 k
    have hBv5 := hBv4.keep0 k
    have Kv5 := Kv4.trans k
    clear k hAv4 hBv4 Kv4 hx
    go_wp2_with fail
    refine (ysr v5 hAv5 hBv5).mono ?_
    rintro e v6 ⟨rfl, hx⟩
    have k : Keep0 v5 v6 := keepN hx
    have hAv6 := hAv5.keep0 k
    have hBv6 := hBv5.keep0 k
    have Kv6 := Kv5.trans k
    clear k hAv5 hBv5 Kv5 hx
    go_wp2_with fail
    refine (ycr v6 hAv6).mono ?_
    rintro e v7 ⟨rfl, hx⟩
    have k : Keep0 v6 v7 := keepN hx
    have hAv7 := hAv6.keep0 k
    have hBv7 := hBv6.keep0 k
    have Kv7 := Kv6.trans k
    clear k hAv6 hBv6 Kv6 hx
    go_wp2_with fail
    refine (ycb v7 hBv7).mono ?_
    rintro e v8 ⟨rfl, hx⟩
    have k : Keep0 v7 v8 := keepN hx
    have hAv8 := hAv7.keep0 k
    have hBv8 := hBv7.keep0 k
    have Kv8 := Kv7.trans k
    clear k hAv7 hBv7 Kv7 hx
    go_wp2_with fail
    refine (yab v8 hAv8 hBv8).mono ?_
    rintro e v9 ⟨rfl, hx⟩
    have k : Keep0 v8 v9 := keepN hx
    have hAv9 := hAv8.keep0 k
    have hBv9 := hBv8.keep0 k
    have Kv9 := Kv8.trans k
    clear k hAv8 hBv8 Kv8 hx
    go_wp2_with fail
    refine (yba v9 hAv9 hBv9).mono ?_
    rintro e v10 ⟨rfl, hx⟩
    have k : Keep0 v9 v10 := keepN hx
    have hAv10 := hAv9.keep0 k
    have hBv10 := hBv9.keep0 k
    have Kv10 := Kv9.trans k
    clear k hAv9 hBv9 Kv9 hx
    go_wp2_with fail
    refine (yo v10 hAv10 hBv10).mono ?_
    rintro e v11 ⟨rfl, hx⟩
    have k : Keep0 v10 v11 := hx
    have hAv11 := hAv10.keep0 k
    have hBv11 := hBv10.keep0 k
    have Kv11 := Kv10.trans k
    clear k hAv10 hBv10 Kv10 hx
    go_wp2_with fail
    refine (yd v11 hAv11 hBv11).mono ?_
    rintro e v12 ⟨rfl, hx⟩
    have k : Keep0 v11 v12 := hx
    have hAv12 := hAv11.keep0 k
    have hBv12 := hBv11.keep0 k
    have Kv12 := Kv11.trans k
    clear k hAv11 hBv11 Kv11 hx
    go_wp2
    go_ret
    exact ⟨by simp, Kv12⟩
  cases hU : vAbove a b with
  | true =>
    cases hD : vAbove b a with
    | true =>
      have hr := right_yes ha hb
      rw [ha] at ycv ycr
      rw [hb] at ycb
      rw [hr] at yd yo
      rw [Bool.true_and, hU] at yd
      rw [if_pos rfl] at yo
      unfold vOrder at yo
      rw [hU, hD] at yo
      rw [hU] at yab
      rw [hD] at yba
      have hz : (if true = true then (if true = true then (0 : Int) else 1) else (if true = true then -1 else 2)) = 0 := rfl
      rw [hz] at yo
      clear hz
      clear ha hb hr hU hD
      generalize vSame a b = SM at *
      generalize vCount a s = CN at *
      go_enter Try.func3, Try.ntmps3
      go_wp2_with fail
      refine (awake10 V w).mono ?_
      rintro e w1 ⟨rfl, K1⟩
      have hA1 := hA.keep0 K1
      have hB1 := hB.keep0 K1
      go_wp2_with fail
      refine (hga w1 hA1).mono ?_
      rintro e w' ⟨rfl, rfl⟩
      go_wp2_with fail
      refine (hgb w1 hB1).mono ?_
      rintro e w' ⟨rfl, rfl⟩
      clear okA okB fa fb la lb ls hga hgb V
      go_wp2_with fail
      refine (ycv w1 hA1).mono ?_
      rintro e v1 ⟨rfl, hx⟩
      have k : Keep0 w1 v1 := hx
      have hAv1 := hA1.keep0 k
      have hBv1 := hB1.keep0 k
      have Kv1 := K1.trans k
      clear k hA1 hB1 K1 hx
      go_wp2_with fail
      refine (ycr v1 hAv1).mono ?_
      rintro e v2 ⟨rfl, hx⟩
      have k : Keep0 v1 v2 := keepN hx
      have hAv2 := hAv1.keep0 k
      have hBv2 := hBv1.keep0 k
      have Kv2 := Kv1.trans k
      clear k hAv1 hBv1 Kv1 hx
      go_wp2_with fail
      refine (ynv v2 hAv2).mono ?_
      rintro e v3 ⟨rfl, hx⟩
      have k : Keep0 v2 v3 := hx
      have hAv3 := hAv2.keep0 k
      have hBv3 := hBv2.keep0 k
      have Kv3 := Kv2.trans k
      clear k hAv2 hBv2 Kv2 hx
      go_wp2_with fail
      refine (ynr v3 hAv3).mono ?_
      rintro e v4 ⟨rfl, hx⟩
      have k : Keep0 v3 v4 := by rw [← hx]; exact Keep.refl _ _
      have hAv4 := hAv3.keep0 k
      have hBv4 := hBv3.keep0 k
      have Kv4 := Kv3.trans k
      clear k hAv3 hBv3 Kv3 hx
      go_wp2_with fail
      refine (ysv v4 hAv4 hBv4).mono ?_
      rintro e v5 ⟨rfl, hx⟩
      have k : Keep0 v4 v5 := hx
      have hAv5 := hAv4.keep0 k
      have hBv5 := hBv4.keep0 k
      have Kv5 := Kv4.trans k
      clear k hAv4 hBv4 Kv4 hx
      go_wp2_with fail
      refine (ysr v5 hAv5 hBv5).mono ?_
      rintro e v6 ⟨rfl, hx⟩
      have k : Keep0 v5 v6 := keepN hx
      have hAv6 := hAv5.keep0 k
      have hBv6 := hBv5.keep0 k
      have Kv6 := Kv5.trans k
      clear k hAv5 hBv5 Kv5 hx
      go_wp2_with fail
      refine (ycr v6 hAv6).mono ?_
      rintro e v7 ⟨rfl, hx⟩
      have k : Keep0 v6 v7 := keepN hx
      have hAv7 := hAv6.keep0 k
      have hBv7 := hBv6.keep0 k
      have Kv7 := Kv6.trans k
      clear k hAv6 hBv6 Kv6 hx
      go_wp2_with fail
      refine (ycb v7 hBv7).mono ?_
      rintro e v8 ⟨rfl, hx⟩
      have k : Keep0 v7 v8 := keepN hx
      have hAv8 := hAv7.keep0 k
      have hBv8 := hBv7.keep0 k
      have Kv8 := Kv7.trans k
      clear k hAv7 hBv7 Kv7 hx
      go_wp2_with fail
      refine (yab v8 hAv8 hBv8).mono ?_
      rintro e v9 ⟨rfl, hx⟩
      have k : Keep0 v8 v9 := keepN hx
      have hAv9 := hAv8.keep0 k
      have hBv9 := hBv8.keep0 k
      have Kv9 := Kv8.trans k
      clear k hAv8 hBv8 Kv8 hx
      go_wp2_with fail
      refine (yba v9 hAv9 hBv9).mono ?_
      rintro e v10 ⟨rfl, hx⟩
      have k : Keep0 v9 v10 := keepN hx
      have hAv10 := hAv9.keep0 k
      have hBv10 := hBv9.keep0 k
      have Kv10 := Kv9.trans k
      clear k hAv9 hBv9 Kv9 hx
      go_wp2_with fail
      refine (yo v10 hAv10 hBv10).mono ?_
      rintro e v11 ⟨rfl, hx⟩
      have k : Keep0 v10 v11 := hx
      have hAv11 := hAv10.keep0 k
      have hBv11 := hBv10.keep0 k
      have Kv11 := Kv10.trans k
      clear k hAv10 hBv10 Kv10 hx
      go_wp2_with fail
      refine (yd v11 hAv11 hBv11).mono ?_
      rintro e v12 ⟨rfl, hx⟩
      have k : Keep0 v11 v12 := hx
      have hAv12 := hAv11.keep0 k
      have hBv12 := hBv11.keep0 k
      have Kv12 := Kv11.trans k
      clear k hAv11 hBv11 Kv11 hx
      go_wp2
      go_ret
      exact ⟨by simp, Kv12⟩
    | false =>
      have hr := right_yes ha hb
      rw [ha] at ycv ycr
      rw [hb] at ycb
      rw [hr] at yd yo
      rw [Bool.true_and, hU] at yd
      rw [if_pos rfl] at yo
      unfold vOrder at yo
      rw [hU, hD] at yo
      rw [hU] at yab
      rw [hD] at yba
      have hz : (if true = true then (if false = true then (0 : Int) else 1) else (if false = true then -1 else 2)) = 1 := rfl
      rw [hz] at yo
      clear hz
      clear ha hb hr hU hD
      generalize vSame a b = SM at *
      generalize vCount a s = CN at *
      go_enter Try.func3, Try.ntmps3
      go_wp2_with fail
      refine (awake10 V w).mono ?_
      rintro e w1 ⟨rfl, K1⟩
      have hA1 := hA.keep0 K1
      have hB1 := hB.keep0 K1
      go_wp2_with fail
      refine (hga w1 hA1).mono ?_
      rintro e w' ⟨rfl, rfl⟩
      go_wp2_with fail
      refine (hgb w1 hB1).mono ?_
      rintro e w' ⟨rfl, rfl⟩
      clear okA okB fa fb la lb ls hga hgb V
      go_wp2_with fail
      refine (ycv w1 hA1).mono ?_
      rintro e v1 ⟨rfl, hx⟩
      have k : Keep0 w1 v1 := hx
      have hAv1 := hA1.keep0 k
      have hBv1 := hB1.keep0 k
      have Kv1 := K1.trans k
      clear k hA1 hB1 K1 hx
      go_wp2_with fail
      refine (ycr v1 hAv1).mono ?_
      rintro e v2 ⟨rfl, hx⟩
      have k : Keep0 v1 v2 := keepN hx
      have hAv2 := hAv1.keep0 k
      have hBv2 := hBv1.keep0 k
      have Kv2 := Kv1.trans k
      clear k hAv1 hBv1 Kv1 hx
      go_wp2_with fail
      refine (ynv v2 hAv2).mono ?_
      rintro e v3 ⟨rfl, hx⟩
      have k : Keep0 v2 v3 := hx
      have hAv3 := hAv2.keep0 k
      have hBv3 := hBv2.keep0 k
      have Kv3 := Kv2.trans k
      clear k hAv2 hBv2 Kv2 hx
      go_wp2_with fail
      refine (ynr v3 hAv3).mono ?_
      rintro e v4 ⟨rfl, hx⟩
      have k : Keep0 v3 v4 := by rw [← hx]; exact Keep.refl _ _
      have hAv4 := hAv3.keep0 k
      have hBv4 := hBv3.keep0 k
      have Kv4 := Kv3.trans k
      clear k hAv3 hBv3 Kv3 hx
      go_wp2_with fail
      refine (ysv v4 hAv4 hBv4).mono ?_
      rintro e v5 ⟨rfl, hx⟩
      have k : Keep0 v4 v5 := hx
      have hAv5 := hAv4.keep0 k
      have hBv5 := hBv4.keep0 k
      have Kv5 := Kv4.trans k
      clear k hAv4 hBv4 Kv4 hx
      go_wp2_with fail
      refine (ysr v5 hAv5 hBv5).mono ?_
      rintro e v6 ⟨rfl, hx⟩
      have k : Keep0 v5 v6 := keepN hx
      have hAv6 := hAv5.keep0 k
      have hBv6 := hBv5.keep0 k
      have Kv6 := Kv5.trans k
      clear k hAv5 hBv5 Kv5 hx
      go_wp2_with fail
      refine (ycr v6 hAv6).mono ?_
      rintro e v7 ⟨rfl, hx⟩
      have k : Keep0 v6 v7 := keepN hx
      have hAv7 := hAv6.keep0 k
      have hBv7 := hBv6.keep0 k
      have Kv7 := Kv6.trans k
      clear k hAv6 hBv6 Kv6 hx
      go_wp2_with fail
      refine (ycb v7 hBv7).mono ?_
      rintro e v8 ⟨rfl, hx⟩
      have k : Keep0 v7 v8 := keepN hx
      have hAv8 := hAv7.keep0 k
      have hBv8 := hBv7.keep0 k
      have Kv8 := Kv7.trans k
      clear k hAv7 hBv7 Kv7 hx
      go_wp2_with fail
      refine (yab v8 hAv8 hBv8).mono ?_
      rintro e v9 ⟨rfl, hx⟩
      have k : Keep0 v8 v9 := keepN hx
      have hAv9 := hAv8.keep0 k
      have hBv9 := hBv8.keep0 k
      have Kv9 := Kv8.trans k
      clear k hAv8 hBv8 Kv8 hx
      go_wp2_with fail
      refine (yba v9 hAv9 hBv9).mono ?_
      rintro e v10 ⟨rfl, hx⟩
      have k : Keep0 v9 v10 := keepN hx
      have hAv10 := hAv9.keep0 k
      have hBv10 := hBv9.keep0 k
      have Kv10 := Kv9.trans k
      clear k hAv9 hBv9 Kv9 hx
      go_wp2_with fail
      refine (yo v10 hAv10 hBv10).mono ?_
      rintro e v11 ⟨rfl, hx⟩
      have k : Keep0 v10 v11 := hx
      have hAv11 := hAv10.keep0 k
      have hBv11 := hBv10.keep0 k
      have Kv11 := Kv10.trans k
      clear k hAv10 hBv10 Kv10 hx
      go_wp2_with fail
      refine (yd v11 hAv11 hBv11).mono ?_
      rintro e v12 ⟨rfl, hx⟩
      have k : Keep0 v11 v12 := hx
      have hAv12 := hAv11.keep0 k
      have hBv12 := hBv11.keep0 k
      have Kv12 := Kv11.trans k
      clear k hAv11 hBv11 Kv11 hx
      go_wp2
      go_ret
      exact ⟨by simp, Kv12⟩
  | false =>
    cases hD : vAbove b a with
    | true =>
      have hr := right_yes ha hb
      rw [ha] at ycv ycr
      rw [hb] at ycb
      rw [hr] at yd yo
      rw [Bool.true_and, hU] at yd
      rw [if_pos rfl] at yo
      unfold vOrder at yo
      rw [hU, hD] at yo
      rw [hU] at yab
      rw [hD] at yba
      have hz : (if false = true then (if true = true then (0 : Int) else 1) else (if true = true then -1 else 2)) = -1 := rfl
      rw [hz] at yo
      clear hz
      clear ha hb hr hU hD
      generalize vSame a b = SM at *
      generalize vCount a s = CN at *
      go_enter Try.func3, Try.ntmps3
      go_wp2_with fail
      refine (awake10 V w).mono ?_
      rintro e w1 ⟨rfl, K1⟩
      have hA1 := hA.keep0 K1
      have hB1 := hB.keep0 K1
      go_wp2_with fail
      refine (hga w1 hA1).mono ?_
      rintro e w' ⟨rfl, rfl⟩
      go_wp2_with fail
      refine (hgb w1 hB1).mono ?_
      rintro e w' ⟨rfl, rfl⟩
      clear okA okB fa fb la lb ls hga hgb V
      go_wp2_with fail
      refine (ycv w1 hA1).mono ?_
      rintro e v1 ⟨rfl, hx⟩
      have k : Keep0 w1 v1 := hx
      have hAv1 := hA1.keep0 k
      have hBv1 := hB1.keep0 k
      have Kv1 := K1.trans k
      clear k hA1 hB1 K1 hx
      go_wp2_with fail
      refine (ycr v1 hAv1).mono ?_
      rintro e v2 ⟨rfl, hx⟩
      have k : Keep0 v1 v2 := keepN hx
      have hAv2 := hAv1.keep0 k
      have hBv2 := hBv1.keep0 k
      have Kv2 := Kv1.trans k
      clear k hAv1 hBv1 Kv1 hx
      go_wp2_with fail
      refine (ynv v2 hAv2).mono ?_
      rintro e v3 ⟨rfl, hx⟩
      have k : Keep0 v2 v3 := hx
      have hAv3 := hAv2.keep0 k
      have hBv3 := hBv2.keep0 k
      have Kv3 := Kv2.trans k
      clear k hAv2 hBv2 Kv2 hx
      go_wp2_with fail
      refine (ynr v3 hAv3).mono ?_
      rintro e v4 ⟨rfl, hx⟩
      have k : Keep0 v3 v4 := by rw [← hx]; exact Keep.refl _ _
      have hAv4 := hAv3.keep0 k
      have hBv4 := hBv3.keep0 k
      have Kv4 := Kv3.trans k
      clear k hAv3 hBv3 Kv3 hx
      go_wp2_with fail
      refine (ysv v4 hAv4 hBv4).mono ?_
      rintro e v5 ⟨rfl, hx⟩
      have k : Keep0 v4 v5 := hx
      have hAv5 := hAv4.keep0 k
      have hBv5 := hBv4.keep0 k
      have Kv5 := Kv4.trans k
      clear k hAv4 hBv4 Kv4 hx
      go_wp2_with fail
      refine (ysr v5 hAv5 hBv5).mono ?_
      rintro e v6 ⟨rfl, hx⟩
      have k : Keep0 v5 v6 := keepN hx
      have hAv6 := hAv5.keep0 k
      have hBv6 := hBv5.keep0 k
      have Kv6 := Kv5.trans k
      clear k hAv5 hBv5 Kv5 hx
      go_wp2_with fail
      refine (ycr v6 hAv6).mono ?_
      rintro e v7 ⟨rfl, hx⟩
      have k : Keep0 v6 v7 := keepN hx
      have hAv7 := hAv6.keep0 k
      have hBv7 := hBv6.keep0 k
      have Kv7 := Kv6.trans k
      clear k hAv6 hBv6 Kv6 hx
      go_wp2_with fail
      refine (ycb v7 hBv7).mono ?_
      rintro e v8 ⟨rfl, hx⟩
      have k : Keep0 v7 v8 := keepN hx
      have hAv8 := hAv7.keep0 k
      have hBv8 := hBv7.keep0 k
      have Kv8 := Kv7.trans k
      clear k hAv7 hBv7 Kv7 hx
      go_wp2_with fail
      refine (yab v8 hAv8 hBv8).mono ?_
      rintro e v9 ⟨rfl, hx⟩
      have k : Keep0 v8 v9 := keepN hx
      have hAv9 := hAv8.keep0 k
      have hBv9 := hBv8.keep0 k
      have Kv9 := Kv8.trans k
      clear k hAv8 hBv8 Kv8 hx
      go_wp2_with fail
      refine (yba v9 hAv9 hBv9).mono ?_
      rintro e v10 ⟨rfl, hx⟩
      have k : Keep0 v9 v10 := keepN hx
      have hAv10 := hAv9.keep0 k
      have hBv10 := hBv9.keep0 k
      have Kv10 := Kv9.trans k
      clear k hAv9 hBv9 Kv9 hx
      go_wp2_with fail
      refine (yo v10 hAv10 hBv10).mono ?_
      rintro e v11 ⟨rfl, hx⟩
      have k : Keep0 v10 v11 := hx
      have hAv11 := hAv10.keep0 k
      have hBv11 := hBv10.keep0 k
      have Kv11 := Kv10.trans k
      clear k hAv10 hBv10 Kv10 hx
      go_wp2_with fail
      refine (yd v11 hAv11 hBv11).mono ?_
      rintro e v12 ⟨rfl, hx⟩
      have k : Keep0 v11 v12 := hx
      have hAv12 := hAv11.keep0 k
      have hBv12 := hBv11.keep0 k
      have Kv12 := Kv11.trans k
      clear k hAv11 hBv11 Kv11 hx
      go_wp2
      go_ret
      exact ⟨by simp, Kv12⟩
    | false =>
      have hr := right_yes ha hb
      rw [ha] at ycv ycr
      rw [hb] at ycb
      rw [hr] at yd yo
      rw [Bool.true_and, hU] at yd
      rw [if_pos rfl] at yo
      unfold vOrder at yo
      rw [hU, hD] at yo
      rw [hU] at yab
      rw [hD] at yba
      have hz : (if false = true then (if false = true then (0 : Int) else 1) else (if false = true then -1 else 2)) = 2 := rfl
      rw [hz] at yo
      clear hz
      clear ha hb hr hU hD
      generalize vSame a b = SM at *
      generalize vCount a s = CN at *
      go_enter Try.func3, Try.ntmps3
      go_wp2_with fail
      refine (awake10 V w).mono ?_
      rintro e w1 ⟨rfl, K1⟩
      have hA1 := hA.keep0 K1
      have hB1 := hB.keep0 K1
      go_wp2_with fail
      refine (hga w1 hA1).mono ?_
      rintro e w' ⟨rfl, rfl⟩
      go_wp2_with fail
      refine (hgb w1 hB1).mono ?_
      rintro e w' ⟨rfl, rfl⟩
      clear okA okB fa fb la lb ls hga hgb V
      go_wp2_with fail
      refine (ycv w1 hA1).mono ?_
      rintro e v1 ⟨rfl, hx⟩
      have k : Keep0 w1 v1 := hx
      have hAv1 := hA1.keep0 k
      have hBv1 := hB1.keep0 k
      have Kv1 := K1.trans k
      clear k hA1 hB1 K1 hx
      go_wp2_with fail
      refine (ycr v1 hAv1).mono ?_
      rintro e v2 ⟨rfl, hx⟩
      have k : Keep0 v1 v2 := keepN hx
      have hAv2 := hAv1.keep0 k
      have hBv2 := hBv1.keep0 k
      have Kv2 := Kv1.trans k
      clear k hAv1 hBv1 Kv1 hx
      go_wp2_with fail
      refine (ynv v2 hAv2).mono ?_
      rintro e v3 ⟨rfl, hx⟩
      have k : Keep0 v2 v3 := hx
      have hAv3 := hAv2.keep0 k
      have hBv3 := hBv2.keep0 k
      have Kv3 := Kv2.trans k
      clear k hAv2 hBv2 Kv2 hx
      go_wp2_with fail
      refine (ynr v3 hAv3).mono ?_
      rintro e v4 ⟨rfl, hx⟩
      have k : Keep0 v3 v4 := by rw [← hx]; exact Keep.refl _ _
      have hAv4 := hAv3.keep0 k
      have hBv4 := hBv3.keep0 k
      have Kv4 := Kv3.trans k
      clear k hAv3 hBv3 Kv3 hx
      go_wp2_with fail
      refine (ysv v4 hAv4 hBv4).mono ?_
      rintro e v5 ⟨rfl, hx⟩
      have k : Keep0 v4 v5 := hx
      have hAv5 := hAv4.keep0 k
      have hBv5 := hBv4.keep0 k
      have Kv5 := Kv4.trans k
      clear k hAv4 hBv4 Kv4 hx
      go_wp2_with fail
      refine (ysr v5 hAv5 hBv5).mono ?_
      rintro e v6 ⟨rfl, hx⟩
      have k : Keep0 v5 v6 := keepN hx
      have hAv6 := hAv5.keep0 k
      have hBv6 := hBv5.keep0 k
      have Kv6 := Kv5.trans k
      clear k hAv5 hBv5 Kv5 hx
      go_wp2_with fail
      refine (ycr v6 hAv6).mono ?_
      rintro e v7 ⟨rfl, hx⟩
      have k : Keep0 v6 v7 := keepN hx
      have hAv7 := hAv6.keep0 k
      have hBv7 := hBv6.keep0 k
      have Kv7 := Kv6.trans k
      clear k hAv6 hBv6 Kv6 hx
      go_wp2_with fail
      refine (ycb v7 hBv7).mono ?_
      rintro e v8 ⟨rfl, hx⟩
      have k : Keep0 v7 v8 := keepN hx
      have hAv8 := hAv7.keep0 k
      have hBv8 := hBv7.keep0 k
      have Kv8 := Kv7.trans k
      clear k hAv7 hBv7 Kv7 hx
      go_wp2_with fail
      refine (yab v8 hAv8 hBv8).mono ?_
      rintro e v9 ⟨rfl, hx⟩
      have k : Keep0 v8 v9 := keepN hx
      have hAv9 := hAv8.keep0 k
      have hBv9 := hBv8.keep0 k
      have Kv9 := Kv8.trans k
      clear k hAv8 hBv8 Kv8 hx
      go_wp2_with fail
      refine (yba v9 hAv9 hBv9).mono ?_
      rintro e v10 ⟨rfl, hx⟩
      have k : Keep0 v9 v10 := keepN hx
      have hAv10 := hAv9.keep0 k
      have hBv10 := hBv9.keep0 k
      have Kv10 := Kv9.trans k
      clear k hAv9 hBv9 Kv9 hx
      go_wp2_with fail
      refine (yo v10 hAv10 hBv10).mono ?_
      rintro e v11 ⟨rfl, hx⟩
      have k : Keep0 v10 v11 := hx
      have hAv11 := hAv10.keep0 k
      have hBv11 := hBv10.keep0 k
      have Kv11 := Kv10.trans k
      clear k hAv10 hBv10 Kv10 hx
      go_wp2_with fail
      refine (yd v11 hAv11 hBv11).mono ?_
      rintro e v12 ⟨rfl, hx⟩
      have k : Keep0 v11 v12 := hx
      have hAv12 := hAv11.keep0 k
      have hBv12 := hBv11.keep0 k
      have Kv12 := Kv11.trans k
      clear k hAv11 hBv11 Kv11 hx
      go_wp2
      go_ret
      exact ⟨by simp, Kv12⟩
set_option maxRecDepth 100000 in
set_option maxHeartbeats 8000000 in
theorem vectorTells_law (V : VecCode) (w : World) (ao bo : Option Addr) (ca cb : Nat) (a b : List En) (fa : Fits a) (fb : Fits b) (hA : EnsAt w ao a) (hB : EnsAt w bo b) (s : ByteArray) (hs : s.size ≤ maxLen) :
    Calls Try.prog 3 #[.slice ao a.length ca, .slice bo b.length cb, .string s] w fun e w' => e = .returned (.bool true) ∧ Keep0 w w' := by
  have yga := fun W (h : EnsAt W ao a) => rgreat10 W ao ca a fa h
  have ygb := fun W (h : EnsAt W bo b) => rgreat10 W bo cb b fb h
  have i0 : (s.size : Int) ≤ 9223372036854775807 := by unfold maxLen at hs; omega
  cases ga : vGreat a with
  | true =>
    rw [ga] at yga
    clear ygb
    go_enter Try.func3, Try.ntmps3
    go_wp2_with fail
    refine (awake10 V w).mono ?_
    rintro e w1 ⟨rfl, K1⟩
    have hA1 := hA.keep0 K1
    have hB1 := hB.keep0 K1
    have y := yga w1 hA1
    clear yga hA hB hA1 hB1
    go_wp2_with fail
    refine y.mono ?_
    rintro e w' ⟨rfl, rfl⟩
    go_wp2
    go_ret
    exact ⟨rfl, K1⟩
  | false =>
    rw [ga] at yga
    cases gb : vGreat b with
    | true =>
      rw [gb] at ygb
      go_enter Try.func3, Try.ntmps3
      go_wp2_with fail
      refine (awake10 V w).mono ?_
      rintro e w1 ⟨rfl, K1⟩
      have hA1 := hA.keep0 K1
      have hB1 := hB.keep0 K1
      have y := yga w1 hA1
      have y' := ygb w1 hB1
      clear yga ygb hA hB hA1 hB1
      go_wp2_with fail
      refine y.mono ?_
      rintro e w' ⟨rfl, rfl⟩
      go_wp2_with fail
      refine y'.mono ?_
      rintro e w' ⟨rfl, rfl⟩
      go_wp2
      go_ret
      exact ⟨rfl, K1⟩
    | false =>
      rw [gb] at ygb
      by_cases h1 : s.size ≤ 100
      · exact vectorTells_go V w ao bo ca cb a b fa fb hA hB s hs (great_no ga).1 (great_no gb).1 h1 yga ygb
      · have i1 : (100 : Int) < s.size := by omega
        go_enter Try.func3, Try.ntmps3
        go_wp2_with fail
        refine (awake10 V w).mono ?_
        rintro e w1 ⟨rfl, K1⟩
        have hA1 := hA.keep0 K1
        have hB1 := hB.keep0 K1
        have y := yga w1 hA1
        have y' := ygb w1 hB1
        clear yga ygb hA hB hA1 hB1
        go_wp2_with fail
        refine y.mono ?_
        rintro e w' ⟨rfl, rfl⟩
        go_wp2_with fail
        refine y'.mono ?_
        rintro e w' ⟨rfl, rfl⟩
        go_wp2
        go_ret
        exact ⟨rfl, K1⟩
end Go.Proofs.Ytkfilkbmdnneoaa
