/-
  The walk of the law VcodeCuts, out of what package vcode's functions answer (VcCode) and of the document's own answers.
  Conditions: none beyond that the arguments can be read as data.
-/
import Derived.Test.YtmiodefphiknhaaLaw11
import Derived.Test.YtmiodefphiknhaaEncodes11
import Derived.Test.YtmiodefphiknhaaL1
namespace Go.Proofs.Ytmiodefphiknhaa
open Go.RowKit

set_option maxRecDepth 100000 in
set_option maxHeartbeats 8000000 in
theorem vcodeCuts_law (V : VcCode) (w : World) (ao : Option Addr) (cap : Nat) (l : List En) (fl : Fits l) (hA : EnsAt w ao l) (t : ByteArray) (ht : t.size ≤ maxLen) :
    Calls Try.prog 6 #[.slice ao l.length cap, .string t] w fun e w' => e = .returned (.bool true) ∧ Keep0 w w' := by
  have yg := fun W (h : EnsAt W ao l) => rgreat10 W ao cap l fl h
  have i0 : (t.size : Int) ≤ 9223372036854775807 := by unfold maxLen at ht; omega
  cases ga : vGreat l with
  | true =>
    rw [ga] at yg
    go_enter Try.func6, Try.ntmps6
    go_wp2_with fail
    refine (awake11 V w).mono ?_
    rintro e w1 ⟨rfl, K1⟩
    have y := yg w1 (hA.keep0 K1)
    clear yg
    go_wp2_with fail
    refine y.mono ?_
    rintro e w' ⟨rfl, rfl⟩
    clear y
    go_wp2
    go_ret
    exact ⟨rfl, K1⟩
  | false =>
    rw [ga] at yg
    by_cases h1 : t.size = 0
    · have i1 : (t.size : Int) = 0 := by omega
      go_enter Try.func6, Try.ntmps6
      go_wp2_with fail
      refine (awake11 V w).mono ?_
      rintro e w1 ⟨rfl, K1⟩
      have y := yg w1 (hA.keep0 K1)
      clear yg
      go_wp2_with fail
      refine y.mono ?_
      rintro e w' ⟨rfl, rfl⟩
      clear y
      go_wp2
      go_ret
      exact ⟨rfl, K1⟩
    have i1 : ((t.size : Int) == 0) = false := beq_eq_false_iff_ne.2 (by omega)
    have i1' : ¬ (t.size : Int) = 0 := by omega
    by_cases h2 : 100 < t.size
    · have i2 : (100 : Int) < t.size := by omega
      go_enter Try.func6, Try.ntmps6
      go_wp2_with fail
      refine (awake11 V w).mono ?_
      rintro e w1 ⟨rfl, K1⟩
      have y := yg w1 (hA.keep0 K1)
      clear yg
      go_wp2_with fail
      refine y.mono ?_
      rintro e w' ⟨rfl, rfl⟩
      clear y
      go_wp2
      go_ret
      exact ⟨rfl, K1⟩
    have i2 : ¬ (100 : Int) < t.size := by omega
    have yr := fun W (h : EnsAt W ao l) => rencode11 W ao cap l fl h
    by_cases h0 : vCheck l = 0
    case neg =>
      rw [encV_no h0] at yr
      have e0 : (vCheck l != 0) = true := by simpa using h0
      clear h0
      generalize vCheck l = C at *
      go_enter Try.func6, Try.ntmps6
      go_wp2_with fail
      refine (awake11 V w).mono ?_
      rintro e w1 ⟨rfl, K1⟩
      have y := yg w1 (hA.keep0 K1)
      clear yg
      go_wp2_with fail
      refine y.mono ?_
      rintro e w' ⟨rfl, rfl⟩
      clear y
      have y := yr w1 (hA.keep0 K1)
      clear yr
      go_wp2_with fail
      refine y.mono ?_
      rintro e w2 ⟨rfl, k2⟩
      have K2 := K1.trans k2
      clear k2 K1 y
      go_wp2
      go_ret
      exact ⟨rfl, K2⟩
    rw [encV_yes h0] at yr
    have hok : okVec l := ⟨h0, fun x hx => (fl.2 x hx).2⟩
    have hes := eVec_size hok
    have HS : Hid (∀ i, i < (eVec l).size → (decV ((eVec l).extract 0 i)).2 = 2) := fun i hi => dec_short hok hi
    have HM : Hid ((decV (eVec l ++ t)).2 = 8) := dec_more hok (by omega)
    generalize eVec l = F at *
    have hF : (F.size : Int) ≤ 2753 := by omega
    have hF' : (F.size : Int) ≤ 9223372036854775807 := by omega
    have hcat : ¬ 9223372036854775807 < F.size + t.size := by omega
    clear hok h0
    go_enter Try.func6, Try.ntmps6
    go_wp2_with fail
    refine (awake11 V w).mono ?_
    rintro e w1 ⟨rfl, K1⟩
    have y := yg w1 (hA.keep0 K1)
    clear yg
    go_wp2_with fail
    refine y.mono ?_
    rintro e w' ⟨rfl, rfl⟩
    clear y
    have y := yr w1 (hA.keep0 K1)
    clear yr
    go_wp2_with fail
    refine y.mono ?_
    rintro e w2 ⟨rfl, k2⟩
    have K2 := K1.trans k2
    clear k2 K1 y
    go_wp2_with fail
    go_loopw [7] (fun i wr => ∃ (k : Nat), i = .int .i64 (k : Int) ∧ k ≤ F.size ∧ Keep0 w wr) (fun i _ => F.size - (intOf i).toNat)
    case atStart => exact ⟨0, rfl, by omega, K2⟩
    case round =>
      obtain ⟨k, rfl, hk, hK⟩ := hrel
      clear K2
      by_cases hlt : k < F.size
      · have j1 : (k : Int) < F.size := by omega
        have yd := V.decode wr (F.extract 0 k) (by rw [ByteArray.size_extract]; omega)
        have hd := HS.out k hlt
        obtain ⟨D, hD⟩ : ∃ D, decV (F.extract 0 k) = D := ⟨_, rfl⟩
        rw [hD] at yd hd
        obtain ⟨D1, D2⟩ := D
        have hd : D2 = 2 := hd
        subst hd
        clear hD
        go_wp2_with fail
        refine yd.mono ?_
        rintro e w3 ⟨bo, cb, rfl, _, _, k3⟩
        have K3 := hK.trans k3
        clear yd k3 hK
        go_wp2
        go_roundw
        case rel => exact ⟨k + 1, by go_num, by omega, K3⟩
        case measure => simp [intOf]; omega
      · have j1 : ¬ (k : Int) < F.size := by omega
        have yd := V.decode wr (F ++ t) (by rw [ByteArray.size_append]; omega)
        have hd := HM.out
        obtain ⟨D, hD⟩ : ∃ D, decV (F ++ t) = D := ⟨_, rfl⟩
        rw [hD] at yd hd
        obtain ⟨D1, D2⟩ := D
        have hd : D2 = 8 := hd
        subst hd
        clear hD
        go_wp2_with fail
        refine yd.mono ?_
        rintro e w3 ⟨bo, cb, rfl, _, _, k3⟩
        have K3 := hK.trans k3
        clear yd k3 hK
        go_wp2
        go_ret
        exact ⟨rfl, K3⟩
end Go.Proofs.Ytmiodefphiknhaa
