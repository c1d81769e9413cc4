/-
  The walk of the law VcodeEncodes, out of what package vcode's functions answer (VcCode) and of the document's own answers.
  Conditions: none beyond that the arguments can be read as data.
-/
import Derived.Test.YtmiodefphiknhaaLaw11
import Derived.Test.YtmiodefphiknhaaL1
namespace Go.Proofs.Ytmiodefphiknhaa
open Go.RowKit

theorem encV_no {l : List En} (h : vCheck l ≠ 0) : encV l = (⟨#[]⟩, vCheck l) := if_neg h
theorem encV_yes {l : List En} (h : vCheck l = 0) : encV l = (eVec l, 0) := if_pos h
set_option maxRecDepth 100000 in
set_option maxHeartbeats 8000000 in
theorem vcodeEncodes_law (V : VcCode) (w : World) (ao : Option Addr) (cap : Nat) (l : List En) (fl : Fits l) (hA : EnsAt w ao l) :
    Calls Try.prog 3 #[.slice ao l.length cap] w fun e w' => e = .returned (.bool true) ∧ Keep0 w w' := by
  have yg := fun W (h : EnsAt W ao l) => rgreat10 W ao cap l fl h
  cases ga : vGreat l with
  | true =>
    rw [ga] at yg
    go_enter Try.func3, Try.ntmps3
    go_wp2_with fail
    refine (awake11 V w).mono ?_
    rintro e w1 ⟨rfl, K1⟩
    have y := yg w1 (hA.keep0 K1)
    clear yg
    go_wp2_with fail
    refine y.mono ?_
    rintro e w' ⟨rfl, rfl⟩
    go_wp2
    go_ret
    exact ⟨rfl, K1⟩
  | false =>
    rw [ga] at yg
    have h100 := (great_no ga).1
    have ok : Ok11 l := ⟨by omega, fl.2⟩
    have ye := fun W (h : EnsAt W ao l) => V.encode W ao cap l ok h
    have yr := fun W (h : EnsAt W ao l) => rencode11 W ao cap l fl h
    by_cases h0 : vCheck l = 0
    case neg =>
      have yc := fun W (h : EnsAt W ao l) => rcheck10 W ao cap l fl h
      rw [encV_no h0] at ye yr
      have e0 : (vCheck l != 0) = true := by simpa using h0
      clear h0
      generalize vCheck l = C at *
      go_enter Try.func3, Try.ntmps3
      go_wp2_with fail
      refine (awake11 V w).mono ?_
      rintro e w1 ⟨rfl, K1⟩
      have hA1 := hA.keep0 K1
      go_wp2_with fail
      refine (yg w1 hA1).mono ?_
      rintro e w' ⟨rfl, rfl⟩
      go_wp2_with fail
      refine (ye w1 hA1).mono ?_
      rintro e w2 ⟨rfl, k2⟩
      have hA2 := hA1.keep0 k2
      have K2 := K1.trans k2
      clear hA1 K1 k2 ye yg
      go_wp2_with fail
      refine (yr w2 hA2).mono ?_
      rintro e w3 ⟨rfl, k3⟩
      have hA3 := hA2.keep0 k3
      have K3 := K2.trans k3
      clear hA2 K2 k3 yr
      go_wp2_with fail
      refine (yc w3 hA3).mono ?_
      rintro e w4 ⟨rfl, hw4⟩
      have K4 := K3.trans (keepN hw4)
      clear hw4 K3
      go_wp2
      go_ret
      exact ⟨by simp, K4⟩
    have hok : okVec l := ⟨h0, fun x hx => (fl.2 x hx).2⟩
    have hes := eVec_size hok
    have yd := fun W => V.decode W (eVec l) (by omega)
    rw [dec_enc hok] at yd
    rw [encV_yes h0] at ye yr
    have hs : vSame l l = true := vSame_iff.2 rfl
    have ys := fun W bo cb (h : EnsAt W ao l) (h' : EnsAt W bo l) => rsame10 W ao bo cap cb l l fl.1 fl.1 h h'
    rw [hs] at ys
    generalize eVec l = EV at *
    clear hok hes hs h0
    go_enter Try.func3, Try.ntmps3
    go_wp2_with fail
    refine (awake11 V w).mono ?_
    rintro e w1 ⟨rfl, K1⟩
    have hA1 := hA.keep0 K1
    go_wp2_with fail
    refine (yg w1 hA1).mono ?_
    rintro e w' ⟨rfl, rfl⟩
    go_wp2_with fail
    refine (ye w1 hA1).mono ?_
    rintro e w2 ⟨rfl, k2⟩
    have hA2 := hA1.keep0 k2
    have K2 := K1.trans k2
    clear hA1 K1 k2 ye yg
    go_wp2_with fail
    refine (yr w2 hA2).mono ?_
    rintro e w3 ⟨rfl, k3⟩
    have hA3 := hA2.keep0 k3
    have K3 := K2.trans k3
    clear hA2 K2 k3 yr
    go_wp2_with fail
    refine (yd w3).mono ?_
    rintro e w4 ⟨bo, cb, rfl, x1, x2, k4⟩
    have hA4 := hA3.keep0 k4
    have K4 := K3.trans k4
    clear hA3 K3 k4 yd x2
    go_wp2_with fail
    refine (ys w4 bo cb hA4 x1).mono ?_
    rintro e w5 ⟨rfl, hw5⟩
    have K5 := K4.trans (keepN hw5)
    clear hw5 K4
    go_wp2
    go_ret
    exact ⟨rfl, K5⟩
end Go.Proofs.Ytmiodefphiknhaa
