/-
  The walk of the law VcodeDecodes, out of what package vcode's functions answer (VcCode) and of the document's own answers.
  Conditions: none beyond that the arguments can be read as data.
-/
import Derived.Test.YtmiodefphiknhaaLaw11
import Derived.Test.YtmiodefphiknhaaEncodes11
import Derived.Test.YtmiodefphiknhaaL1
namespace Go.Proofs.Ytmiodefphiknhaa
open Go.RowKit

theorem dec_ok (s : ByteArray) : Ok11 (decV s).1 := by
  by_cases h : (decV s).2 = 0
  · obtain ⟨h1, _⟩ := dec_zero h
    obtain ⟨h2, h3⟩ := (check_zero _).1 h1.1
    exact ⟨by omega, fun x hx => ⟨by have := (h3.1 x hx).2.1; unfold maxLen; omega, h1.2 x hx⟩⟩
  · rw [dec_bad h]
    exact ⟨by simp, fun x hx => by cases hx⟩
set_option maxRecDepth 100000 in
set_option maxHeartbeats 8000000 in
theorem vcodeDecodes_law (V : VcCode) (w : World) (s : ByteArray) (hs : s.size ≤ maxLen) :
    Calls Try.prog 4 #[.string s] w fun e w' => e = .returned (.bool true) ∧ Keep0 w w' := by
  by_cases hl : (s.size : Int) ≤ 3000
  case neg =>
    have i0 : (s.size : Int) ≤ 9223372036854775807 := by unfold maxLen at hs; omega
    have i1 : (3000 : Int) < s.size := by omega
    go_enter Try.func4, Try.ntmps4
    go_wp2_with fail
    refine (awake11 V w).mono ?_
    rintro e w1 ⟨rfl, K1⟩
    go_wp2
    go_ret
    exact ⟨rfl, K1⟩
  have i0 : (s.size : Int) ≤ 9223372036854775807 := by omega
  have i1 : ¬ (3000 : Int) < s.size := by omega
  have yd := fun W => V.decode W s (by omega)
  have yr := fun W => rdecode11 W s hs
  have ok := dec_ok s
  have fl := ok.fits
  have ys := fun W ao bo ca cb (h : EnsAt W ao (decV s).1) (h' : EnsAt W bo (decV s).1) => rsame10 W ao bo ca cb _ _ fl.1 fl.1 h h'
  have hsame : vSame (decV s).1 (decV s).1 = true := vSame_iff.2 rfl
  rw [hsame] at ys
  have ye := fun W ao ca (h : EnsAt W ao (decV s).1) => V.encode W ao ca _ ok h
  have yc := fun W ao ca (h : EnsAt W ao (decV s).1) => rcheck10 W ao ca _ fl h
  have hJl : ((decV s).1.length : Int) ≤ 9223372036854775807 := by have := ok.1; omega
  clear hsame
  by_cases h0 : (decV s).2 = 0
  · obtain ⟨h1, h2⟩ := dec_zero h0
    rw [encV_yes h1.1, h2] at ye
    rw [h1.1] at yc
    obtain ⟨D, hD⟩ : ∃ D, decV s = D := ⟨_, rfl⟩
    rw [hD] at yd yr ys ye yc h0 hJl
    obtain ⟨D1, D2⟩ := D
    have h0 : D2 = 0 := h0
    subst h0
    have hJl : (D1.length : Int) ≤ 9223372036854775807 := hJl
    clear h1 h2 hD ok fl
    go_enter Try.func4, Try.ntmps4
    go_wp2_with fail
    refine (awake11 V w).mono ?_
    rintro e w1 ⟨rfl, K1⟩
    go_wp2_with fail
    refine (yd w1).mono ?_
    rintro e w2 ⟨ao, ca, rfl, x1, _, k2⟩
    have K2 := K1.trans k2
    clear K1 k2 yd
    go_wp2_with fail
    refine (yr w2).mono ?_
    rintro e w3 ⟨bo, cb, rfl, y1, _, k3⟩
    have x3 := x1.keep0 k3
    have K3 := K2.trans k3
    clear K2 k3 yr x1
    go_wp2_with fail
    refine (ys w3 ao bo ca cb x3 y1).mono ?_
    rintro e w4 ⟨rfl, hw4⟩
    have k4 := keepN hw4
    have x4 := x3.keep0 k4
    have K4 := K3.trans k4
    clear hw4 K3 k4 ys x3 y1
    go_wp2_with fail
    refine (ye w4 ao ca x4).mono ?_
    rintro e w5 ⟨rfl, k5⟩
    have x5 := x4.keep0 k5
    have K5 := K4.trans k5
    clear k5 K4 x4 ye
    go_wp2_with fail
    refine (yc w5 ao ca x5).mono ?_
    rintro e w6 ⟨rfl, hw6⟩
    have K6 := K5.trans (keepN hw6)
    clear hw6 K5
    go_wp2
    go_ret
    exact ⟨by simp, K6⟩
  · have hn := dec_bad h0
    have e0 : ((decV s).2 != 0) = true := by simpa using h0
    obtain ⟨D, hD⟩ : ∃ D, decV s = D := ⟨_, rfl⟩
    rw [hD] at yd yr ys hn e0
    obtain ⟨D1, D2⟩ := D
    have hn : D1 = [] := hn
    subst hn
    have e0 : (D2 != 0) = true := e0
    clear hD ok fl h0 ye yc hJl
    go_enter Try.func4, Try.ntmps4
    go_wp2_with fail
    refine (awake11 V w).mono ?_
    rintro e w1 ⟨rfl, K1⟩
    go_wp2_with fail
    refine (yd w1).mono ?_
    rintro e w2 ⟨ao, ca, rfl, x1, _, k2⟩
    have K2 := K1.trans k2
    clear K1 k2 yd
    go_wp2_with fail
    refine (yr w2).mono ?_
    rintro e w3 ⟨bo, cb, rfl, y1, _, k3⟩
    have x3 := x1.keep0 k3
    have K3 := K2.trans k3
    clear K2 k3 yr x1
    go_wp2_with fail
    refine (ys w3 ao bo ca cb x3 y1).mono ?_
    rintro e w4 ⟨rfl, hw4⟩
    have k4 := keepN hw4
    have x4 := x3.keep0 k4
    have K4 := K3.trans k4
    clear hw4 K3 k4 ys x3 y1
    go_wp2
    go_ret
    exact ⟨rfl, K4⟩
end Go.Proofs.Ytmiodefphiknhaa
