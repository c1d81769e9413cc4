/-
  The walk of the law DcodeDecodes, out of what package dcode's functions answer (DcCode) and of the document's own answers.
  Conditions: none beyond that the arguments can be read as data.
-/
import Derived.Test.YtfahpnkliecppaaLaw13
namespace Go.Proofs.Ytfahpnkliecppaa
open Go.RowKit

theorem decK_ok (s : ByteArray) : Ok13 (decK s).1 := by
  by_cases h : (decK s).2 = 0
  · obtain ⟨h1, _⟩ := decK_zero h
    have hR := (right_iff _).1 h1.1
    have h2 := ((check_zero _).1 hR.vec).1
    refine ⟨by omega, ⟨⟨by unfold maxLen; omega, fun x hx => ⟨by have := (hR.good.1 x hx).2.1; unfold maxLen; omega, h1.2.1 x hx⟩⟩, ?_, h1.2.2⟩⟩
    cases hd : (decK s).1.d with
    | true => have := (hR.dot hd).1.2.1; unfold maxLen; omega
    | false => have := (hR.plain hd).1; omega
  · rw [decK_bad h]
    exact ⟨by show 0 ≤ 10000; omega, ⟨⟨by show 0 ≤ maxLen; omega, fun x hx => by cases hx⟩, by show 0 ≤ maxLen; omega, by show 0 < 18446744073709551616; omega⟩⟩
set_option maxRecDepth 100000 in
set_option maxHeartbeats 8000000 in
theorem dcodeDecodes_law (V : DcCode) (w : World) (s : ByteArray) (hs : s.size ≤ maxLen) :
    Calls Try.prog 4 #[.string s] w fun e w' => e = .returned (.bool true) ∧ Keep0 w w' := by
  by_cases hl : (s.size : Int) ≤ 3000
  case neg =>
    have i0 : (s.size : Int) ≤ 9223372036854775807 := by unfold maxLen at hs; omega
    have i1 : (3000 : Int) < s.size := by omega
    go_enter Try.func4, Try.ntmps4
    go_wp2_with fail
    refine (awake13 V w).mono ?_
    rintro e w1 ⟨rfl, K1⟩
    go_wp2
    go_ret
    exact ⟨rfl, K1⟩
  have i0 : (s.size : Int) ≤ 9223372036854775807 := by omega
  have i1 : ¬ (3000 : Int) < s.size := by omega
  have yd := fun W => V.decode W s (by omega)
  have yr := fun W => rdecode13 W s hs
  have ok := decK_ok s
  have hz := decK_zero (s := s)
  have hbad := decK_bad (s := s)
  obtain ⟨D, hD⟩ : ∃ D, (decK s).1 = D := ⟨_, rfl⟩
  obtain ⟨E, hE⟩ : ∃ E, (decK s).2 = E := ⟨_, rfl⟩
  have hDE : decK s = (D, E) := by rw [← hD, ← hE]
  rw [hD] at ok hz hbad
  rw [hE] at hz hbad
  replace yd : ∀ W, Calls Try.prog 12 #[.string s] W fun e w' => ∃ vo vc, e = .returned (.tuple #[.agg #[.slice vo D.c.length vc, .bool D.d, .string D.x.a, .int .u64 (D.x.n : Int)], .int .i64 E]) ∧ EnsAt w' vo D.c ∧ Keep0 W w' := by
    intro W
    have := yd W
    rw [hDE] at this
    refine this.mono ?_
    rintro e w' ⟨vo, vc, h1, h2, _, h3⟩
    exact ⟨vo, vc, h1, h2, h3⟩
  replace yr : ∀ W, Calls Try.prog 15 #[.string s] W fun e w' => ∃ vo vc, e = .returned (.tuple #[.agg #[.slice vo D.c.length vc, .bool D.d, .string D.x.a, .int .u64 (D.x.n : Int)], .int .i64 E]) ∧ EnsAt w' vo D.c ∧ Keep0 W w' := by
    intro W
    have := yr W
    rw [hDE] at this
    refine this.mono ?_
    rintro e w' ⟨vo, vc, h1, h2, _, h3⟩
    exact ⟨vo, vc, h1, h2, h3⟩
  have ys := fun W ao bo ca cb (h : EnsAt W ao D.c) (h' : EnsAt W bo D.c) => rsame12 W ao bo ca cb D D ok.fit ok.fit h h'
  rw [kSame_iff.2 rfl] at ys
  have ye := fun W ao ca (h : EnsAt W ao D.c) => V.encode W ao ca D ok h
  have yc := fun W ao ca (h : EnsAt W ao D.c) => rcheck12 W ao ca D ok.fit h
  clear hD hE hDE
  by_cases h0 : E = 0
  · obtain ⟨h1, h2⟩ := hz h0
    have hen : encK D = (s, 0) := by unfold encK; rw [if_pos h1.1, h2]
    rw [hen] at ye
    rw [h1.1] at yc
    subst h0
    clear hz hbad h1 h2 hen ok
    go_enter Try.func4, Try.ntmps4
    go_wp2_with fail
    refine (awake13 V w).mono ?_
    rintro e w1 ⟨rfl, K1⟩
    go_wp2_with fail
    refine (yd w1).mono ?_
    rintro e w2 ⟨vo, vc, rfl, x1, k2⟩
    have K2 := K1.trans k2
    have kB : Keep0 w2 (w2.alloc (.cells #[.slice vo D.c.length vc, .bool D.d, .string D.x.a, .int .u64 (D.x.n : Int)] 27)) := (Keep.refl _ _).alloc _
    have hX := clk_new w2 27 D vo vc
    have x1 := x1.keep0 kB
    have K3 := K2.trans kB
    clear K1 k2 yd K2 kB
    go_wp2_with fail
    generalize (w2.alloc (.cells #[.slice vo D.c.length vc, .bool D.d, .string D.x.a, .int .u64 (D.x.n : Int)] 27)) = w3 at *
    obtain ⟨g1, hg1⟩ : ∃ g1, w2.heap.size = g1 := ⟨_, rfl⟩
    rw [hg1] at hX ⊢
    clear hg1
    refine (yr w3).mono ?_
    rintro e w4 ⟨uo, uc, rfl, y1, k4⟩
    have K4 := K3.trans k4
    have kC : Keep0 w4 (w4.alloc (.cells #[.slice uo D.c.length uc, .bool D.d, .string D.x.a, .int .u64 (D.x.n : Int)] 27)) := (Keep.refl _ _).alloc _
    have hZ := clk_new w4 27 D uo uc
    have hX := (hX.keep0 k4).keep0 kC
    have x1 := (x1.keep0 k4).keep0 kC
    have y1 := y1.keep0 kC
    have K5 := K4.trans kC
    clear K3 k4 yr K4 kC
    obtain ⟨a0, a1, a2, a3⟩ := hX
    obtain ⟨b0, b1, b2, b3⟩ := hZ
    go_wp2_with fail
    generalize (w4.alloc (.cells #[.slice uo D.c.length uc, .bool D.d, .string D.x.a, .int .u64 (D.x.n : Int)] 27)) = w5 at *
    generalize w4.heap.size = g2 at *
    refine (ys w5 vo uo vc uc x1 y1).mono ?_
    rintro e w6 ⟨rfl, k6⟩
    have K6 := K5.trans k6
    replace a0 := k6.cell a0 (fun f => f)
    replace a1 := k6.cell a1 (fun f => f)
    replace a2 := k6.cell a2 (fun f => f)
    replace a3 := k6.cell a3 (fun f => f)
    replace x1 := x1.keep0 k6
    clear K5 k6 y1 b0 b1 b2 b3 ys
    go_wp2_with fail
    refine (ye w6 vo vc x1).mono ?_
    rintro e w7 ⟨rfl, k7⟩
    have K7 := K6.trans k7
    replace a0 := k7.cell a0 (fun f => f)
    replace a1 := k7.cell a1 (fun f => f)
    replace a2 := k7.cell a2 (fun f => f)
    replace a3 := k7.cell a3 (fun f => f)
    replace x1 := x1.keep0 k7
    clear K6 k7 ye
    go_wp2_with fail
    refine (yc w7 vo vc x1).mono ?_
    rintro e w8 ⟨rfl, k8⟩
    have K8 := K7.trans k8
    clear K7 k8 yc
    go_wp2
    go_ret
    exact ⟨by simp, K8⟩
  · have e0 : (E != 0) = true := by simpa using h0
    have e1 : ¬ E = 0 := h0
    clear hz hbad ok ye yc h0
    go_enter Try.func4, Try.ntmps4
    go_wp2_with fail
    refine (awake13 V w).mono ?_
    rintro e w1 ⟨rfl, K1⟩
    go_wp2_with fail
    refine (yd w1).mono ?_
    rintro e w2 ⟨vo, vc, rfl, x1, k2⟩
    have K2 := K1.trans k2
    have kB : Keep0 w2 (w2.alloc (.cells #[.slice vo D.c.length vc, .bool D.d, .string D.x.a, .int .u64 (D.x.n : Int)] 27)) := (Keep.refl _ _).alloc _
    have hX := clk_new w2 27 D vo vc
    have x1 := x1.keep0 kB
    have K3 := K2.trans kB
    clear K1 k2 yd K2 kB
    go_wp2_with fail
    generalize (w2.alloc (.cells #[.slice vo D.c.length vc, .bool D.d, .string D.x.a, .int .u64 (D.x.n : Int)] 27)) = w3 at *
    obtain ⟨g1, hg1⟩ : ∃ g1, w2.heap.size = g1 := ⟨_, rfl⟩
    rw [hg1] at hX ⊢
    clear hg1
    refine (yr w3).mono ?_
    rintro e w4 ⟨uo, uc, rfl, y1, k4⟩
    have K4 := K3.trans k4
    have kC : Keep0 w4 (w4.alloc (.cells #[.slice uo D.c.length uc, .bool D.d, .string D.x.a, .int .u64 (D.x.n : Int)] 27)) := (Keep.refl _ _).alloc _
    have hZ := clk_new w4 27 D uo uc
    have hX := (hX.keep0 k4).keep0 kC
    have x1 := (x1.keep0 k4).keep0 kC
    have y1 := y1.keep0 kC
    have K5 := K4.trans kC
    clear K3 k4 yr K4 kC
    obtain ⟨a0, a1, a2, a3⟩ := hX
    obtain ⟨b0, b1, b2, b3⟩ := hZ
    go_wp2_with fail
    generalize (w4.alloc (.cells #[.slice uo D.c.length uc, .bool D.d, .string D.x.a, .int .u64 (D.x.n : Int)] 27)) = w5 at *
    generalize w4.heap.size = g2 at *
    refine (ys w5 vo uo vc uc x1 y1).mono ?_
    rintro e w6 ⟨rfl, k6⟩
    have K6 := K5.trans k6
    replace a0 := k6.cell a0 (fun f => f)
    replace a1 := k6.cell a1 (fun f => f)
    replace a2 := k6.cell a2 (fun f => f)
    replace a3 := k6.cell a3 (fun f => f)
    replace x1 := x1.keep0 k6
    clear K5 k6 y1 b0 b1 b2 b3 ys
    go_wp2
    go_ret
    exact ⟨by simp, K6⟩
end Go.Proofs.Ytfahpnkliecppaa
