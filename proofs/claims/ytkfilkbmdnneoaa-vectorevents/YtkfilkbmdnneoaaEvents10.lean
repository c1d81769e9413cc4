/-
  The walk of the law VectorEvents, out of what package vector's functions answer (VecCode) and of the document's own answers.
  Conditions: none beyond that the arguments can be read as data.
-/
import Derived.Test.YtkfilkbmdnneoaaLaw10
import Derived.Test.YtkfilkbmdnneoaaTells10
import Derived.Test.YtkfilkbmdnneoaaJoins10
namespace Go.Proofs.Ytkfilkbmdnneoaa
open Go.RowKit

set_option maxRecDepth 100000 in
set_option maxHeartbeats 8000000 in
theorem vectorEvents_go (V : VecCode) (w : World) (ao : Option Addr) (ca : Nat) (a : List En) (fa : Fits a) (hA : EnsAt w ao a) (s : ByteArray) (hs : s.size ≤ maxLen) (t : ByteArray) (ht : t.size ≤ maxLen) (la : a.length ≤ 100) (ls : s.size ≤ 100) (lt : t.size ≤ 100) (yg : ∀ W, EnsAt W ao a → Calls Try.prog 8 #[.slice ao a.length ca] W fun e w' => e = .returned (.bool false) ∧ W = w') :
    Calls Try.prog 6 #[.slice ao a.length ca, .string s, .string t] w fun e w' => e = .returned (.bool true) ∧ Keep0 w w' := by
  have okA : Ok10 a := ⟨by omega, fa.2⟩
  have okE := event_ok s okA
  have i0 : (s.size : Int) ≤ 9223372036854775807 := by omega
  have i1 : (t.size : Int) ≤ 9223372036854775807 := by omega
  have i2 : ¬ (100 : Int) < s.size := by omega
  have i3 : ¬ (100 : Int) < t.size := by omega
  have ye := fun W (h : EnsAt W ao a) => V.event W ao ca a okA h s hs
  have yo := fun W p cp (h : EnsAt W p (vEvent a s).1) (h' : EnsAt W ao a) => V.order W p ao cp ca _ a okE okA h h'
  have ypn := fun W p cp (h : EnsAt W p (vEvent a s).1) => V.count W p cp _ okE h s hs
  have yan := fun W (h : EnsAt W ao a) => V.count W ao ca a okA h s hs
  have ypt := fun W p cp (h : EnsAt W p (vEvent a s).1) => V.count W p cp _ okE h t ht
  have yat := fun W (h : EnsAt W ao a) => V.count W ao ca a okA h t ht
  have hJl : ((vEvent a s).1.length : Int) ≤ 9223372036854775807 := by have := okE.1; omega
  by_cases h0 : (vEvent a s).2 = 0
  case neg =>
    have hn : (vEvent a s).1 = [] := event_bad h0
    have e0 : ((vEvent a s).2 != 0) = true := by simpa using h0
    clear yo ypn yan ypt yat okE hJl
    obtain ⟨J, hJ⟩ : ∃ J, vEvent a s = J := ⟨_, rfl⟩
    rw [hJ] at ye hn e0
    have hE1 : J.1 = [] := hn
    obtain ⟨E2, hE2⟩ : ∃ E2, J.2 = E2 := ⟨_, rfl⟩
    rw [hE2] at e0
    clear hJ h0 hn okA fa la
    go_enter Try.func6, Try.ntmps6
    go_wp2_with fail
    refine (awake10 V w).mono ?_
    rintro e w1 ⟨rfl, K1⟩
    have hA1 := hA.keep0 K1
    go_wp2_with fail
    refine (yg w1 hA1).mono ?_
    rintro e w' ⟨rfl, rfl⟩
    have y := ye w1 hA1
    go_wp2_with fail
    refine y.mono ?_
    rintro e w2 ⟨po, pc, rfl, P2, hx, k⟩
    rw [hE1] at P2
    rw [hE1, hE2]
    have hA2 := hA1.keep0 k
    have K2 := K1.trans k
    clear k y hx K1 hA1 ye yg hA
    go_wp2
    go_ret
    exact ⟨by first | rfl | simp, K2⟩
  obtain ⟨hc1, hc2, _, _, hmax, hcn⟩ := event_zero h0
  obtain ⟨u1, u2⟩ := event_up h0
  have hlt := count_lt (fun x hx => (fa.2 x hx).2) s
  have hcs := hcn s
  rw [if_pos rfl] at hcs
  have hor : vOrder (vEvent a s).1 a = 1 := by unfold vOrder; rw [u1, u2]; rfl
  rw [right_yes hc2 hc1, if_pos rfl, hor] at yo
  rw [hcs] at ypn
  obtain ⟨N, hN⟩ : ∃ N, vCount a s = N := ⟨_, rfl⟩
  obtain ⟨N1, hN1⟩ : ∃ N1, N + 1 = N1 := ⟨_, rfl⟩
  rw [hN] at ypn yan hmax hlt
  rw [hN1] at ypn
  have i4 : (N : Int) + 1 = (N1 : Int) := by omega
  have i5 : IntKind.u64.wrap (N1 : Int) = (N1 : Int) := by rw [IntKind.wrap_u64]; omega
  by_cases hst : t = s
  · subst hst
    obtain ⟨J, hJ⟩ : ∃ J, vEvent a t = J := ⟨_, rfl⟩
    rw [hJ] at ye yo ypn hJl h0
    obtain ⟨E1, hE1⟩ : ∃ E1, J.1 = E1 := ⟨_, rfl⟩
    rw [hE1] at yo ypn hJl
    have hE2 := h0
    clear hJ h0 okA okE fa la hc1 hc2 hcn u1 u2 hcs hor hmax hlt hN hN1 ypt yat
    go_enter Try.func6, Try.ntmps6
    go_wp2_with fail
    refine (awake10 V w).mono ?_
    rintro e w1 ⟨rfl, K1⟩
    have hA1 := hA.keep0 K1
    go_wp2_with fail
    refine (yg w1 hA1).mono ?_
    rintro e w' ⟨rfl, rfl⟩
    have y := ye w1 hA1
    go_wp2_with fail
    refine y.mono ?_
    rintro e w2 ⟨po, pc, rfl, P2, hx, k⟩
    rw [hE1] at P2
    rw [hE1, hE2]
    have hA2 := hA1.keep0 k
    have K2 := K1.trans k
    clear k y hx K1 hA1 ye yg hA
    go_wp2_with fail
    refine (yo w2 po pc P2 hA2).mono ?_
    rintro e w3 ⟨rfl, hx⟩
    have k : Keep0 w2 w3 := hx
    have hA3 := hA2.keep0 k
    have P3 := P2.keep0 k
    have K3 := K2.trans k
    clear k hx hA2 P2 K2
    go_wp2_with fail
    refine (ypn w3 po pc P3).mono ?_
    rintro e w4 ⟨rfl, hx⟩
    have k : Keep0 w3 w4 := hx
    have hA4 := hA3.keep0 k
    have P4 := P3.keep0 k
    have K4 := K3.trans k
    clear k hx hA3 P3 K3
    go_wp2_with fail
    refine (yan w4 hA4).mono ?_
    rintro e w5 ⟨rfl, hx⟩
    have k : Keep0 w4 w5 := hx
    have hA5 := hA4.keep0 k
    have P5 := P4.keep0 k
    have K5 := K4.trans k
    clear k hx hA4 P4 K4
    go_wp2
    go_ret
    exact ⟨by first | rfl | simp, K5⟩
  · have hct := hcn t
    rw [if_neg (fun e => hst e.symm)] at hct
    rw [hct] at ypt
    obtain ⟨M, hM⟩ : ∃ M, vCount a t = M := ⟨_, rfl⟩
    rw [hM] at ypt yat
    obtain ⟨e1, e2, e3⟩ := txt_ne hst
    obtain ⟨J, hJ⟩ : ∃ J, vEvent a s = J := ⟨_, rfl⟩
    rw [hJ] at ye yo ypn ypt hJl h0
    obtain ⟨E1, hE1⟩ : ∃ E1, J.1 = E1 := ⟨_, rfl⟩
    rw [hE1] at yo ypn ypt hJl
    have hE2 := h0
    clear hJ h0 okA okE fa la hc1 hc2 hcn u1 u2 hcs hor hmax hlt hN hN1 hct hM hst
    go_enter Try.func6, Try.ntmps6
    go_wp2_with fail
    refine (awake10 V w).mono ?_
    rintro e w1 ⟨rfl, K1⟩
    have hA1 := hA.keep0 K1
    go_wp2_with fail
    refine (yg w1 hA1).mono ?_
    rintro e w' ⟨rfl, rfl⟩
    have y := ye w1 hA1
    go_wp2_with fail
    refine y.mono ?_
    rintro e w2 ⟨po, pc, rfl, P2, hx, k⟩
    rw [hE1] at P2
    rw [hE1, hE2]
    have hA2 := hA1.keep0 k
    have K2 := K1.trans k
    clear k y hx K1 hA1 ye yg hA
    go_wp2_with fail
    refine (yo w2 po pc P2 hA2).mono ?_
    rintro e w3 ⟨rfl, hx⟩
    have k : Keep0 w2 w3 := hx
    have hA3 := hA2.keep0 k
    have P3 := P2.keep0 k
    have K3 := K2.trans k
    clear k hx hA2 P2 K2
    go_wp2_with fail
    refine (ypn w3 po pc P3).mono ?_
    rintro e w4 ⟨rfl, hx⟩
    have k : Keep0 w3 w4 := hx
    have hA4 := hA3.keep0 k
    have P4 := P3.keep0 k
    have K4 := K3.trans k
    clear k hx hA3 P3 K3
    go_wp2_with fail
    refine (yan w4 hA4).mono ?_
    rintro e w5 ⟨rfl, hx⟩
    have k : Keep0 w4 w5 := hx
    have hA5 := hA4.keep0 k
    have P5 := P4.keep0 k
    have K5 := K4.trans k
    clear k hx hA4 P4 K4
    go_wp2_with fail
    refine (ypt w5 po pc P5).mono ?_
    rintro e w6 ⟨rfl, hx⟩
    have k : Keep0 w5 w6 := hx
    have hA6 := hA5.keep0 k
    have P6 := P5.keep0 k
    have K6 := K5.trans k
    clear k hx hA5 P5 K5
    go_wp2_with fail
    refine (yat w6 hA6).mono ?_
    rintro e w7 ⟨rfl, hx⟩
    have k : Keep0 w6 w7 := hx
    have hA7 := hA6.keep0 k
    have P7 := P6.keep0 k
    have K7 := K6.trans k
    clear k hx hA6 P6 K6
    go_wp2
    go_ret
    exact ⟨by first | rfl | simp, K7⟩
set_option maxRecDepth 100000 in
set_option maxHeartbeats 8000000 in
theorem vectorEvents_law (V : VecCode) (w : World) (ao : Option Addr) (ca : Nat) (a : List En) (fa : Fits a) (hA : EnsAt w ao a) (s : ByteArray) (hs : s.size ≤ maxLen) (t : ByteArray) (ht : t.size ≤ maxLen) :
    Calls Try.prog 6 #[.slice ao a.length ca, .string s, .string t] w fun e w' => e = .returned (.bool true) ∧ Keep0 w w' := by
  have yg := fun W (h : EnsAt W ao a) => rgreat10 W ao ca a fa h
  have i0 : (s.size : Int) ≤ 9223372036854775807 := by unfold maxLen at hs; omega
  have i1 : (t.size : Int) ≤ 9223372036854775807 := by unfold maxLen at ht; omega
  cases ga : vGreat a with
  | true =>
    rw [ga] at yg
    go_enter Try.func6, Try.ntmps6
    go_wp2_with fail
    refine (awake10 V w).mono ?_
    rintro e w1 ⟨rfl, K1⟩
    have hA1 := hA.keep0 K1
    go_wp2_with fail
    refine (yg w1 hA1).mono ?_
    rintro e w' ⟨rfl, rfl⟩
    go_wp2
    go_ret
    exact ⟨rfl, K1⟩
  | false =>
    rw [ga] at yg
    by_cases h1 : s.size ≤ 100
    · by_cases h2 : t.size ≤ 100
      · exact vectorEvents_go V w ao ca a fa hA s hs t ht (great_no ga).1 h1 h2 yg
      · have i2 : ¬ (100 : Int) < s.size := by omega
        have i3 : (100 : Int) < t.size := by omega
        go_enter Try.func6, Try.ntmps6
        go_wp2_with fail
        refine (awake10 V w).mono ?_
        rintro e w1 ⟨rfl, K1⟩
        have hA1 := hA.keep0 K1
        go_wp2_with fail
        refine (yg w1 hA1).mono ?_
        rintro e w' ⟨rfl, rfl⟩
        go_wp2
        go_ret
        exact ⟨rfl, K1⟩
    · have i2 : (100 : Int) < s.size := by omega
      go_enter Try.func6, Try.ntmps6
      go_wp2_with fail
      refine (awake10 V w).mono ?_
      rintro e w1 ⟨rfl, K1⟩
      have hA1 := hA.keep0 K1
      go_wp2_with fail
      refine (yg w1 hA1).mono ?_
      rintro e w' ⟨rfl, rfl⟩
      go_wp2
      go_ret
      exact ⟨rfl, K1⟩
end Go.Proofs.Ytkfilkbmdnneoaa
