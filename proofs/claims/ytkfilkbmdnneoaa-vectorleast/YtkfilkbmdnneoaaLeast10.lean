/-
  The walk of the law VectorLeast, out of what package vector's functions answer (VecCode) and of the document's own answers.
  Conditions: none beyond that the arguments can be read as data.
-/
import Derived.Test.YtkfilkbmdnneoaaLaw10
import Derived.Test.YtkfilkbmdnneoaaTells10
import Derived.Test.YtkfilkbmdnneoaaJoins10
namespace Go.Proofs.Ytkfilkbmdnneoaa
open Go.RowKit

set_option maxRecDepth 100000 in
set_option maxHeartbeats 8000000 in
theorem vectorLeast_go (V : VecCode) (w : World) (ao bo co : Option Addr) (ca cb cc : Nat) (a b c : List En) (fa : Fits a) (fb : Fits b) (fc : Fits c) (hA : EnsAt w ao a) (hB : EnsAt w bo b) (hC : EnsAt w co c) (la : a.length ≤ 100) (lb : b.length ≤ 100) (lc : c.length ≤ 100) (ygA : ∀ W, EnsAt W ao a → Calls Try.prog 8 #[.slice ao a.length ca] W fun e w' => e = .returned (.bool false) ∧ W = w') (ygB : ∀ W, EnsAt W bo b → Calls Try.prog 8 #[.slice bo b.length cb] W fun e w' => e = .returned (.bool false) ∧ W = w') (ygC : ∀ W, EnsAt W co c → Calls Try.prog 8 #[.slice co c.length cc] W fun e w' => e = .returned (.bool false) ∧ W = w') :
    Calls Try.prog 5 #[.slice ao a.length ca, .slice bo b.length cb, .slice co c.length cc] w fun e w' => e = .returned (.bool true) ∧ Keep0 w w' := by
  have okA : Ok10 a := ⟨by omega, fa.2⟩
  have okB : Ok10 b := ⟨by omega, fb.2⟩
  have okC : Ok10 c := ⟨by omega, fc.2⟩
  have okJ : Ok10 (vJoin [a, b]).1 := join_ok (by intro l hl; simp at hl; rcases hl with rfl | rfl <;> assumption)
  have yj1 := fun W o (h : VecsAt W o [a, b]) => V.join W o 2 [a, b] (by simp) (by intro l hl; simp at hl; rcases hl with rfl | rfl <;> assumption) h
  have yj2 := fun W o (h : VecsAt W o [b, a]) => V.join W o 2 [b, a] (by simp) (by intro l hl; simp at hl; rcases hl with rfl | rfl <;> assumption) h
  rw [← join_two a b] at yj2
  have e2 : ([a, b] : List (List En)).length = 2 := rfl
  have e2' : ([b, a] : List (List En)).length = 2 := rfl
  rw [e2] at yj1
  rw [e2'] at yj2
  have ysm := fun W p q cp cq (h : EnsAt W p (vJoin [a, b]).1) (h' : EnsAt W q (vJoin [a, b]).1) => V.same W p q cp cq _ _ okJ okJ h h'
  have hsame : vSame (vJoin [a, b]).1 (vJoin [a, b]).1 = true := vSame_iff.2 rfl
  rw [hsame] at ysm
  have ydca := fun W (h : EnsAt W co c) (h' : EnsAt W ao a) => V.descends W co ao cc ca c a okC okA h h'
  have ydcb := fun W (h : EnsAt W co c) (h' : EnsAt W bo b) => V.descends W co bo cc cb c b okC okB h h'
  have ydja := fun W p cp (h : EnsAt W p (vJoin [a, b]).1) (h' : EnsAt W ao a) => V.descends W p ao cp ca _ a okJ okA h h'
  have ydjb := fun W p cp (h : EnsAt W p (vJoin [a, b]).1) (h' : EnsAt W bo b) => V.descends W p bo cp cb _ b okJ okB h h'
  have ydcj := fun W p cp (h : EnsAt W co c) (h' : EnsAt W p (vJoin [a, b]).1) => V.descends W co p cc cp c _ okC okJ h h'
  have ycj := fun W p cp (h : EnsAt W p (vJoin [a, b]).1) => V.check W p cp _ okJ h
  have ycc := fun W (h : EnsAt W co c) => V.check W co cc c okC h
  have hJl : ((vJoin [a, b]).1.length : Int) ≤ 9223372036854775807 := by have := okJ.1; omega
  clear e2 e2' hsame
  by_cases h0 : (vJoin [a, b]).2 = 0
  case neg =>
    have hn : (vJoin [a, b]).1 = [] := join_bad h0
    have e0 : ((vJoin [a, b]).2 != 0) = true := by simpa using h0
    clear ydca ydcb ydja ydjb ydcj ycj ycc okJ
    obtain ⟨J, hJ⟩ : ∃ J, vJoin [a, b] = J := ⟨_, rfl⟩
    rw [hJ] at yj1 yj2 ysm hJl hn e0
    rw [hn] at ysm hJl
    have hE1 : J.1 = [] := hn
    obtain ⟨E2, hE2⟩ : ∃ E2, J.2 = E2 := ⟨_, rfl⟩
    rw [hE2] at e0
    have hln : ([] : List En).length = 0 := rfl
    rw [hln] at ysm
    clear hJ h0 hn okA okB okC fa fb fc la lb lc hln hJl
    go_enter Try.func5, Try.ntmps5
    go_wp2_with fail
    refine (awake10 V w).mono ?_
    rintro e w1 ⟨rfl, K1⟩
    have hA1 := hA.keep0 K1
    have hB1 := hB.keep0 K1
    have hC1 := hC.keep0 K1
    go_wp2_with fail
    refine (ygA w1 hA1).mono ?_
    rintro e w' ⟨rfl, rfl⟩
    go_wp2_with fail
    refine (ygB w1 hB1).mono ?_
    rintro e w' ⟨rfl, rfl⟩
    go_wp2_with fail
    refine (ygC w1 hC1).mono ?_
    rintro e w' ⟨rfl, rfl⟩
    clear hA hB hC ygA ygB ygC
    have hL := vecs_two (ca := ca) (cb := cb) 22 hA1 hB1
    have kL : Keep0 w1 (w1.alloc (.cells #[.slice ao a.length ca, .slice bo b.length cb] 22)) := (Keep.refl _ _).alloc _
    have hAL := hA1.keep0 kL
    have hBL := hB1.keep0 kL
    have hCL := hC1.keep0 kL
    have KL := K1.trans kL
    have y := yj1 _ _ hL
    clear kL hL hA1 hB1 hC1 K1
    go_wp2_with fail
    generalize w1.alloc (.cells #[.slice ao a.length ca, .slice bo b.length cb] 22) = u1 at *
    generalize w1.heap.size = gu1 at *
    refine y.mono ?_
    rintro e v1 ⟨Po, Pc, rfl, Ph, hx, k⟩
    rw [hE1] at Ph
    rw [hE1, hE2]
    have hAv1 := hAL.keep0 k
    have hBv1 := hBL.keep0 k
    have hCv1 := hCL.keep0 k
    have Kv1 := KL.trans k
    have Pv1 := Ph
    clear k KL y hx Ph hAL hBL hCL
    have hL := vecs_two (ca := cb) (cb := ca) 22 hBv1 hAv1
    have kL : Keep0 v1 (v1.alloc (.cells #[.slice bo b.length cb, .slice ao a.length ca] 22)) := (Keep.refl _ _).alloc _
    have hAL := hAv1.keep0 kL
    have hBL := hBv1.keep0 kL
    have hCL := hCv1.keep0 kL
    have PL := Pv1.keep0 kL
    have KL := Kv1.trans kL
    have y := yj2 _ _ hL
    clear kL hL hAv1 hBv1 hCv1 Pv1 Kv1
    go_wp2_with fail
    generalize v1.alloc (.cells #[.slice bo b.length cb, .slice ao a.length ca] 22) = u2 at *
    generalize v1.heap.size = gu2 at *
    refine y.mono ?_
    rintro e v2 ⟨Qo, Qc, rfl, Qh, hx, k⟩
    rw [hE1] at Qh
    rw [hE1, hE2]
    have hAv2 := hAL.keep0 k
    have hBv2 := hBL.keep0 k
    have hCv2 := hCL.keep0 k
    have Pv2 := PL.keep0 k
    have Kv2 := KL.trans k
    have Qv2 := Qh
    clear k KL y hx Qh hAL hBL hCL PL
    go_wp2_with fail
    refine (ysm v2 Po Qo Pc Qc Pv2 Qv2).mono ?_
    rintro e v3 ⟨rfl, hx⟩
    have k : Keep0 v2 v3 := hx
    have hAv3 := hAv2.keep0 k
    have hBv3 := hBv2.keep0 k
    have hCv3 := hCv2.keep0 k
    have Pv3 := Pv2.keep0 k
    have Qv3 := Qv2.keep0 k
    have Kv3 := Kv2.trans k
    clear k hAv2 hBv2 hCv2 Pv2 Qv2 Kv2 hx
    go_wp2
    go_ret
    exact ⟨by first | rfl | simp, Kv3⟩
  obtain ⟨hr, _, hck, hgd, _⟩ := join_zero h0
  have ra := rights_iff.1 hr a List.mem_cons_self
  have rb := rights_iff.1 hr b (List.mem_cons_of_mem _ List.mem_cons_self)
  obtain ⟨ja, jb⟩ := join_above h0
  have jl := join_least h0 c
  rw [right_yes hck ra, ja] at ydja
  rw [right_yes hck rb, jb] at ydjb
  rw [hck] at ycj
  have ht : (true && true) = true := rfl
  rw [ht] at ydja ydjb
  clear ja jb hr hgd ht
  by_cases hc : vCheck c = 0
  case neg =>
    rw [right_no_a hc, Bool.false_and] at ydca
    have e1 : (vCheck c != 0) = true := by simpa using hc
    obtain ⟨J, hJ⟩ : ∃ J, vJoin [a, b] = J := ⟨_, rfl⟩
    rw [hJ] at yj1 yj2 ysm hJl ydja ydjb ycj h0
    obtain ⟨E1, hE1⟩ : ∃ E1, J.1 = E1 := ⟨_, rfl⟩
    rw [hE1] at ysm hJl ydja ydjb ycj
    have hE2 := h0
    generalize vCheck c = CC at *
    clear hJ h0 okA okB okC okJ fa fb fc la lb lc jl hck ra rb hc ydcj ydcb
    go_enter Try.func5, Try.ntmps5
    go_wp2_with fail
    refine (awake10 V w).mono ?_
    rintro e w1 ⟨rfl, K1⟩
    have hA1 := hA.keep0 K1
    have hB1 := hB.keep0 K1
    have hC1 := hC.keep0 K1
    go_wp2_with fail
    refine (ygA w1 hA1).mono ?_
    rintro e w' ⟨rfl, rfl⟩
    go_wp2_with fail
    refine (ygB w1 hB1).mono ?_
    rintro e w' ⟨rfl, rfl⟩
    go_wp2_with fail
    refine (ygC w1 hC1).mono ?_
    rintro e w' ⟨rfl, rfl⟩
    clear hA hB hC ygA ygB ygC
    have hL := vecs_two (ca := ca) (cb := cb) 22 hA1 hB1
    have kL : Keep0 w1 (w1.alloc (.cells #[.slice ao a.length ca, .slice bo b.length cb] 22)) := (Keep.refl _ _).alloc _
    have hAL := hA1.keep0 kL
    have hBL := hB1.keep0 kL
    have hCL := hC1.keep0 kL
    have KL := K1.trans kL
    have y := yj1 _ _ hL
    clear kL hL hA1 hB1 hC1 K1
    go_wp2_with fail
    generalize w1.alloc (.cells #[.slice ao a.length ca, .slice bo b.length cb] 22) = u1 at *
    generalize w1.heap.size = gu1 at *
    refine y.mono ?_
    rintro e v1 ⟨Po, Pc, rfl, Ph, hx, k⟩
    rw [hE1] at Ph
    rw [hE1, hE2]
    have hAv1 := hAL.keep0 k
    have hBv1 := hBL.keep0 k
    have hCv1 := hCL.keep0 k
    have Kv1 := KL.trans k
    have Pv1 := Ph
    clear k KL y hx Ph hAL hBL hCL
    have hL := vecs_two (ca := cb) (cb := ca) 22 hBv1 hAv1
    have kL : Keep0 v1 (v1.alloc (.cells #[.slice bo b.length cb, .slice ao a.length ca] 22)) := (Keep.refl _ _).alloc _
    have hAL := hAv1.keep0 kL
    have hBL := hBv1.keep0 kL
    have hCL := hCv1.keep0 kL
    have PL := Pv1.keep0 kL
    have KL := Kv1.trans kL
    have y := yj2 _ _ hL
    clear kL hL hAv1 hBv1 hCv1 Pv1 Kv1
    go_wp2_with fail
    generalize v1.alloc (.cells #[.slice bo b.length cb, .slice ao a.length ca] 22) = u2 at *
    generalize v1.heap.size = gu2 at *
    refine y.mono ?_
    rintro e v2 ⟨Qo, Qc, rfl, Qh, hx, k⟩
    rw [hE1] at Qh
    rw [hE1, hE2]
    have hAv2 := hAL.keep0 k
    have hBv2 := hBL.keep0 k
    have hCv2 := hCL.keep0 k
    have Pv2 := PL.keep0 k
    have Kv2 := KL.trans k
    have Qv2 := Qh
    clear k KL y hx Qh hAL hBL hCL PL
    go_wp2_with fail
    refine (ysm v2 Po Qo Pc Qc Pv2 Qv2).mono ?_
    rintro e v3 ⟨rfl, hx⟩
    have k : Keep0 v2 v3 := hx
    have hAv3 := hAv2.keep0 k
    have hBv3 := hBv2.keep0 k
    have hCv3 := hCv2.keep0 k
    have Pv3 := Pv2.keep0 k
    have Qv3 := Qv2.keep0 k
    have Kv3 := Kv2.trans k
    clear k hAv2 hBv2 hCv2 Pv2 Qv2 Kv2 hx
    go_wp2_with fail
    refine (ydca v3 hCv3 hAv3).mono ?_
    rintro e v4 ⟨rfl, hx⟩
    have k : Keep0 v3 v4 := hx
    have hAv4 := hAv3.keep0 k
    have hBv4 := hBv3.keep0 k
    have hCv4 := hCv3.keep0 k
    have Pv4 := Pv3.keep0 k
    have Qv4 := Qv3.keep0 k
    have Kv4 := Kv3.trans k
    clear k hAv3 hBv3 hCv3 Pv3 Qv3 Kv3 hx
    go_wp2_with fail
    refine (ycj v4 Po Pc Pv4).mono ?_
    rintro e v5 ⟨rfl, hx⟩
    have k : Keep0 v4 v5 := hx
    have hAv5 := hAv4.keep0 k
    have hBv5 := hBv4.keep0 k
    have hCv5 := hCv4.keep0 k
    have Pv5 := Pv4.keep0 k
    have Qv5 := Qv4.keep0 k
    have Kv5 := Kv4.trans k
    clear k hAv4 hBv4 hCv4 Pv4 Qv4 Kv4 hx
    go_wp2_with fail
    refine (ydja v5 Po Pc Pv5 hAv5).mono ?_
    rintro e v6 ⟨rfl, hx⟩
    have k : Keep0 v5 v6 := hx
    have hAv6 := hAv5.keep0 k
    have hBv6 := hBv5.keep0 k
    have hCv6 := hCv5.keep0 k
    have Pv6 := Pv5.keep0 k
    have Qv6 := Qv5.keep0 k
    have Kv6 := Kv5.trans k
    clear k hAv5 hBv5 hCv5 Pv5 Qv5 Kv5 hx
    go_wp2_with fail
    refine (ydjb v6 Po Pc Pv6 hBv6).mono ?_
    rintro e v7 ⟨rfl, hx⟩
    have k : Keep0 v6 v7 := hx
    have hAv7 := hAv6.keep0 k
    have hBv7 := hBv6.keep0 k
    have hCv7 := hCv6.keep0 k
    have Pv7 := Pv6.keep0 k
    have Qv7 := Qv6.keep0 k
    have Kv7 := Kv6.trans k
    clear k hAv6 hBv6 hCv6 Pv6 Qv6 Kv6 hx
    go_wp2_with fail
    refine (ycc v7 hCv7).mono ?_
    rintro e v8 ⟨rfl, hx⟩
    have k : Keep0 v7 v8 := hx
    have hAv8 := hAv7.keep0 k
    have hBv8 := hBv7.keep0 k
    have hCv8 := hCv7.keep0 k
    have Pv8 := Pv7.keep0 k
    have Qv8 := Qv7.keep0 k
    have Kv8 := Kv7.trans k
    clear k hAv7 hBv7 hCv7 Pv7 Qv7 Kv7 hx
    go_wp2
    go_ret
    exact ⟨by first | rfl | simp, Kv8⟩
  rw [right_yes hc ra, Bool.true_and] at ydca
  rw [right_yes hc rb, Bool.true_and] at ydcb
  rw [right_yes hc hck, Bool.true_and, jl] at ydcj
  rw [hc] at ycc
  obtain ⟨J, hJ⟩ : ∃ J, vJoin [a, b] = J := ⟨_, rfl⟩
  rw [hJ] at yj1 yj2 ysm hJl ydja ydjb ycj ydcj h0
  obtain ⟨E1, hE1⟩ : ∃ E1, J.1 = E1 := ⟨_, rfl⟩
  rw [hE1] at ysm hJl ydja ydjb ycj ydcj
  have hE2 := h0
  clear hJ h0 okA okB okC okJ fa fb fc la lb lc jl hck ra rb hc
  cases hU : vAbove c a with
  | false =>
    rw [hU, Bool.false_and] at ydcj
    rw [hU] at ydca
    clear hU ydcb
    go_enter Try.func5, Try.ntmps5
    go_wp2_with fail
    refine (awake10 V w).mono ?_
    rintro e w1 ⟨rfl, K1⟩
    have hA1 := hA.keep0 K1
    have hB1 := hB.keep0 K1
    have hC1 := hC.keep0 K1
    go_wp2_with fail
    refine (ygA w1 hA1).mono ?_
    rintro e w' ⟨rfl, rfl⟩
    go_wp2_with fail
    refine (ygB w1 hB1).mono ?_
    rintro e w' ⟨rfl, rfl⟩
    go_wp2_with fail
    refine (ygC w1 hC1).mono ?_
    rintro e w' ⟨rfl, rfl⟩
    clear hA hB hC ygA ygB ygC
    have hL := vecs_two (ca := ca) (cb := cb) 22 hA1 hB1
    have kL : Keep0 w1 (w1.alloc (.cells #[.slice ao a.length ca, .slice bo b.length cb] 22)) := (Keep.refl _ _).alloc _
    have hAL := hA1.keep0 kL
    have hBL := hB1.keep0 kL
    have hCL := hC1.keep0 kL
    have KL := K1.trans kL
    have y := yj1 _ _ hL
    clear kL hL hA1 hB1 hC1 K1
    go_wp2_with fail
    generalize w1.alloc (.cells #[.slice ao a.length ca, .slice bo b.length cb] 22) = u1 at *
    generalize w1.heap.size = gu1 at *
    refine y.mono ?_
    rintro e v1 ⟨Po, Pc, rfl, Ph, hx, k⟩
    rw [hE1] at Ph
    rw [hE1, hE2]
    have hAv1 := hAL.keep0 k
    have hBv1 := hBL.keep0 k
    have hCv1 := hCL.keep0 k
    have Kv1 := KL.trans k
    have Pv1 := Ph
    clear k KL y hx Ph hAL hBL hCL
    have hL := vecs_two (ca := cb) (cb := ca) 22 hBv1 hAv1
    have kL : Keep0 v1 (v1.alloc (.cells #[.slice bo b.length cb, .slice ao a.length ca] 22)) := (Keep.refl _ _).alloc _
    have hAL := hAv1.keep0 kL
    have hBL := hBv1.keep0 kL
    have hCL := hCv1.keep0 kL
    have PL := Pv1.keep0 kL
    have KL := Kv1.trans kL
    have y := yj2 _ _ hL
    clear kL hL hAv1 hBv1 hCv1 Pv1 Kv1
    go_wp2_with fail
    generalize v1.alloc (.cells #[.slice bo b.length cb, .slice ao a.length ca] 22) = u2 at *
    generalize v1.heap.size = gu2 at *
    refine y.mono ?_
    rintro e v2 ⟨Qo, Qc, rfl, Qh, hx, k⟩
    rw [hE1] at Qh
    rw [hE1, hE2]
    have hAv2 := hAL.keep0 k
    have hBv2 := hBL.keep0 k
    have hCv2 := hCL.keep0 k
    have Pv2 := PL.keep0 k
    have Kv2 := KL.trans k
    have Qv2 := Qh
    clear k KL y hx Qh hAL hBL hCL PL
    go_wp2_with fail
    refine (ysm v2 Po Qo Pc Qc Pv2 Qv2).mono ?_
    rintro e v3 ⟨rfl, hx⟩
    have k : Keep0 v2 v3 := hx
    have hAv3 := hAv2.keep0 k
    have hBv3 := hBv2.keep0 k
    have hCv3 := hCv2.keep0 k
    have Pv3 := Pv2.keep0 k
    have Qv3 := Qv2.keep0 k
    have Kv3 := Kv2.trans k
    clear k hAv2 hBv2 hCv2 Pv2 Qv2 Kv2 hx
    go_wp2_with fail
    refine (ydca v3 hCv3 hAv3).mono ?_
    rintro e v4 ⟨rfl, hx⟩
    have k : Keep0 v3 v4 := hx
    have hAv4 := hAv3.keep0 k
    have hBv4 := hBv3.keep0 k
    have hCv4 := hCv3.keep0 k
    have Pv4 := Pv3.keep0 k
    have Qv4 := Qv3.keep0 k
    have Kv4 := Kv3.trans k
    clear k hAv3 hBv3 hCv3 Pv3 Qv3 Kv3 hx
    go_wp2_with fail
    refine (ycj v4 Po Pc Pv4).mono ?_
    rintro e v5 ⟨rfl, hx⟩
    have k : Keep0 v4 v5 := hx
    have hAv5 := hAv4.keep0 k
    have hBv5 := hBv4.keep0 k
    have hCv5 := hCv4.keep0 k
    have Pv5 := Pv4.keep0 k
    have Qv5 := Qv4.keep0 k
    have Kv5 := Kv4.trans k
    clear k hAv4 hBv4 hCv4 Pv4 Qv4 Kv4 hx
    go_wp2_with fail
    refine (ydja v5 Po Pc Pv5 hAv5).mono ?_
    rintro e v6 ⟨rfl, hx⟩
    have k : Keep0 v5 v6 := hx
    have hAv6 := hAv5.keep0 k
    have hBv6 := hBv5.keep0 k
    have hCv6 := hCv5.keep0 k
    have Pv6 := Pv5.keep0 k
    have Qv6 := Qv5.keep0 k
    have Kv6 := Kv5.trans k
    clear k hAv5 hBv5 hCv5 Pv5 Qv5 Kv5 hx
    go_wp2_with fail
    refine (ydjb v6 Po Pc Pv6 hBv6).mono ?_
    rintro e v7 ⟨rfl, hx⟩
    have k : Keep0 v6 v7 := hx
    have hAv7 := hAv6.keep0 k
    have hBv7 := hBv6.keep0 k
    have hCv7 := hCv6.keep0 k
    have Pv7 := Pv6.keep0 k
    have Qv7 := Qv6.keep0 k
    have Kv7 := Kv6.trans k
    clear k hAv6 hBv6 hCv6 Pv6 Qv6 Kv6 hx
    go_wp2_with fail
    refine (ycc v7 hCv7).mono ?_
    rintro e v8 ⟨rfl, hx⟩
    have k : Keep0 v7 v8 := hx
    have hAv8 := hAv7.keep0 k
    have hBv8 := hBv7.keep0 k
    have hCv8 := hCv7.keep0 k
    have Pv8 := Pv7.keep0 k
    have Qv8 := Qv7.keep0 k
    have Kv8 := Kv7.trans k
    clear k hAv7 hBv7 hCv7 Pv7 Qv7 Kv7 hx
    go_wp2_with fail
    refine (ydcj v8 Po Pc hCv8 Pv8).mono ?_
    rintro e v9 ⟨rfl, hx⟩
    have k : Keep0 v8 v9 := hx
    have hAv9 := hAv8.keep0 k
    have hBv9 := hBv8.keep0 k
    have hCv9 := hCv8.keep0 k
    have Pv9 := Pv8.keep0 k
    have Qv9 := Qv8.keep0 k
    have Kv9 := Kv8.trans k
    clear k hAv8 hBv8 hCv8 Pv8 Qv8 Kv8 hx
    go_wp2
    go_ret
    exact ⟨by first | rfl | simp, Kv9⟩
  | true =>
    rw [hU, Bool.true_and] at ydcj
    rw [hU] at ydca
    clear hU
    cases hD : vAbove c b with
    | false =>
      rw [hD] at ydcb ydcj
      clear hD
      go_enter Try.func5, Try.ntmps5
      go_wp2_with fail
      refine (awake10 V w).mono ?_
      rintro e w1 ⟨rfl, K1⟩
      have hA1 := hA.keep0 K1
      have hB1 := hB.keep0 K1
      have hC1 := hC.keep0 K1
      go_wp2_with fail
      refine (ygA w1 hA1).mono ?_
      rintro e w' ⟨rfl, rfl⟩
      go_wp2_with fail
      refine (ygB w1 hB1).mono ?_
      rintro e w' ⟨rfl, rfl⟩
      go_wp2_with fail
      refine (ygC w1 hC1).mono ?_
      rintro e w' ⟨rfl, rfl⟩
      clear hA hB hC ygA ygB ygC
      have hL := vecs_two (ca := ca) (cb := cb) 22 hA1 hB1
      have kL : Keep0 w1 (w1.alloc (.cells #[.slice ao a.length ca, .slice bo b.length cb] 22)) := (Keep.refl _ _).alloc _
      have hAL := hA1.keep0 kL
      have hBL := hB1.keep0 kL
      have hCL := hC1.keep0 kL
      have KL := K1.trans kL
      have y := yj1 _ _ hL
      clear kL hL hA1 hB1 hC1 K1
      go_wp2_with fail
      generalize w1.alloc (.cells #[.slice ao a.length ca, .slice bo b.length cb] 22) = u1 at *
      generalize w1.heap.size = gu1 at *
      refine y.mono ?_
      rintro e v1 ⟨Po, Pc, rfl, Ph, hx, k⟩
      rw [hE1] at Ph
      rw [hE1, hE2]
      have hAv1 := hAL.keep0 k
      have hBv1 := hBL.keep0 k
      have hCv1 := hCL.keep0 k
      have Kv1 := KL.trans k
      have Pv1 := Ph
      clear k KL y hx Ph hAL hBL hCL
      have hL := vecs_two (ca := cb) (cb := ca) 22 hBv1 hAv1
      have kL : Keep0 v1 (v1.alloc (.cells #[.slice bo b.length cb, .slice ao a.length ca] 22)) := (Keep.refl _ _).alloc _
      have hAL := hAv1.keep0 kL
      have hBL := hBv1.keep0 kL
      have hCL := hCv1.keep0 kL
      have PL := Pv1.keep0 kL
      have KL := Kv1.trans kL
      have y := yj2 _ _ hL
      clear kL hL hAv1 hBv1 hCv1 Pv1 Kv1
      go_wp2_with fail
      generalize v1.alloc (.cells #[.slice bo b.length cb, .slice ao a.length ca] 22) = u2 at *
      generalize v1.heap.size = gu2 at *
      refine y.mono ?_
      rintro e v2 ⟨Qo, Qc, rfl, Qh, hx, k⟩
      rw [hE1] at Qh
      rw [hE1, hE2]
      have hAv2 := hAL.keep0 k
      have hBv2 := hBL.keep0 k
      have hCv2 := hCL.keep0 k
      have Pv2 := PL.keep0 k
      have Kv2 := KL.trans k
      have Qv2 := Qh
      clear k KL y hx Qh hAL hBL hCL PL
      go_wp2_with fail
      refine (ysm v2 Po Qo Pc Qc Pv2 Qv2).mono ?_
      rintro e v3 ⟨rfl, hx⟩
      have k : Keep0 v2 v3 := hx
      have hAv3 := hAv2.keep0 k
      have hBv3 := hBv2.keep0 k
      have hCv3 := hCv2.keep0 k
      have Pv3 := Pv2.keep0 k
      have Qv3 := Qv2.keep0 k
      have Kv3 := Kv2.trans k
      clear k hAv2 hBv2 hCv2 Pv2 Qv2 Kv2 hx
      go_wp2_with fail
      refine (ydca v3 hCv3 hAv3).mono ?_
      rintro e v4 ⟨rfl, hx⟩
      have k : Keep0 v3 v4 := hx
      have hAv4 := hAv3.keep0 k
      have hBv4 := hBv3.keep0 k
      have hCv4 := hCv3.keep0 k
      have Pv4 := Pv3.keep0 k
      have Qv4 := Qv3.keep0 k
      have Kv4 := Kv3.trans k
      clear k hAv3 hBv3 hCv3 Pv3 Qv3 Kv3 hx
      go_wp2_with fail
      refine (ydcb v4 hCv4 hBv4).mono ?_
      rintro e v5 ⟨rfl, hx⟩
      have k : Keep0 v4 v5 := hx
      have hAv5 := hAv4.keep0 k
      have hBv5 := hBv4.keep0 k
      have hCv5 := hCv4.keep0 k
      have Pv5 := Pv4.keep0 k
      have Qv5 := Qv4.keep0 k
      have Kv5 := Kv4.trans k
      clear k hAv4 hBv4 hCv4 Pv4 Qv4 Kv4 hx
      go_wp2_with fail
      refine (ycj v5 Po Pc Pv5).mono ?_
      rintro e v6 ⟨rfl, hx⟩
      have k : Keep0 v5 v6 := hx
      have hAv6 := hAv5.keep0 k
      have hBv6 := hBv5.keep0 k
      have hCv6 := hCv5.keep0 k
      have Pv6 := Pv5.keep0 k
      have Qv6 := Qv5.keep0 k
      have Kv6 := Kv5.trans k
      clear k hAv5 hBv5 hCv5 Pv5 Qv5 Kv5 hx
      go_wp2_with fail
      refine (ydja v6 Po Pc Pv6 hAv6).mono ?_
      rintro e v7 ⟨rfl, hx⟩
      have k : Keep0 v6 v7 := hx
      have hAv7 := hAv6.keep0 k
      have hBv7 := hBv6.keep0 k
      have hCv7 := hCv6.keep0 k
      have Pv7 := Pv6.keep0 k
      have Qv7 := Qv6.keep0 k
      have Kv7 := Kv6.trans k
      clear k hAv6 hBv6 hCv6 Pv6 Qv6 Kv6 hx
      go_wp2_with fail
      refine (ydjb v7 Po Pc Pv7 hBv7).mono ?_
      rintro e v8 ⟨rfl, hx⟩
      have k : Keep0 v7 v8 := hx
      have hAv8 := hAv7.keep0 k
      have hBv8 := hBv7.keep0 k
      have hCv8 := hCv7.keep0 k
      have Pv8 := Pv7.keep0 k
      have Qv8 := Qv7.keep0 k
      have Kv8 := Kv7.trans k
      clear k hAv7 hBv7 hCv7 Pv7 Qv7 Kv7 hx
      go_wp2_with fail
      refine (ycc v8 hCv8).mono ?_
      rintro e v9 ⟨rfl, hx⟩
      have k : Keep0 v8 v9 := hx
      have hAv9 := hAv8.keep0 k
      have hBv9 := hBv8.keep0 k
      have hCv9 := hCv8.keep0 k
      have Pv9 := Pv8.keep0 k
      have Qv9 := Qv8.keep0 k
      have Kv9 := Kv8.trans k
      clear k hAv8 hBv8 hCv8 Pv8 Qv8 Kv8 hx
      go_wp2_with fail
      refine (ydcj v9 Po Pc hCv9 Pv9).mono ?_
      rintro e v10 ⟨rfl, hx⟩
      have k : Keep0 v9 v10 := hx
      have hAv10 := hAv9.keep0 k
      have hBv10 := hBv9.keep0 k
      have hCv10 := hCv9.keep0 k
      have Pv10 := Pv9.keep0 k
      have Qv10 := Qv9.keep0 k
      have Kv10 := Kv9.trans k
      clear k hAv9 hBv9 hCv9 Pv9 Qv9 Kv9 hx
      go_wp2
      go_ret
      exact ⟨by first | rfl | simp, Kv10⟩
    | true =>
      rw [hD] at ydcb ydcj
      clear hD
      go_enter Try.func5, Try.ntmps5
      go_wp2_with fail
      refine (awake10 V w).mono ?_
      rintro e w1 ⟨rfl, K1⟩
      have hA1 := hA.keep0 K1
      have hB1 := hB.keep0 K1
      have hC1 := hC.keep0 K1
      go_wp2_with fail
      refine (ygA w1 hA1).mono ?_
      rintro e w' ⟨rfl, rfl⟩
      go_wp2_with fail
      refine (ygB w1 hB1).mono ?_
      rintro e w' ⟨rfl, rfl⟩
      go_wp2_with fail
      refine (ygC w1 hC1).mono ?_
      rintro e w' ⟨rfl, rfl⟩
      clear hA hB hC ygA ygB ygC
      have hL := vecs_two (ca := ca) (cb := cb) 22 hA1 hB1
      have kL : Keep0 w1 (w1.alloc (.cells #[.slice ao a.length ca, .slice bo b.length cb] 22)) := (Keep.refl _ _).alloc _
      have hAL := hA1.keep0 kL
      have hBL := hB1.keep0 kL
      have hCL := hC1.keep0 kL
      have KL := K1.trans kL
      have y := yj1 _ _ hL
      clear kL hL hA1 hB1 hC1 K1
      go_wp2_with fail
      generalize w1.alloc (.cells #[.slice ao a.length ca, .slice bo b.length cb] 22) = u1 at *
      generalize w1.heap.size = gu1 at *
      refine y.mono ?_
      rintro e v1 ⟨Po, Pc, rfl, Ph, hx, k⟩
      rw [hE1] at Ph
      rw [hE1, hE2]
      have hAv1 := hAL.keep0 k
      have hBv1 := hBL.keep0 k
      have hCv1 := hCL.keep0 k
      have Kv1 := KL.trans k
      have Pv1 := Ph
      clear k KL y hx Ph hAL hBL hCL
      have hL := vecs_two (ca := cb) (cb := ca) 22 hBv1 hAv1
      have kL : Keep0 v1 (v1.alloc (.cells #[.slice bo b.length cb, .slice ao a.length ca] 22)) := (Keep.refl _ _).alloc _
      have hAL := hAv1.keep0 kL
      have hBL := hBv1.keep0 kL
      have hCL := hCv1.keep0 kL
      have PL := Pv1.keep0 kL
      have KL := Kv1.trans kL
      have y := yj2 _ _ hL
      clear kL hL hAv1 hBv1 hCv1 Pv1 Kv1
      go_wp2_with fail
      generalize v1.alloc (.cells #[.slice bo b.length cb, .slice ao a.length ca] 22) = u2 at *
      generalize v1.heap.size = gu2 at *
      refine y.mono ?_
      rintro e v2 ⟨Qo, Qc, rfl, Qh, hx, k⟩
      rw [hE1] at Qh
      rw [hE1, hE2]
      have hAv2 := hAL.keep0 k
      have hBv2 := hBL.keep0 k
      have hCv2 := hCL.keep0 k
      have Pv2 := PL.keep0 k
      have Kv2 := KL.trans k
      have Qv2 := Qh
      clear k KL y hx Qh hAL hBL hCL PL
      go_wp2_with fail
      refine (ysm v2 Po Qo Pc Qc Pv2 Qv2).mono ?_
      rintro e v3 ⟨rfl, hx⟩
      have k : Keep0 v2 v3 := hx
      have hAv3 := hAv2.keep0 k
      have hBv3 := hBv2.keep0 k
      have hCv3 := hCv2.keep0 k
      have Pv3 := Pv2.keep0 k
      have Qv3 := Qv2.keep0 k
      have Kv3 := Kv2.trans k
      clear k hAv2 hBv2 hCv2 Pv2 Qv2 Kv2 hx
      go_wp2_with fail
      refine (ydca v3 hCv3 hAv3).mono ?_
      rintro e v4 ⟨rfl, hx⟩
      have k : Keep0 v3 v4 := hx
      have hAv4 := hAv3.keep0 k
      have hBv4 := hBv3.keep0 k
      have hCv4 := hCv3.keep0 k
      have Pv4 := Pv3.keep0 k
      have Qv4 := Qv3.keep0 k
      have Kv4 := Kv3.trans k
      clear k hAv3 hBv3 hCv3 Pv3 Qv3 Kv3 hx
      go_wp2_with fail
      refine (ydcb v4 hCv4 hBv4).mono ?_
      rintro e v5 ⟨rfl, hx⟩
      have k : Keep0 v4 v5 := hx
      have hAv5 := hAv4.keep0 k
      have hBv5 := hBv4.keep0 k
      have hCv5 := hCv4.keep0 k
      have Pv5 := Pv4.keep0 k
      have Qv5 := Qv4.keep0 k
      have Kv5 := Kv4.trans k
      clear k hAv4 hBv4 hCv4 Pv4 Qv4 Kv4 hx
      go_wp2_with fail
      refine (ycj v5 Po Pc Pv5).mono ?_
      rintro e v6 ⟨rfl, hx⟩
      have k : Keep0 v5 v6 := hx
      have hAv6 := hAv5.keep0 k
      have hBv6 := hBv5.keep0 k
      have hCv6 := hCv5.keep0 k
      have Pv6 := Pv5.keep0 k
      have Qv6 := Qv5.keep0 k
      have Kv6 := Kv5.trans k
      clear k hAv5 hBv5 hCv5 Pv5 Qv5 Kv5 hx
      go_wp2_with fail
      refine (ydja v6 Po Pc Pv6 hAv6).mono ?_
      rintro e v7 ⟨rfl, hx⟩
      have k : Keep0 v6 v7 := hx
      have hAv7 := hAv6.keep0 k
      have hBv7 := hBv6.keep0 k
      have hCv7 := hCv6.keep0 k
      have Pv7 := Pv6.keep0 k
      have Qv7 := Qv6.keep0 k
      have Kv7 := Kv6.trans k
      clear k hAv6 hBv6 hCv6 Pv6 Qv6 Kv6 hx
      go_wp2_with fail
      refine (ydjb v7 Po Pc Pv7 hBv7).mono ?_
      rintro e v8 ⟨rfl, hx⟩
      have k : Keep0 v7 v8 := hx
      have hAv8 := hAv7.keep0 k
      have hBv8 := hBv7.keep0 k
      have hCv8 := hCv7.keep0 k
      have Pv8 := Pv7.keep0 k
      have Qv8 := Qv7.keep0 k
      have Kv8 := Kv7.trans k
      clear k hAv7 hBv7 hCv7 Pv7 Qv7 Kv7 hx
      go_wp2_with fail
      refine (ycc v8 hCv8).mono ?_
      rintro e v9 ⟨rfl, hx⟩
      have k : Keep0 v8 v9 := hx
      have hAv9 := hAv8.keep0 k
      have hBv9 := hBv8.keep0 k
      have hCv9 := hCv8.keep0 k
      have Pv9 := Pv8.keep0 k
      have Qv9 := Qv8.keep0 k
      have Kv9 := Kv8.trans k
      clear k hAv8 hBv8 hCv8 Pv8 Qv8 Kv8 hx
      go_wp2_with fail
      refine (ydcj v9 Po Pc hCv9 Pv9).mono ?_
      rintro e v10 ⟨rfl, hx⟩
      have k : Keep0 v9 v10 := hx
      have hAv10 := hAv9.keep0 k
      have hBv10 := hBv9.keep0 k
      have hCv10 := hCv9.keep0 k
      have Pv10 := Pv9.keep0 k
      have Qv10 := Qv9.keep0 k
      have Kv10 := Kv9.trans k
      clear k hAv9 hBv9 hCv9 Pv9 Qv9 Kv9 hx
      go_wp2
      go_ret
      exact ⟨by first | rfl | simp, Kv10⟩
set_option maxRecDepth 100000 in
set_option maxHeartbeats 8000000 in
theorem vectorLeast_law (V : VecCode) (w : World) (ao bo co : Option Addr) (ca cb cc : Nat) (a b c : List En) (fa : Fits a) (fb : Fits b) (fc : Fits c) (hA : EnsAt w ao a) (hB : EnsAt w bo b) (hC : EnsAt w co c) :
    Calls Try.prog 5 #[.slice ao a.length ca, .slice bo b.length cb, .slice co c.length cc] w fun e w' => e = .returned (.bool true) ∧ Keep0 w w' := by
  have ygA := fun W (h : EnsAt W ao a) => rgreat10 W ao ca a fa h
  have ygB := fun W (h : EnsAt W bo b) => rgreat10 W bo cb b fb h
  have ygC := fun W (h : EnsAt W co c) => rgreat10 W co cc c fc h
  cases ga : vGreat a with
  | true =>
    rw [ga] at ygA
    go_enter Try.func5, Try.ntmps5
    go_wp2_with fail
    refine (awake10 V w).mono ?_
    rintro e w1 ⟨rfl, K1⟩
    have hA1 := hA.keep0 K1
    have hB1 := hB.keep0 K1
    have hC1 := hC.keep0 K1
    go_wp2_with fail
    refine (ygA w1 hA1).mono ?_
    rintro e w' ⟨rfl, rfl⟩
    go_wp2
    go_ret
    exact ⟨rfl, K1⟩
  | false =>
    rw [ga] at ygA
    cases gb : vGreat b with
    | true =>
      rw [gb] at ygB
      go_enter Try.func5, Try.ntmps5
      go_wp2_with fail
      refine (awake10 V w).mono ?_
      rintro e w1 ⟨rfl, K1⟩
      have hA1 := hA.keep0 K1
      have hB1 := hB.keep0 K1
      have hC1 := hC.keep0 K1
      go_wp2_with fail
      refine (ygA w1 hA1).mono ?_
      rintro e w' ⟨rfl, rfl⟩
      go_wp2_with fail
      refine (ygB w1 hB1).mono ?_
      rintro e w' ⟨rfl, rfl⟩
      go_wp2
      go_ret
      exact ⟨rfl, K1⟩
    | false =>
      rw [gb] at ygB
      cases gc : vGreat c with
      | true =>
        rw [gc] at ygC
        go_enter Try.func5, Try.ntmps5
        go_wp2_with fail
        refine (awake10 V w).mono ?_
        rintro e w1 ⟨rfl, K1⟩
        have hA1 := hA.keep0 K1
        have hB1 := hB.keep0 K1
        have hC1 := hC.keep0 K1
        go_wp2_with fail
        refine (ygA w1 hA1).mono ?_
        rintro e w' ⟨rfl, rfl⟩
        go_wp2_with fail
        refine (ygB w1 hB1).mono ?_
        rintro e w' ⟨rfl, rfl⟩
        go_wp2_with fail
        refine (ygC w1 hC1).mono ?_
        rintro e w' ⟨rfl, rfl⟩
        go_wp2
        go_ret
        exact ⟨rfl, K1⟩
      | false =>
        rw [gc] at ygC
        exact vectorLeast_go V w ao bo co ca cb cc a b c fa fb fc hA hB hC (great_no ga).1 (great_no gb).1 (great_no gc).1 ygA ygB ygC
end Go.Proofs.Ytkfilkbmdnneoaa
