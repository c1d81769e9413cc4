/-
  The walk of the law DottedKeeps, out of what package dotted's functions answer (DotCode) and of the document's own answers.
  Conditions: none beyond that the argument can be read as data.
-/
import Derived.Test.YtkbihpdfafapeaaInts12
namespace Go.Proofs.Ytkbihpdfafapeaa
open Go.RowKit

set_option maxRecDepth 100000 in
set_option maxHeartbeats 8000000 in
theorem dottedKeeps_small (V : DotCode) (w : World) (ao : Option Addr) (cap : Nat) (l : List Ck) (hl : l.length ≤ 20) (hf : ∀ k ∈ l, FitsK k) (hc : ClksAt w ao l) :
    Calls Try.prog 4 #[.slice ao l.length cap] w fun e w' => e = .returned (.bool true) ∧ Keep0 w w' := by
  have HC : Hid (ClksAt w ao l) := hc
  have HF : Hid (∀ k ∈ l, FitsK k) := hf
  have i01 : ¬ (20 : Int) < l.length := by omega
  have i02 : (l.length : Int) ≤ 9223372036854775807 := by omega
  have HL : Hid (l.length ≤ 20) := hl
  clear hc hf hl
  go_enter Try.func4, Try.ntmps4
  go_wp2_with fail
  refine (awake12 V w).mono ?_
  rintro e w1 ⟨rfl, K1⟩
  go_wp2_with fail
  go_loopw [3] (fun i wr => ∃ (k : Nat), i = .int .i64 (k : Int) ∧ k ≤ l.length ∧ Hid (∀ q (_ : q < l.length), q < k → l[q].c.length ≤ 100) ∧ Keep0 w wr) (fun i _ => l.length - (intOf i).toNat)
  case atStart => exact ⟨0, rfl, by omega, (fun q _ h => by omega), K1⟩
  case round =>
    obtain ⟨k, rfl, hk, HQ, hK⟩ := hrel
    clear K1
    by_cases hlt : k < l.length
    · have i1 : (k : Int) < l.length := by omega
      obtain ⟨b, off, to, tc, rfl, x4, hE⟩ := HC.out k hlt
      have hfk := HF.out l[k] (List.getElem_mem hlt)
      have yg := rgreat12 wr to tc l[k] hfk (hE.keep0 hK)
      obtain ⟨x0, x1, x2, x3⟩ := x4.keep0 hK
      cases hg : kGreat l[k] with
      | true =>
        rw [hg] at yg
        clear x4 hE hfk hg HQ
        generalize l[k] = y at *
        go_wp2_with fail
        refine yg.mono ?_
        rintro e w2 ⟨rfl, k2⟩
        have K2 := hK.trans k2
        clear yg k2 hK
        go_wp2
        go_ret
        exact ⟨rfl, K2⟩
      | false =>
        rw [hg] at yg
        have h100 := (kgreat_len hg).1
        have HN : Hid (∀ q (_ : q < l.length), q < k + 1 → l[q].c.length ≤ 100) := by
          intro q hq hlt'
          by_cases e : q = k
          · subst e; exact h100
          · exact HQ.out q hq (by omega)
        clear x4 hE hfk hg HQ h100
        generalize l[k] = y at *
        go_wp2_with fail
        refine yg.mono ?_
        rintro e w2 ⟨rfl, k2⟩
        have K2 := hK.trans k2
        clear yg k2 hK x0 x1 x2 x3
        go_wp2
        go_roundw
        case rel => exact ⟨k + 1, by go_num, by omega, HN, K2⟩
        case measure => simp [intOf]; omega
    · have i1 : ¬ (k : Int) < l.length := by omega
      have hok : ∀ y ∈ l, Ok12 y := by
        intro y hy
        obtain ⟨q, hq, rfl⟩ := List.mem_iff_getElem.1 hy
        exact ⟨by have := HQ.out q hq (by omega); omega, HF.out _ (List.getElem_mem hq)⟩
      have hl20 := HL.out
      clear HQ
      have y1 := V.ceiling wr ao cap l (by omega) hok (HC.out.keep0 hK)
      have y2 := fun W (K : Keep0 w W) => rceil12 W ao cap l (by omega) HF.out (HC.out.keep0 K)
      have y3 := fun W (K : Keep0 w W) => V.keep W ao cap l (by omega) hok (HC.out.keep0 K)
      have y4 := fun W (K : Keep0 w W) => rkeep12 W ao cap l (by omega) HF.out (HC.out.keep0 K)
      have hcl := ceil_len l
      have hkl := keep_len l
      have hsame : vSame (kCeil l).1 (kCeil l).1 = true := vSame_iff.2 rfl
      generalize hE1 : (kCeil l).1 = E1 at *
      generalize hE2 : (kCeil l).2 = E2 at *
      obtain ⟨EV, hEV⟩ : ∃ EV, kCeil l = EV := ⟨_, rfl⟩
      rw [hEV] at y1 y2 hE1 hE2
      generalize hN1 : (kKeep l).1 = N1 at *
      generalize hN2 : (kKeep l).2 = N2 at *
      obtain ⟨NV, hNV⟩ : ∃ NV, kKeep l = NV := ⟨_, rfl⟩
      rw [hNV] at y3 y4 hN1 hN2
      clear hok hEV hNV
      go_wp2_with fail
      refine y1.mono ?_
      rintro e w2 ⟨vo, vc, rfl, v1, v2, k2⟩
      rw [hE1] at v1
      rw [hE1, hE2]
      have K2 := hK.trans k2
      have y2 := y2 _ K2
      clear y1 v2 k2 hK
      go_wp2_with fail
      refine y2.mono ?_
      rintro e w3 ⟨ro, rc, rfl, r1, r2, k3⟩
      rw [hE1] at r1
      rw [hE1, hE2]
      have v1 := v1.keep0 k3
      have K3 := K2.trans k3
      have y3 := y3 _ K3
      clear y2 r2 k3 K2
      go_wp2_with fail
      refine y3.mono ?_
      rintro e w4 ⟨no, nc, rfl, n1, k4⟩
      rw [hN1] at n1
      rw [hN1, hN2]
      have v1 := v1.keep0 k4
      have r1 := r1.keep0 k4
      have K4 := K3.trans k4
      have y4 := y4 _ K4
      clear y3 k4 K3
      go_wp2_with fail
      refine y4.mono ?_
      rintro e w5 ⟨mo, mc, rfl, m1, k5⟩
      rw [hN1] at m1
      rw [hN1, hN2]
      have v1 := v1.keep0 k5
      have r1 := r1.keep0 k5
      have n1 := n1.keep0 k5
      have K5 := K4.trans k5
      have ys := rsame10 w5 vo ro vc rc E1 E1 (by unfold maxLen; omega) (by unfold maxLen; omega) v1 r1
      rw [hsame] at ys
      clear y4 k5 K4 v1 r1
      go_wp2_with fail
      refine ys.mono ?_
      rintro e w6 ⟨rfl, hw6⟩
      have k6 := keepN hw6
      have K6 := K5.trans k6
      have yi := ints12_yes w6 no mo nc mc N1 (by unfold maxLen; omega) (n1.keep0 k6) (m1.keep0 k6)
      clear ys hw6 k6 K5 n1 m1
      go_wp2_with fail
      refine yi.mono ?_
      rintro e w7 ⟨rfl, hw7⟩
      have K7 := K6.trans (keepN hw7)
      clear yi hw7 K6
      go_wp2
      go_ret
      exact ⟨by simp, K7⟩
theorem dottedKeeps_law (V : DotCode) (w : World) (ao : Option Addr) (cap : Nat) (l : List Ck) (hl : l.length ≤ maxLen) (hf : ∀ k ∈ l, FitsK k) (hc : ClksAt w ao l) :
    Calls Try.prog 4 #[.slice ao l.length cap] w fun e w' => e = .returned (.bool true) ∧ Keep0 w w' := by
  by_cases h : l.length ≤ 20
  · exact dottedKeeps_small V w ao cap l h hf hc
  · have i1 : (20 : Int) < l.length := by omega
    have hl' : (l.length : Int) ≤ 9223372036854775807 := by unfold maxLen at hl; omega
    clear h hf hc
    go_enter Try.func4, Try.ntmps4
    go_wp2_with fail
    refine (awake12 V w).mono ?_
    rintro e w1 ⟨rfl, K1⟩
    go_wp2
    go_ret
    exact ⟨rfl, K1⟩
end Go.Proofs.Ytkbihpdfafapeaa
