/-
  What this seat's claims lean on of the texts RefPairs3, RefPairs4.
  Conditions: as each theorem states.
-/
import Derived.WalkKit
import Derived.ProofKit
import Derived.Below
import Derived.Deep.Draws
import Derived.Deep.RegionHeld
import Derived.Test.YtoefibkhlhmlfaaGreatChecked
import Derived.OpenShut
import Derived.ShutString
import Derived.WalkSpells
import Derived.WalkLawsBesides
import Derived.Deep.QuietTactic
import Derived.BigQuiet
import Derived.Laws.Bits64b
import Derived.PlainAid
import Derived.Lib.AppendStr
import Derived.Deep.AppendLies
import Derived.Laws.IdiomStrings
import Derived.Laws.BytesArg
import Derived.Deep.RegionWith
import Derived.Laws.AppendOwn
import Derived.Deep.DeepAppendWide
import Derived.Deep.Upon
import Derived.Test.YtoefibkhlhmlfaaGreatY11
import Derived.Test.YtoefibkhlhmlfaaGreatY13
import Derived.Test.YtoefibkhlhmlfaaGreatY6
import Derived.Test.YtoefibkhlhmlfaaGreatY10
namespace Go.Proofs.YtoefibkhlhmlfaaGreat
open Go.RowKit
theorem Keep.pGrown {w w' : World} {B : Nat} {row : Option Nat} (g : w.grownBy w' row) (h : ∀ k, row = some k → B ≤ k) : KeepFrom B w w' :=
  ⟨g.os, g.tape, g.output, g.size, fun k hk hn => g.block k hk (fun e => hn (h k e.symm))⟩
def RTakeP (r : List Pr × Int × Int) (s : ByteArray) (b : Nat) (w : World) (e : Ending) (w' : World) : Prop := ∃ ao cap, e = .returned (.slice ao r.1.length cap) ∧ Cur w' b s r.2.1 r.2.2 ∧ PrsAt w' ao r.1 ∧ (∀ g off m, ao = some ⟨g, off, m⟩ → w.heap.size ≤ g) ∧ CapP r.1 cap ∧ Keep1 b w w'
theorem RTakeP.mk {r : List Pr × Int × Int} {s : ByteArray} {b : Nat} {w w' : World} {e : Ending} {ao : Option Addr} {cap : Nat} (h : e = .returned (.slice ao r.1.length cap)) (h1 : Cur w' b s r.2.1 r.2.2) (h2 : PrsAt w' ao r.1) (h3 : ∀ g off m, ao = some ⟨g, off, m⟩ → w.heap.size ≤ g) (h3' : CapP r.1 cap) (h4 : Keep1 b w w') : RTakeP r s b w e w' := ⟨ao, cap, h, h1, h2, h3, h3', h4⟩
theorem takep_bad {s : ByteArray} {a x : Int} (h : kErr s a x 8 ≠ 0) : kNum s a x 8 = 0 ∧ rX [] rPrs s a x = ([], tAt s a x, kErr s a x 8) := by
  by_cases hx : x = 0
  · subst hx
    refine ⟨?_, by rw [rX_yes, rprs_a h]⟩
    by_cases ht : tErr s a 0 = 0
    · by_cases ho : pMax 8 < tNum s a 0
      · exact (k_over ht ho).1
      · exact absurd (k_ok ht ho).2 h
    · exact (k_err ht).1
  · have ht := tErr_err (s := s) (a := a) hx
    obtain ⟨h1, h2⟩ := k_err (s := s) (a := a) (x := x) (m := 8) (by rw [ht]; exact hx)
    exact ⟨h1, by rw [rX_no hx, h2, ht, tAt_err hx]⟩
theorem takep_good {s : ByteArray} {a x : Int} (h : kErr s a x 8 = 0) : x = 0 := by
  refine Decidable.byContradiction fun hx => ?_
  have ht := tErr_err (s := s) (a := a) hx
  obtain ⟨_, h2⟩ := k_err (s := s) (a := a) (x := x) (m := 8) (by rw [ht]; exact hx)
  rw [h2, ht] at h
  exact hx h
theorem countp_le {s : ByteArray} {a x : Int} : kNum s a x 8 ≤ 8 := by
  unfold kNum
  split
  · rename_i h; exact h.2
  · decide
theorem btxt_le {s : ByteArray} {a m : Int} (hm : 0 ≤ m) (ha : 0 ≤ a) (ha' : a ≤ s.size) (h : bErr s a 0 m = 0) : ((bTxt s a 0 m).size : Int) ≤ m := by
  obtain ⟨_, _, h3, _, h5, _⟩ := blob_zero h
  have hp : pMax m = m := by unfold pMax; rw [if_neg (by omega)]
  rw [hp] at h3
  have ht := tNum_lt s a 0
  have hal := tAt_le (s := s) (a := a) (x := 0) ha ha'
  rw [h5]
  unfold cut
  rw [ByteArray.size_extract]
  omega
theorem prq_app {O : List Pr} {k : Nat} (h : O.length = k) (x : Pr) : prq (O ++ [x]) (k + 1) = some x.n := by
  rw [prq_succ (l := O ++ [x]) (k := k) (by rw [List.length_append, h]; show k < k + 1; omega)]
  congr 1
  rw [List.getElem_append_right (by rw [h]; exact Nat.le_refl _)]
  simp [h]
set_option maxRecDepth 100000 in
set_option maxHeartbeats 8000000 in
theorem rtake14 {w : World} {b : Nat} {s : ByteArray} {a x : Int} (h : Cur w b s a x) :
    Calls Tryz.prog 164 #[ptr b] w (RTakeP (rX [] rPrs s a x) s b w) := by
  have hbl : b < w.heap.size := h.lt
  have yk := rcount_any 8 (by decide) h
  have hkb := kNum_bd s a x 8
  have hkl := countp_le (s := s) (a := a) (x := x)
  have HM : Hid (∀ (W : World) (e : Ending) (bo : Option Addr) (c : Nat) (R : List Pr × Int × Int), rX [] rPrs s a x = R → e = .returned (.slice bo R.1.length c) → Cur W b s R.2.1 R.2.2 → PrsAt W bo R.1 → (∀ g off m, bo = some ⟨g, off, m⟩ → w.heap.size ≤ g) → CapP R.1 c → Keep1 b w W → RTakeP (rX [] rPrs s a x) s b w e W) := by
    intro W e bo c R h1 h2 h3 h4 h5 h5' h6
    rw [h1]
    exact RTakeP.mk h2 h3 h4 h5 h5' h6
  by_cases h0 : kErr s a x 8 = 0
  case neg =>
    obtain ⟨hk, hr⟩ := takep_bad h0
    rw [hk] at yk
    have HR : Hid (rX [] rPrs s a x = ([], tAt s a x, kErr s a x 8)) := hr
    clear hr hk hkb hkl h0
    go_enter Tryz.func164, Tryz.ntmps164
    go_wp2_with fail
    refine yk.mono ?_
    rintro e w1 ⟨rfl, hc1, k1⟩
    go_wp2_with fail
    refine wp_loop_rounds 1 ?_
    rw [rounds_succ]
    go_wp2
    go_ret
    exact HM.out _ _ _ _ _ HR.out rfl hc1 (prs_nil _ _) (fun _ _ _ e => by cases e) ⟨Nat.le_refl _, Nat.zero_le _⟩ k1
  have hx := takep_good h0
  subst hx
  obtain ⟨N, hN⟩ : ∃ N : Nat, kNum s a 0 8 = (N : Int) := ⟨(kNum s a 0 8).toNat, by omega⟩
  have hN' : (kNum s a 0 8).toNat = N := by omega
  have hr : rX [] rPrs s a 0 = liftP [] (rPairs N none s (tAt s a 0)) := by rw [rX_yes, rprs_b h0, hN']
  rw [h0, hN] at yk
  obtain ⟨R, hR⟩ : ∃ R, rX [] rPrs s a 0 = R := ⟨_, rfl⟩
  rw [hR] at HM ⊢
  have HM : Hid (∀ (W : World) (e : Ending) (bo : Option Addr) (c : Nat) (R' : List Pr × Int × Int), R = R' → e = .returned (.slice bo R'.1.length c) → Cur W b s R'.2.1 R'.2.2 → PrsAt W bo R'.1 → (∀ g off m, bo = some ⟨g, off, m⟩ → w.heap.size ≤ g) → CapP R'.1 c → Keep1 b w W → RTakeP R s b w e W) := HM
  have HR : Hid (R = liftP [] (rPairs (N - 0) (prq [] 0) s (tAt s a 0))) := by rw [← hR]; exact hr
  have hN6 : N ≤ 8 := by omega
  clear hR hr hkb hkl h0 hN hN' h
  go_enter Tryz.func164, Tryz.ntmps164
  go_wp2_with fail
  refine yk.mono ?_
  rintro e w1 ⟨rfl, hc1, k1⟩
  clear yk
  generalize hB : w.heap.size = B at *
  go_wp2_with fail
  go_loopw [4, 5] (fun o i wr => ∃ (k : Nat) (O : List Pr) (A : Int), i = .int .i64 (k : Int) ∧ k ≤ N ∧ Hid (O.length = k) ∧ Hid (∀ x ∈ O, x.n.size ≤ maxLen) ∧ Hid (R = liftP O (rPairs (N - k) (prq O k) s A)) ∧ Cur wr b s A 0 ∧ wr.ownsRow B 135 2 o O.length (prCells O) ∧ Keep1 b w wr) (fun _ i _ => N - (intOf i).toNat)
  case atStart => exact ⟨0, [], tAt s a 0, rfl, by omega, rfl, (fun x hx => by cases hx), HR, hc1, World.ownsRow_nil _ _ _ _, k1⟩
  case round =>
    obtain ⟨k, O, A, rfl, hk, HOl, HSZ, HK, hc, ho, hK⟩ := hrel
    clear HR hc1 k1
    by_cases hlt : k < N
    · have i1 : (k : Int) < N := by omega
      have HK2 : Hid (R = liftP O (rPairs (N - k - 1 + 1) (prq O k) s A)) := by
        have := HK.out
        rwa [show N - k = N - k - 1 + 1 from by omega] at this
      obtain ⟨po, pc, rfl, hOe, hOn, hOc⟩ := prs_of_row ho
      clear hOc
      have yb := rblob_any 32 (by decide) hc
      have hAb := hc
      clear HK hc
      by_cases h1 : bErr s A 0 32 = 0
      case neg =>
        have hR := prs_bad (n := N - k - 1) O (show (rPair (prq O k) s A).2.2 ≠ 0 by rw [pr_a h1]; exact h1)
        rw [pr_a h1] at hR
        have HF : Hid (R = ([], bAt s A 0 32, bErr s A 0 32)) := by rw [← hR]; exact HK2.out
        obtain ⟨_, bb2, bb3⟩ := b_bad (s := s) (a := bAt s A 0 32) 32768 h1
        have e1 : (bErr s A 0 32 != 0) = true := by simpa using h1
        have e2 : (bErr s A 0 32 == 0) = false := by simpa using h1
        go_wp2_with fail
        refine yb.mono ?_
        rintro e w2 ⟨rfl, hc2, k2⟩
        have K2 := hK.trans k2
        have yv := rblob_any 32768 (by decide) hc2
        rw [bb2, bb3] at yv
        obtain ⟨q0, q1, q2, q3, q4⟩ := hc2.cells
        clear hR HK2 hAb ho bb2 bb3 q0 q1 q3 q4 yb k2 hK hOe hOn
        generalize bTxt s (bAt s A 0 32) (bErr s A 0 32) 32768 = VT at *
        generalize bErr s A 0 32 = BE at *
        generalize bAt s A 0 32 = BA at *
        generalize bTxt s A 0 32 = BT at *
        go_wp2_with fail
        refine yv.mono ?_
        rintro e w3 ⟨rfl, hc3, k3⟩
        have K3 := K2.trans k3
        obtain ⟨q0, q1, q2, q3, q4⟩ := hc3.cells
        clear q0 q1 q3 q4 yv k3
        go_wp2
        go_ret
        exact HM.out _ _ _ _ _ HF.out rfl hc3 (prs_nil _ _) (fun _ _ _ e => by cases e) ⟨Nat.le_refl _, Nat.zero_le _⟩ K3
      rw [h1] at yb
      have hs32 := btxt_le (s := s) (m := 32) (by decide) hAb.lo hAb.hi h1
      have hsz : (bTxt s A 0 32).size ≤ maxLen := by unfold maxLen; omega
      have j0 : ((bTxt s A 0 32).size : Int) ≤ 9223372036854775807 := by omega
      by_cases h2 : (bTxt s A 0 32).size = 0
      · have hT : aTest (prq O k) (bTxt s A 0 32) = 14 := if_pos h2
        have hR := prs_bad (n := N - k - 1) O (show (rPair (prq O k) s A).2.2 ≠ 0 by rw [pr_b h1 (by rw [hT]; decide), hT]; show (14 : Int) ≠ 0; decide)
        rw [pr_b h1 (by rw [hT]; decide), hT] at hR
        have HF : Hid (R = ([], bAt s A 0 32, 14)) := by rw [← hR]; exact HK2.out
        have j1 : ((bTxt s A 0 32).size : Int) = 0 := by omega
        obtain ⟨_, bb2, bb3⟩ := b_bad (s := s) (a := bAt s A 0 32) (x := 14) 32768 (by decide)
        clear hR HK2 h1 hAb ho hT h2 hsz hs32 hOe hOn
        go_wp2_with fail
        refine yb.mono ?_
        rintro e w2 ⟨rfl, hc2, k2⟩
        have K2 := hK.trans k2
        have hcS := hc2.setErr 14
        have KS := K2.set1 2 (.int .i64 14)
        have yv := rblob_any 32768 (by decide) hcS
        rw [bb2, bb3] at yv
        obtain ⟨q0, q1, q2, q3, q4⟩ := hc2.cells
        generalize bTxt s (bAt s A 0 32) 14 32768 = VT at *
        generalize bAt s A 0 32 = BA at *
        generalize bTxt s A 0 32 = BT at *
        clear q0 q1 q3 yb k2 hK bb2 bb3
        go_wp2_with fail
        refine yv.mono ?_
        rintro e w3 ⟨rfl, hc3, k3⟩
        have K3 := KS.trans k3
        obtain ⟨q0, q1, q2, q3, q4⟩ := hc3.cells
        clear q0 q1 q3 q4 yv k3
        go_wp2
        go_ret
        exact HM.out _ _ _ _ _ HF.out rfl hc3 (prs_nil _ _) (fun _ _ _ e => by cases e) ⟨Nat.le_refl _, Nat.zero_le _⟩ K3
      have j1 : (((bTxt s A 0 32).size : Int) == 0) = false := beq_eq_false_iff_ne.2 (by omega)
      have j2 : ¬ ((bTxt s A 0 32).size : Int) = 0 := by omega
      by_cases hk0 : k = 0
      · subst hk0
        have hT : aTest (prq O 0) (bTxt s A 0 32) = 0 := by unfold aTest; rw [if_neg h2, prq_zero, falls_none]; rfl
        clear hOe hOn
        by_cases h3 : bErr s (bAt s A 0 32) 0 32768 = 0
        case neg =>
          have hR := prs_bad (n := N - 0 - 1) O (show (rPair (prq O 0) s A).2.2 ≠ 0 by rw [pr_c h1 hT h3]; exact h3)
          rw [pr_c h1 hT h3] at hR
          have HF : Hid (R = ([], bAt s (bAt s A 0 32) 0 32768, bErr s (bAt s A 0 32) 0 32768)) := by rw [← hR]; exact HK2.out
          have e3 : (bErr s (bAt s A 0 32) 0 32768 != 0) = true := by simpa using h3
          go_wp2_with fail
          refine yb.mono ?_
          rintro e w2 ⟨rfl, hc2, k2⟩
          have K2 := hK.trans k2
          have ho2 := rowE_keep ho k2 (fun k hk e => by omega)
          obtain ⟨z0, z1, z2, z3, z4⟩ := hc2.cells
          clear z0 z1 z3 z4 yb k2 hK ho
          go_wp2_with fail
          refine (rblob_any 32768 (by decide) hc2).mono ?_
          rintro e w3 ⟨rfl, hc3, k3⟩
          have K3 := K2.trans k3
          have ho3 := rowE_keep ho2 k3 (fun k hk e => by omega)
          clear k3 hc2 K2 ho2
          obtain ⟨q0, q1, q2, q3, q4⟩ := hc3.cells
          generalize bErr s (bAt s A 0 32) 0 32768 = TE at *
          generalize bAt s (bAt s A 0 32) 0 32768 = TA at *
          clear q0 q1 q3 q4
          go_wp2
          go_ret
          exact HM.out _ _ _ _ _ HF.out rfl hc3 (prs_nil _ _) (fun _ _ _ e => by cases e) ⟨Nat.le_refl _, Nat.zero_le _⟩ K3
        case pos =>
          have hR := prs_more (n := N - 0 - 1) O (show (rPair (prq O 0) s A).2.2 = 0 by rw [pr_d h1 hT h3])
          rw [pr_d h1 hT h3] at hR
          have HN : Hid (R = liftP (O ++ [⟨bTxt s A 0 32, bTxt s (bAt s A 0 32) 0 32768⟩]) (rPairs (N - (0 + 1)) (prq (O ++ [⟨bTxt s A 0 32, bTxt s (bAt s A 0 32) 0 32768⟩]) (0 + 1)) s (bAt s (bAt s A 0 32) 0 32768))) := by
            show R = _
            rw [prq_app HOl.out, HK2.out, hR]
            rfl
          have HS2 : Hid (∀ x ∈ O ++ [(⟨bTxt s A 0 32, bTxt s (bAt s A 0 32) 0 32768⟩ : Pr)], x.n.size ≤ maxLen) := by
            intro x hx
            rcases List.mem_append.1 hx with hx | hx
            · exact HSZ.out x hx
            · rw [List.mem_singleton.1 hx]; exact hsz
          go_wp2_with fail
          refine yb.mono ?_
          rintro e w2 ⟨rfl, hc2, k2⟩
          have K2 := hK.trans k2
          have ho2 := rowE_keep ho k2 (fun k hk e => by omega)
          obtain ⟨z0, z1, z2, z3, z4⟩ := hc2.cells
          clear z0 z1 z3 z4 yb k2 hK ho
          go_wp2_with fail
          refine (rblob_any 32768 (by decide) hc2).mono ?_
          rintro e w3 ⟨rfl, hc3, k3⟩
          have K3 := K2.trans k3
          have ho3 := rowE_keep ho2 k3 (fun k hk e => by omega)
          clear k3 hc2 K2 ho2
          rw [h3] at hc3
          obtain ⟨q0, q1, q2, q3, q4⟩ := hc3.cells
          generalize bAt s (bAt s A 0 32) 0 32768 = TA at *
          generalize bTxt s (bAt s A 0 32) 0 32768 = M at *
          generalize bTxt s A 0 32 = T at *
          have kW : Keep0 w3 (w3.alloc (.cells #[.string T, .string M] 135)) := (Keep.refl _ w3).alloc _
          have oW := rowE_keep ho3 kW (fun _ _ f => f)
          have xW := pr_new w3 135 ⟨T, M⟩
          have cW := hc3.keep0 kW
          have KW := K3.step0 kW
          have zW := KW.size
          have z3 := K3.size
          clear q0 q1 q3 q4 h3 hR h1 hT hc3 kW K3 ho3 hsz hs32
          go_wp2_with (at_builtin; refine wpList_append_prs rfl _ _ rfl rfl rfl oW xW ?c1 ?c2 ?_)
          case c1 => first | exact zW | omega
          case c2 => (have := HOl.out); first | omega | (show O.length + 1 ≤ 1000000; omega)
          intro v4 w4 hx4 hg
          have ho4 : w4.ownsRow B 135 2 v4 (O ++ [(⟨T, M⟩ : Pr)]).length (prCells (O ++ [(⟨T, M⟩ : Pr)])) := by simpa using hx4
          have cG := cW.keep (Keep.pGrown (B := B) hg (fun k hk => (oW.lt k hk).1)) (by omega)
          have KG : Keep1 b w w4 := KW.step (Keep.pGrown (B := B) hg (fun k hk => (oW.lt k hk).1)) (fun i hi hh => by have hh : B ≤ i := hh; omega)
          clear hx4 oW xW cW KW zW z3 hg
          obtain ⟨vo', vn', vc', rfl⟩ := sliceE_of_own ho4
          go_wp2
          go_roundw
          case rel => exact ⟨1, O ++ [⟨T, M⟩], TA, by go_num, by omega, (by show (O ++ [(⟨T, M⟩ : Pr)]).length = _; rw [List.length_append, HOl.out]; rfl), HS2, HN, cG, ho4, KG⟩
          case measure => simp [intOf]; omega
      · obtain ⟨j, hj⟩ : ∃ j, j + 1 = k := ⟨k - 1, by omega⟩
        have hjO : j < O.length := by rw [HOl.out]; omega
        obtain ⟨b', off', rfl, p0, _⟩ := hOe j hjO
        have hb' := hOn _ _ _ rfl
        have hmj := HSZ.out O[j] (List.getElem_mem hjO)
        have yq := fun W => rbelow_any W O[j].n (bTxt s A 0 32) hmj hsz
        have hpv : prq O k = some O[j].n := by rw [← hj]; exact prq_succ hjO
        have hBL : lBelow O[j].n.data.toList (bTxt s A 0 32).data.toList = bl O[j].n (bTxt s A 0 32) := rfl
        rw [hBL] at yq
        have i6 : (k : Int) - 1 = (j : Int) := by omega
        have i7 : IntKind.i64.wrap (j : Int) = (j : Int) := by rw [IntKind.wrap_i64]; omega
        have i8 : decide (0 < k) = true := decide_eq_true (by omega)
        have i8' : 0 < k := by omega
        have i9 : (j : Int) < (O.length : Int) := by omega
        have i10 : (O.length : Int) ≤ 9223372036854775807 := by have := HOl.out; omega
        clear hOn hOe hmj hBL
        cases hb : bl O[j].n (bTxt s A 0 32) with
        | false =>
          have hT : aTest (prq O k) (bTxt s A 0 32) = 6 := by unfold aTest; rw [if_neg h2, hpv, falls_some, hb]; rfl
          have hR := prs_bad (n := N - k - 1) O (show (rPair (prq O k) s A).2.2 ≠ 0 by rw [pr_b h1 (by rw [hT]; decide), hT]; show (6 : Int) ≠ 0; decide)
          rw [pr_b h1 (by rw [hT]; decide), hT] at hR
          have HF : Hid (R = ([], bAt s A 0 32, 6)) := by rw [← hR]; exact HK2.out
          obtain ⟨_, bb2, bb3⟩ := b_bad (s := s) (a := bAt s A 0 32) (x := 6) 32768 (by decide)
          rw [hb] at yq
          clear hR HK2 h1 hAb ho hT h2 hsz hpv hb hj hk0 hs32
          go_wp2_with fail
          refine yb.mono ?_
          rintro e w2 ⟨rfl, hc2, k2⟩
          have K2 := hK.trans k2
          have y0 := k2.cell p0 (by show b' ≠ b; omega)
          obtain ⟨q0, q1, q2, q3, q4⟩ := hc2.cells
          have yv := fun W (h : Cur W b s (bAt s A 0 32) 6) => rblob_any 32768 (by decide) h
          rw [bb2, bb3] at yv
          generalize bTxt s (bAt s A 0 32) 6 32768 = VT at *
          generalize bAt s A 0 32 = BA at *
          generalize bTxt s A 0 32 = BT at *
          generalize O[j].n = OA at *
          clear q0 q1 q3 q4 yb k2 hK p0 bb2 bb3
          go_wp2_with fail
          refine (yq _).mono ?_
          rintro e w2' ⟨rfl, hw2⟩
          have kq := keepN hw2
          have hc2 := hc2.keep0 kq
          have hcS := hc2.setErr 6
          have KS := (K2.step0 kq).set1 2 (.int .i64 6)
          have yv := yv _ hcS
          obtain ⟨q0, q1, q2, q3, q4⟩ := hc2.cells
          clear hw2 kq yq y0 q0 q1 q3
          go_wp2_with fail
          refine yv.mono ?_
          rintro e w3 ⟨rfl, hc3, k3⟩
          have K3 := KS.trans k3
          obtain ⟨q0, q1, q2, q3, q4⟩ := hc3.cells
          clear q0 q1 q3 q4 yv k3
          go_wp2
          go_ret
          exact HM.out _ _ _ _ _ HF.out rfl hc3 (prs_nil _ _) (fun _ _ _ e => by cases e) ⟨Nat.le_refl _, Nat.zero_le _⟩ K3
        | true =>
          have hT : aTest (prq O k) (bTxt s A 0 32) = 0 := by unfold aTest; rw [if_neg h2, hpv, falls_some, hb]; rfl
          rw [hb] at yq
          clear hpv hb
          by_cases h3 : bErr s (bAt s A 0 32) 0 32768 = 0
          case neg =>
            have hR := prs_bad (n := N - k - 1) O (show (rPair (prq O k) s A).2.2 ≠ 0 by rw [pr_c h1 hT h3]; exact h3)
            rw [pr_c h1 hT h3] at hR
            have HF : Hid (R = ([], bAt s (bAt s A 0 32) 0 32768, bErr s (bAt s A 0 32) 0 32768)) := by rw [← hR]; exact HK2.out
            have e3 : (bErr s (bAt s A 0 32) 0 32768 != 0) = true := by simpa using h3
            go_wp2_with fail
            refine yb.mono ?_
            rintro e w2 ⟨rfl, hc2, k2⟩
            have K2 := hK.trans k2
            have ho2 := rowE_keep ho k2 (fun k hk e => by omega)
            have y0 := k2.cell p0 (by show b' ≠ b; omega)
            obtain ⟨z0, z1, z2, z3, z4⟩ := hc2.cells
            clear z0 z1 z3 z4 yb k2 hK ho p0
            generalize O[j].n = OA at *
            go_wp2_with fail
            refine (yq _).mono ?_
            rintro e w2' ⟨rfl, hw2⟩
            have kq := keepN hw2
            have hc2 := hc2.keep0 kq
            have K2 := K2.step0 kq
            have ho2 := rowE_keep ho2 kq (fun _ _ f => f)
            clear hw2 kq yq z2 y0
            go_wp2_with fail
            refine (rblob_any 32768 (by decide) hc2).mono ?_
            rintro e w3 ⟨rfl, hc3, k3⟩
            have K3 := K2.trans k3
            have ho3 := rowE_keep ho2 k3 (fun k hk e => by omega)
            clear k3 hc2 K2 ho2
            obtain ⟨q0, q1, q2, q3, q4⟩ := hc3.cells
            generalize bErr s (bAt s A 0 32) 0 32768 = TE at *
            generalize bAt s (bAt s A 0 32) 0 32768 = TA at *
            clear q0 q1 q3 q4
            go_wp2
            go_ret
            exact HM.out _ _ _ _ _ HF.out rfl hc3 (prs_nil _ _) (fun _ _ _ e => by cases e) ⟨Nat.le_refl _, Nat.zero_le _⟩ K3
          case pos =>
            have hR := prs_more (n := N - k - 1) O (show (rPair (prq O k) s A).2.2 = 0 by rw [pr_d h1 hT h3])
            rw [pr_d h1 hT h3] at hR
            have HN : Hid (R = liftP (O ++ [⟨bTxt s A 0 32, bTxt s (bAt s A 0 32) 0 32768⟩]) (rPairs (N - (k + 1)) (prq (O ++ [⟨bTxt s A 0 32, bTxt s (bAt s A 0 32) 0 32768⟩]) (k + 1)) s (bAt s (bAt s A 0 32) 0 32768))) := by
              show R = _
              rw [prq_app HOl.out, HK2.out, hR]
              rfl
            have HS2 : Hid (∀ x ∈ O ++ [(⟨bTxt s A 0 32, bTxt s (bAt s A 0 32) 0 32768⟩ : Pr)], x.n.size ≤ maxLen) := by
              intro x hx
              rcases List.mem_append.1 hx with hx | hx
              · exact HSZ.out x hx
              · rw [List.mem_singleton.1 hx]; exact hsz
            go_wp2_with fail
            refine yb.mono ?_
            rintro e w2 ⟨rfl, hc2, k2⟩
            have K2 := hK.trans k2
            have ho2 := rowE_keep ho k2 (fun k hk e => by omega)
            have y0 := k2.cell p0 (by show b' ≠ b; omega)
            obtain ⟨z0, z1, z2, z3, z4⟩ := hc2.cells
            clear z0 z1 z3 z4 yb k2 hK ho p0
            generalize O[j].n = OA at *
            go_wp2_with fail
            refine (yq _).mono ?_
            rintro e w2' ⟨rfl, hw2⟩
            have kq := keepN hw2
            have hc2 := hc2.keep0 kq
            have K2 := K2.step0 kq
            have ho2 := rowE_keep ho2 kq (fun _ _ f => f)
            clear hw2 kq yq z2 y0
            go_wp2_with fail
            refine (rblob_any 32768 (by decide) hc2).mono ?_
            rintro e w3 ⟨rfl, hc3, k3⟩
            have K3 := K2.trans k3
            have ho3 := rowE_keep ho2 k3 (fun k hk e => by omega)
            clear k3 hc2 K2 ho2
            rw [h3] at hc3
            obtain ⟨q0, q1, q2, q3, q4⟩ := hc3.cells
            generalize bAt s (bAt s A 0 32) 0 32768 = TA at *
            generalize bTxt s (bAt s A 0 32) 0 32768 = M at *
            generalize bTxt s A 0 32 = T at *
            have kW : Keep0 w3 (w3.alloc (.cells #[.string T, .string M] 135)) := (Keep.refl _ w3).alloc _
            have oW := rowE_keep ho3 kW (fun _ _ f => f)
            have xW := pr_new w3 135 ⟨T, M⟩
            have cW := hc3.keep0 kW
            have KW := K3.step0 kW
            have zW := KW.size
            have z3 := K3.size
            clear q0 q1 q3 q4 h3 hR h1 hT hc3 kW K3 ho3 hsz hs32
            go_wp2_with (at_builtin; refine wpList_append_prs rfl _ _ rfl rfl rfl oW xW ?c1 ?c2 ?_)
            case c1 => first | exact zW | omega
            case c2 => (have := HOl.out); first | omega | (show O.length + 1 ≤ 1000000; omega)
            intro v4 w4 hx4 hg
            have ho4 : w4.ownsRow B 135 2 v4 (O ++ [(⟨T, M⟩ : Pr)]).length (prCells (O ++ [(⟨T, M⟩ : Pr)])) := by simpa using hx4
            have cG := cW.keep (Keep.pGrown (B := B) hg (fun k hk => (oW.lt k hk).1)) (by omega)
            have KG : Keep1 b w w4 := KW.step (Keep.pGrown (B := B) hg (fun k hk => (oW.lt k hk).1)) (fun i hi hh => by have hh : B ≤ i := hh; omega)
            clear hx4 oW xW cW KW zW z3 hg
            obtain ⟨vo', vn', vc', rfl⟩ := sliceE_of_own ho4
            go_wp2
            go_roundw
            case rel => exact ⟨k + 1, O ++ [⟨T, M⟩], TA, by go_num, by omega, (by show (O ++ [(⟨T, M⟩ : Pr)]).length = _; rw [List.length_append, HOl.out]; rfl), HS2, HN, cG, ho4, KG⟩
            case measure => simp [intOf]; omega
    · have i1 : ¬ (k : Int) < N := by omega
      obtain ⟨po, pc, rfl, hOe, hOn, hOc⟩ := prs_of_row ho
      have e0 : N - k = 0 := by omega
      have hR := HK.out
      rw [e0, prs_zero] at hR
      have HF : Hid (R = (O, A, 0)) := hR
      clear hR HK e0
      go_wp2
      go_ret
      exact HM.out _ _ _ _ _ HF.out rfl hc hOe (fun g off m e => hOn g off m e) (rowP_cap ho) hK
end Go.Proofs.YtoefibkhlhmlfaaGreat
namespace Go.Proofs.YtoefibkhlhmlfaaGreat
open Go.RowKit
def RPrsE (r : List Pr × Int) (w : World) (e : Ending) (w' : World) : Prop := ∃ bo c, e = .returned (.tuple #[.slice bo r.1.length c, .int .i64 r.2]) ∧ PrsAt w' bo r.1 ∧ (∀ g off m, bo = some ⟨g, off, m⟩ → w.heap.size ≤ g) ∧ CapP r.1 c ∧ Keep0 w w'
theorem RPrsE.mk {r : List Pr} {x : Int} {w w' : World} {e : Ending} {bo : Option Addr} {c : Nat} (h : e = .returned (.tuple #[.slice bo r.length c, .int .i64 x])) (h1 : PrsAt w' bo r) (h2 : ∀ g off m, bo = some ⟨g, off, m⟩ → w.heap.size ≤ g) (h3 : CapP r c) (h4 : Keep0 w w') : RPrsE (r, x) w e w' := ⟨bo, c, h, h1, h2, h3, h4⟩
theorem RPrsE.bare {r : List Pr × Int} {x : Int} {w w' : World} {e : Ending} (h0 : r = ([], x)) (h : e = .returned (.tuple #[.slice none 0 0, .int .i64 x])) (h4 : Keep0 w w') : RPrsE r w e w' := by
  subst h0
  exact ⟨none, 0, h, prs_nil _ _, (fun _ _ _ e => by cases e), ⟨Nat.le_refl _, Nat.zero_le _⟩, h4⟩
end Go.Proofs.YtoefibkhlhmlfaaGreat
