/-
  What this seat's claims lean on of the texts RefVcode, Open12, Law10, Law14.
  Conditions: as each theorem states.
-/
import Derived.WalkKit
import Derived.ProofKit
import Derived.Below
import Derived.Deep.Draws
import Derived.Deep.RegionHeld
import Derived.Test.YtoefibkhlhmlfaaGreatChecked
import Derived.OpenShut
import Derived.ShutString
import Derived.WalkSpells
import Derived.WalkLawsBesides
import Derived.Deep.QuietTactic
import Derived.BigQuiet
import Derived.Laws.Bits64b
import Derived.PlainAid
import Derived.Lib.AppendStr
import Derived.Deep.AppendLies
import Derived.Laws.IdiomStrings
import Derived.Laws.BytesArg
import Derived.Deep.RegionWith
import Derived.Laws.AppendOwn
import Derived.Deep.DeepAppendWide
import Derived.Deep.Upon
import Derived.Test.YtoefibkhlhmlfaaGreatY8
import Derived.Test.YtoefibkhlhmlfaaGreatY11
import Derived.Test.YtoefibkhlhmlfaaGreatY15
import Derived.Test.YtoefibkhlhmlfaaGreatY6
import Derived.Test.YtoefibkhlhmlfaaGreatY5
import Derived.Deep.Slices
import Derived.Test.YtoefibkhlhmlfaaGreatY1
import Derived.Test.YtoefibkhlhmlfaaGreatY12
import Derived.Test.YtoefibkhlhmlfaaGreatY13
import Derived.Test.YtoefibkhlhmlfaaGreatY16
import Derived.Test.YtoefibkhlhmlfaaGreatY3
namespace Go.Proofs.YtoefibkhlhmlfaaGreat
open Go.RowKit
theorem Keep.eGrown {w w' : World} {B : Nat} {row : Option Nat} (g : w.grownBy w' row) (h : ∀ k, row = some k → B ≤ k) : KeepFrom B w w' :=
  ⟨g.os, g.tape, g.output, g.size, fun k hk hn => g.block k hk (fun e => hn (h k e.symm))⟩
def RTake (r : List En × Int × Int) (s : ByteArray) (b : Nat) (w : World) (e : Ending) (w' : World) : Prop := ∃ ao cap, e = .returned (.slice ao r.1.length cap) ∧ Cur w' b s r.2.1 r.2.2 ∧ EnsAt w' ao r.1 ∧ (∀ g off m, ao = some ⟨g, off, m⟩ → w.heap.size ≤ g) ∧ Keep1 b w w'
theorem RTake.mk {r : List En × Int × Int} {s : ByteArray} {b : Nat} {w w' : World} {e : Ending} {ao : Option Addr} {cap : Nat} (h : e = .returned (.slice ao r.1.length cap)) (h1 : Cur w' b s r.2.1 r.2.2) (h2 : EnsAt w' ao r.1) (h3 : ∀ g off m, ao = some ⟨g, off, m⟩ → w.heap.size ≤ g) (h4 : Keep1 b w w') : RTake r s b w e w' := ⟨ao, cap, h, h1, h2, h3, h4⟩
theorem take_bad {s : ByteArray} {a x : Int} (h : kErr s a x 64 ≠ 0) : kNum s a x 64 = 0 ∧ rX [] rVec s a x = ([], tAt s a x, kErr s a x 64) := by
  by_cases hx : x = 0
  · subst hx
    refine ⟨?_, by rw [rX_yes, vec_a h]⟩
    by_cases ht : tErr s a 0 = 0
    · by_cases ho : pMax 64 < tNum s a 0
      · exact (k_over ht ho).1
      · exact absurd (k_ok ht ho).2 h
    · exact (k_err ht).1
  · have ht := tErr_err (s := s) (a := a) hx
    obtain ⟨h1, h2⟩ := k_err (s := s) (a := a) (x := x) (m := 64) (by rw [ht]; exact hx)
    exact ⟨h1, by rw [rX_no hx, h2, ht, tAt_err hx]⟩
theorem take_good {s : ByteArray} {a x : Int} (h : kErr s a x 64 = 0) : x = 0 := by
  refine Decidable.byContradiction fun hx => ?_
  have ht := tErr_err (s := s) (a := a) hx
  obtain ⟨_, h2⟩ := k_err (s := s) (a := a) (x := x) (m := 64) (by rw [ht]; exact hx)
  rw [h2, ht] at h
  exact hx h
theorem count_le {s : ByteArray} {a x : Int} : kNum s a x 64 ≤ 64 := by
  unfold kNum
  split
  · rename_i h; exact h.2
  · decide
set_option maxRecDepth 100000 in
set_option maxHeartbeats 8000000 in
theorem rtake11 {w : World} {b : Nat} {s : ByteArray} {a x : Int} (h : Cur w b s a x) :
    Calls Tryz.prog 93 #[ptr b] w (RTake (rX [] rVec s a x) s b w) := by
  have hbl : b < w.heap.size := h.lt
  have yk := rcount_any 64 (by decide) h
  have hkb := kNum_bd s a x 64
  have hkl := count_le (s := s) (a := a) (x := x)
  have HM : Hid (∀ (W : World) (e : Ending) (bo : Option Addr) (c : Nat) (R : List En × Int × Int), rX [] rVec s a x = R → e = .returned (.slice bo R.1.length c) → Cur W b s R.2.1 R.2.2 → EnsAt W bo R.1 → (∀ g off m, bo = some ⟨g, off, m⟩ → w.heap.size ≤ g) → Keep1 b w W → RTake (rX [] rVec s a x) s b w e W) := by
    intro W e bo c R h1 h2 h3 h4 h5 h6
    rw [h1]
    exact RTake.mk h2 h3 h4 h5 h6
  by_cases h0 : kErr s a x 64 = 0
  case neg =>
    obtain ⟨hk, hr⟩ := take_bad h0
    rw [hk] at yk
    have HR : Hid (rX [] rVec s a x = ([], tAt s a x, kErr s a x 64)) := hr
    clear hr hk hkb hkl h0
    go_enter Tryz.func93, Tryz.ntmps93
    go_wp2_with fail
    refine yk.mono ?_
    rintro e w1 ⟨rfl, hc1, k1⟩
    go_wp2_with fail
    refine wp_loop_rounds 1 ?_
    rw [rounds_succ]
    go_wp2
    go_ret
    exact HM.out _ _ _ _ _ HR.out rfl hc1 (ens_nil _ _) (fun _ _ _ e => by cases e) k1
  have hx := take_good h0
  subst hx
  obtain ⟨N, hN⟩ : ∃ N : Nat, kNum s a 0 64 = (N : Int) := ⟨(kNum s a 0 64).toNat, by omega⟩
  have hN' : (kNum s a 0 64).toNat = N := by omega
  have hr : rX [] rVec s a 0 = lift [] (rEnts N none s (tAt s a 0)) := by rw [rX_yes, vec_b h0, hN']
  rw [h0, hN] at yk
  obtain ⟨R, hR⟩ : ∃ R, rX [] rVec s a 0 = R := ⟨_, rfl⟩
  rw [hR] at HM ⊢
  have HM : Hid (∀ (W : World) (e : Ending) (bo : Option Addr) (c : Nat) (R' : List En × Int × Int), R = R' → e = .returned (.slice bo R'.1.length c) → Cur W b s R'.2.1 R'.2.2 → EnsAt W bo R'.1 → (∀ g off m, bo = some ⟨g, off, m⟩ → w.heap.size ≤ g) → Keep1 b w W → RTake R s b w e W) := HM
  have HR : Hid (R = lift [] (rEnts (N - 0) (prv [] 0) s (tAt s a 0))) := by rw [← hR]; exact hr
  have hN6 : N ≤ 64 := by omega
  clear hR hr hkb hkl h0 hN hN' h
  go_enter Tryz.func93, Tryz.ntmps93
  go_wp2_with fail
  refine yk.mono ?_
  rintro e w1 ⟨rfl, hc1, k1⟩
  clear yk
  generalize hB : w.heap.size = B at *
  go_wp2_with fail
  go_loopw [4, 5] (fun o i wr => ∃ (k : Nat) (O : List En) (A : Int), i = .int .i64 (k : Int) ∧ k ≤ N ∧ Hid (O.length = k) ∧ Hid (∀ x ∈ O, x.a.size ≤ maxLen) ∧ Hid (R = lift O (rEnts (N - k) (prv O k) s A)) ∧ Cur wr b s A 0 ∧ wr.ownsRow B 53 2 o O.length (enCells O) ∧ Keep1 b w wr) (fun _ i _ => N - (intOf i).toNat)
  case atStart => exact ⟨0, [], tAt s a 0, rfl, by omega, rfl, (fun x hx => by cases hx), HR, hc1, World.ownsRow_nil _ _ _ _, k1⟩
  case round =>
    obtain ⟨k, O, A, rfl, hk, HOl, HSZ, HK, hc, ho, hK⟩ := hrel
    clear HR hc1 k1
    by_cases hlt : k < N
    · have i1 : (k : Int) < N := by omega
      have HK2 : Hid (R = lift O (rEnts (N - k - 1 + 1) (prv O k) s A)) := by
        have := HK.out
        rwa [show N - k = N - k - 1 + 1 from by omega] at this
      obtain ⟨po, pc, rfl, hOe, hOn, hOc⟩ := ens_of_row ho
      clear hOc
      have yb := rblob_any 32 (by decide) hc
      have hAb := hc
      clear HK hc
      by_cases h1 : bErr s A 0 32 = 0
      case neg =>
        have hR := ents_bad (n := N - k - 1) O (show (rEnt (prv O k) s A).2.2 ≠ 0 by rw [ent_a h1]; exact h1)
        rw [ent_a h1] at hR
        have HF : Hid (R = ([], bAt s A 0 32, bErr s A 0 32)) := by rw [← hR]; exact HK2.out
        have e1 : (bErr s A 0 32 != 0) = true := by simpa using h1
        clear hR HK2 h1 hAb ho
        go_wp2_with fail
        refine yb.mono ?_
        rintro e w2 ⟨rfl, hc2, k2⟩
        have K2 := hK.trans k2
        obtain ⟨q0, q1, q2, q3, q4⟩ := hc2.cells
        generalize bErr s A 0 32 = BE at *
        generalize bAt s A 0 32 = BA at *
        generalize bTxt s A 0 32 = BT at *
        clear q0 q1 q3 q4 yb k2 hK
        go_wp2
        go_ret
        exact HM.out _ _ _ _ _ HF.out rfl hc2 (ens_nil _ _) (fun _ _ _ e => by cases e) K2
      rw [h1] at yb
      have hsz : (bTxt s A 0 32).size ≤ maxLen := by
        obtain ⟨_, _, h3, _, h5, _⟩ := blob_zero h1
        have hp : pMax 32 = 32 := rfl
        rw [hp] at h3
        have ht := tNum_lt s A 0
        have hal := tAt_le (s := s) (a := A) (x := 0) hAb.lo hAb.hi
        rw [h5]
        have : ((cut s (tAt s A 0) (tAt s A 0 + tNum s A 0)).size : Int) ≤ 32 := by
          unfold cut
          rw [ByteArray.size_extract]
          omega
        unfold maxLen
        omega
      have j0 : ((bTxt s A 0 32).size : Int) ≤ 9223372036854775807 := by unfold maxLen at hsz; omega
      by_cases h2 : (bTxt s A 0 32).size = 0
      · have hT : aTest (prv O k) (bTxt s A 0 32) = 14 := if_pos h2
        have hR := ents_bad (n := N - k - 1) O (show (rEnt (prv O k) s A).2.2 ≠ 0 by rw [ent_b h1 (by rw [hT]; decide), hT]; show (14 : Int) ≠ 0; decide)
        rw [ent_b h1 (by rw [hT]; decide), hT] at hR
        have HF : Hid (R = ([], bAt s A 0 32, 14)) := by rw [← hR]; exact HK2.out
        have j1 : ((bTxt s A 0 32).size : Int) = 0 := by omega
        clear hR HK2 h1 hAb ho hT h2 hsz
        go_wp2_with fail
        refine yb.mono ?_
        rintro e w2 ⟨rfl, hc2, k2⟩
        have K2 := hK.trans k2
        have hcS := hc2.setErr 14
        have KS := K2.set1 2 (.int .i64 14)
        obtain ⟨q0, q1, q2, q3, q4⟩ := hc2.cells
        generalize bAt s A 0 32 = BA at *
        generalize bTxt s A 0 32 = BT at *
        clear q0 q1 q3 yb k2 hK
        go_wp2
        go_ret
        exact HM.out _ _ _ _ _ HF.out rfl hcS (ens_nil _ _) (fun _ _ _ e => by cases e) KS
      have j1 : (((bTxt s A 0 32).size : Int) == 0) = false := beq_eq_false_iff_ne.2 (by omega)
      have j2 : ¬ ((bTxt s A 0 32).size : Int) = 0 := by omega
      have FIRST : ∀ W, Cur W b s (bAt s A 0 32) 0 → 0 ≤ bAt s A 0 32 := fun _ h => h.lo
      clear FIRST
      by_cases hk0 : k = 0
      · subst hk0
        have hT : aTest (prv O 0) (bTxt s A 0 32) = 0 := by unfold aTest; rw [if_neg h2, prv_zero, falls_none]; rfl
        clear hOe hOn
        have hce : Cur wr b s A 0 := hAb
        have ht := tNum_lt s (bAt s A 0 32) 0
        have hat := hce.hi
        have halo := hce.lo
        clear hce
        by_cases h3 : tErr s (bAt s A 0 32) 0 = 0
        case neg =>
          have hR := ents_bad (n := N - 0 - 1) O (show (rEnt (prv O 0) s A).2.2 ≠ 0 by rw [ent_c h1 hT h3]; exact h3)
          rw [ent_c h1 hT h3] at hR
          have HF : Hid (R = ([], tAt s (bAt s A 0 32) 0, tErr s (bAt s A 0 32) 0)) := by rw [← hR]; exact HK2.out
          have e3 : (tErr s (bAt s A 0 32) 0 != 0) = true := by simpa using h3
          go_wp2_with fail
          refine yb.mono ?_
          rintro e w2 ⟨rfl, hc2, k2⟩
          have K2 := hK.trans k2
          have ho2 := rowE_keep ho k2 (fun k hk e => by omega)
          obtain ⟨z0, z1, z2, z3, z4⟩ := hc2.cells
          clear z0 z1 z3 z4 yb k2 hK ho
          go_wp2_with fail
          refine (rtake_any hc2).mono ?_
          rintro e w3 ⟨rfl, hc3, k3⟩
          have K3 := K2.trans k3
          have ho3 := rowE_keep ho2 k3 (fun k hk e => by omega)
          clear k3 hc2 K2 ho2
          have q := hc3.cells
          obtain ⟨q0, q1, q2, q3, q4⟩ := q
          generalize tErr s (bAt s A 0 32) 0 = TE at *
          generalize tAt s (bAt s A 0 32) 0 = TA at *
          clear q0 q1 q3 q4
          go_wp2
          go_ret
          exact HM.out _ _ _ _ _ HF.out rfl hc3 (ens_nil _ _) (fun _ _ _ e => by cases e) K3
        by_cases h4 : tNum s (bAt s A 0 32) 0 = 0
        · have hR := ents_bad (n := N - 0 - 1) O (show (rEnt (prv O 0) s A).2.2 ≠ 0 by rw [ent_d h1 hT h3 h4]; show (7 : Int) ≠ 0; decide)
          rw [ent_d h1 hT h3 h4] at hR
          have HF : Hid (R = ([], tAt s (bAt s A 0 32) 0, 7)) := by rw [← hR]; exact HK2.out
          go_wp2_with fail
          refine yb.mono ?_
          rintro e w2 ⟨rfl, hc2, k2⟩
          have K2 := hK.trans k2
          have ho2 := rowE_keep ho k2 (fun k hk e => by omega)
          obtain ⟨z0, z1, z2, z3, z4⟩ := hc2.cells
          clear z0 z1 z3 z4 yb k2 hK ho
          go_wp2_with fail
          refine (rtake_any hc2).mono ?_
          rintro e w3 ⟨rfl, hc3, k3⟩
          have K3 := K2.trans k3
          have ho3 := rowE_keep ho2 k3 (fun k hk e => by omega)
          clear k3 hc2 K2 ho2
          rw [h3] at hc3
          rw [h4]
          have hcS := hc3.setErr 7
          have KS := K3.set1 2 (.int .i64 7)
          obtain ⟨q0, q1, q2, q3, q4⟩ := hc3.cells
          generalize tAt s (bAt s A 0 32) 0 = TA at *
          clear q0 q1 q3 h3 h4 ht
          go_wp2
          go_ret
          exact HM.out _ _ _ _ _ HF.out rfl hcS (ens_nil _ _) (fun _ _ _ e => by cases e) KS
        · have hR := ents_more (n := N - 0 - 1) O (show (rEnt (prv O 0) s A).2.2 = 0 by rw [ent_e h1 hT h3 h4])
          rw [ent_e h1 hT h3 h4] at hR
          obtain ⟨M, hM⟩ : ∃ M : Nat, tNum s (bAt s A 0 32) 0 = (M : Int) := ⟨(tNum s (bAt s A 0 32) 0).toNat, by omega⟩
          have hM' : (tNum s (bAt s A 0 32) 0).toNat = M := by omega
          have HN : Hid (R = lift (O ++ [⟨bTxt s A 0 32, M⟩]) (rEnts (N - (0 + 1)) (prv (O ++ [⟨bTxt s A 0 32, M⟩]) (0 + 1)) s (tAt s (bAt s A 0 32) 0))) := by
            have e1 : prv (O ++ [(⟨bTxt s A 0 32, M⟩ : En)]) (0 + 1) = some (bTxt s A 0 32) := by
              have := prv_succ (l := O ++ [(⟨bTxt s A 0 32, M⟩ : En)]) (k := 0) (by rw [List.length_append, HOl.out]; show 0 < 0 + 1; omega)
              rw [this]
              congr 1
              rw [List.getElem_append_right (by rw [HOl.out]; exact Nat.le_refl _)]
              simp [HOl.out]
            show R = _
            rw [e1, HK2.out, hR, hM']
            rfl
          have HS2 : Hid (∀ x ∈ O ++ [(⟨bTxt s A 0 32, M⟩ : En)], x.a.size ≤ maxLen) := by
            intro x hx
            rcases List.mem_append.1 hx with hx | hx
            · exact HSZ.out x hx
            · rw [List.mem_singleton.1 hx]; exact hsz
          have e4 : ((M : Int) == 0) = false := beq_eq_false_iff_ne.2 (by omega)
          have e5 : ¬ (M : Int) = 0 := by omega
          go_wp2_with fail
          refine yb.mono ?_
          rintro e w2 ⟨rfl, hc2, k2⟩
          have K2 := hK.trans k2
          have ho2 := rowE_keep ho k2 (fun k hk e => by omega)
          obtain ⟨z0, z1, z2, z3, z4⟩ := hc2.cells
          clear z0 z1 z3 z4 yb k2 hK ho
          go_wp2_with fail
          refine (rtake_any hc2).mono ?_
          rintro e w3 ⟨rfl, hc3, k3⟩
          have K3 := K2.trans k3
          have ho3 := rowE_keep ho2 k3 (fun k hk e => by omega)
          clear k3 hc2 K2 ho2
          rw [h3] at hc3
          rw [hM]
          obtain ⟨q0, q1, q2, q3, q4⟩ := hc3.cells
          have kW : Keep0 w3 (w3.alloc (.cells #[.string (bTxt s A 0 32), .int .u64 (M : Int)] 53)) := (Keep.refl _ w3).alloc _
          have oW := rowE_keep ho3 kW (fun _ _ f => f)
          have xW := en_new w3 53 ⟨bTxt s A 0 32, M⟩
          have cW := hc3.keep0 kW
          have KW := K3.step0 kW
          have zW := KW.size
          have z3 := K3.size
          generalize tAt s (bAt s A 0 32) 0 = TA at *
          generalize bTxt s A 0 32 = T at *
          clear q0 q1 q3 q4 h3 h4 ht hM hM' hR h1 hT hc3 kW K3 ho3 hsz
          go_wp2_with (at_builtin; refine wpList_append_ens rfl _ _ rfl rfl rfl oW xW ?c1 ?c2 ?_)
          case c1 => first | exact zW | omega
          case c2 => (have := HOl.out); first | omega | (show O.length + 1 ≤ 1000000; omega)
          intro v4 w4 hx4 hg
          have ho4 : w4.ownsRow B 53 2 v4 (O ++ [(⟨T, M⟩ : En)]).length (enCells (O ++ [(⟨T, M⟩ : En)])) := by simpa using hx4
          have cG := cW.keep (Keep.eGrown (B := B) hg (fun k hk => (oW.lt k hk).1)) (by omega)
          have KG : Keep1 b w w4 := KW.step (Keep.eGrown (B := B) hg (fun k hk => (oW.lt k hk).1)) (fun i hi hh => by have hh : B ≤ i := hh; omega)
          clear hx4 oW xW cW KW zW z3 hg
          obtain ⟨vo', vn', vc', rfl⟩ := sliceE_of_own ho4
          go_wp2
          go_roundw
          case rel => exact ⟨1, O ++ [⟨T, M⟩], TA, by go_num, by omega, (by show (O ++ [(⟨T, M⟩ : En)]).length = _; rw [List.length_append, HOl.out]; rfl), HS2, HN, cG, ho4, KG⟩
          case measure => simp [intOf]; omega
      · obtain ⟨j, hj⟩ : ∃ j, j + 1 = k := ⟨k - 1, by omega⟩
        have hjO : j < O.length := by rw [HOl.out]; omega
        obtain ⟨b', off', rfl, p0, _⟩ := hOe j hjO
        have hb' := hOn _ _ _ rfl
        have hmj := HSZ.out O[j] (List.getElem_mem hjO)
        have yq := fun W => rbelow_any W O[j].a (bTxt s A 0 32) hmj hsz
        have hpv : prv O k = some O[j].a := by rw [← hj]; exact prv_succ hjO
        have hBL : lBelow O[j].a.data.toList (bTxt s A 0 32).data.toList = bl O[j].a (bTxt s A 0 32) := rfl
        rw [hBL] at yq
        have i6 : (k : Int) - 1 = (j : Int) := by omega
        have i7 : IntKind.i64.wrap (j : Int) = (j : Int) := by rw [IntKind.wrap_i64]; omega
        have i8 : decide (0 < k) = true := decide_eq_true (by omega)
        have i8' : 0 < k := by omega
        have i9 : (j : Int) < (O.length : Int) := by omega
        have i10 : (O.length : Int) ≤ 9223372036854775807 := by have := HOl.out; omega
        clear hOn hOe hmj hBL
        cases hb : bl O[j].a (bTxt s A 0 32) with
        | false =>
          have hT : aTest (prv O k) (bTxt s A 0 32) = 6 := by unfold aTest; rw [if_neg h2, hpv, falls_some, hb]; rfl
          have hR := ents_bad (n := N - k - 1) O (show (rEnt (prv O k) s A).2.2 ≠ 0 by rw [ent_b h1 (by rw [hT]; decide), hT]; show (6 : Int) ≠ 0; decide)
          rw [ent_b h1 (by rw [hT]; decide), hT] at hR
          have HF : Hid (R = ([], bAt s A 0 32, 6)) := by rw [← hR]; exact HK2.out
          rw [hb] at yq
          clear hR HK2 h1 hAb ho hT h2 hsz hpv hb hj hk0
          go_wp2_with fail
          refine yb.mono ?_
          rintro e w2 ⟨rfl, hc2, k2⟩
          have K2 := hK.trans k2
          have y0 := k2.cell p0 (by show b' ≠ b; omega)
          have hcS := fun n => (hc2.keep0 ((Keep.refl _ w2).drewN n)).setErr 6
          have KS := fun n => (K2.drewN n).set1 2 (.int .i64 6)
          have cD := fun n => (hc2.keep0 ((Keep.refl _ w2).drewN n))
          obtain ⟨q0, q1, q2, q3, q4⟩ := hc2.cells
          generalize bAt s A 0 32 = BA at *
          generalize bTxt s A 0 32 = BT at *
          generalize O[j].a = OA at *
          clear q0 q1 q3 q4 yb k2 hK p0
          go_wp2_with fail
          refine (yq _).mono ?_
          rintro e w3 ⟨rfl, n3, rfl⟩
          have hcS := hcS n3
          have KS := KS n3
          obtain ⟨q0, q1, q2, q3, q4⟩ := (cD n3).cells
          clear cD q0 q1 q3 yq
          generalize w2.drewN n3 = w3 at *
          go_wp2
          go_ret
          exact HM.out _ _ _ _ _ HF.out rfl hcS (ens_nil _ _) (fun _ _ _ e => by cases e) KS
        | true =>
          have hT : aTest (prv O k) (bTxt s A 0 32) = 0 := by unfold aTest; rw [if_neg h2, hpv, falls_some, hb]; rfl
          rw [hb] at yq
          clear hpv hb
          have hce : Cur wr b s A 0 := hAb
          have ht := tNum_lt s (bAt s A 0 32) 0
          have hat := hce.hi
          have halo := hce.lo
          clear hce
          by_cases h3 : tErr s (bAt s A 0 32) 0 = 0
          case neg =>
            have hR := ents_bad (n := N - k - 1) O (show (rEnt (prv O k) s A).2.2 ≠ 0 by rw [ent_c h1 hT h3]; exact h3)
            rw [ent_c h1 hT h3] at hR
            have HF : Hid (R = ([], tAt s (bAt s A 0 32) 0, tErr s (bAt s A 0 32) 0)) := by rw [← hR]; exact HK2.out
            have e3 : (tErr s (bAt s A 0 32) 0 != 0) = true := by simpa using h3
            go_wp2_with fail
            refine yb.mono ?_
            rintro e w2 ⟨rfl, hc2, k2⟩
            have K2 := hK.trans k2
            have ho2 := rowE_keep ho k2 (fun k hk e => by omega)
            have y0 := k2.cell p0 (by show b' ≠ b; omega)
            obtain ⟨z0, z1, z2, z3, z4⟩ := hc2.cells
            clear z0 z1 z3 z4 yb k2 hK ho p0
            generalize O[j].a = OA at *
            go_wp2_with fail
            refine (yq _).mono ?_
            rintro e w2' ⟨rfl, hw2⟩
            have kq := keepN hw2
            have hc2 := hc2.keep0 kq
            have K2 := K2.step0 kq
            have ho2 := rowE_keep ho2 kq (fun _ _ f => f)
            clear hw2 kq yq z2 y0
            go_wp2_with fail
            refine (rtake_any hc2).mono ?_
            rintro e w3 ⟨rfl, hc3, k3⟩
            have K3 := K2.trans k3
            have ho3 := rowE_keep ho2 k3 (fun k hk e => by omega)
            clear k3 hc2 K2 ho2
            have q := hc3.cells
            obtain ⟨q0, q1, q2, q3, q4⟩ := q
            generalize tErr s (bAt s A 0 32) 0 = TE at *
            generalize tAt s (bAt s A 0 32) 0 = TA at *
            clear q0 q1 q3 q4
            go_wp2
            go_ret
            exact HM.out _ _ _ _ _ HF.out rfl hc3 (ens_nil _ _) (fun _ _ _ e => by cases e) K3
          by_cases h4 : tNum s (bAt s A 0 32) 0 = 0
          · have hR := ents_bad (n := N - k - 1) O (show (rEnt (prv O k) s A).2.2 ≠ 0 by rw [ent_d h1 hT h3 h4]; show (7 : Int) ≠ 0; decide)
            rw [ent_d h1 hT h3 h4] at hR
            have HF : Hid (R = ([], tAt s (bAt s A 0 32) 0, 7)) := by rw [← hR]; exact HK2.out
            go_wp2_with fail
            refine yb.mono ?_
            rintro e w2 ⟨rfl, hc2, k2⟩
            have K2 := hK.trans k2
            have ho2 := rowE_keep ho k2 (fun k hk e => by omega)
            have y0 := k2.cell p0 (by show b' ≠ b; omega)
            obtain ⟨z0, z1, z2, z3, z4⟩ := hc2.cells
            clear z0 z1 z3 z4 yb k2 hK ho p0
            generalize O[j].a = OA at *
            go_wp2_with fail
            refine (yq _).mono ?_
            rintro e w2' ⟨rfl, hw2⟩
            have kq := keepN hw2
            have hc2 := hc2.keep0 kq
            have K2 := K2.step0 kq
            have ho2 := rowE_keep ho2 kq (fun _ _ f => f)
            clear hw2 kq yq z2 y0
            go_wp2_with fail
            refine (rtake_any hc2).mono ?_
            rintro e w3 ⟨rfl, hc3, k3⟩
            have K3 := K2.trans k3
            have ho3 := rowE_keep ho2 k3 (fun k hk e => by omega)
            clear k3 hc2 K2 ho2
            rw [h3] at hc3
            rw [h4]
            have hcS := hc3.setErr 7
            have KS := K3.set1 2 (.int .i64 7)
            obtain ⟨q0, q1, q2, q3, q4⟩ := hc3.cells
            generalize tAt s (bAt s A 0 32) 0 = TA at *
            clear q0 q1 q3 h3 h4 ht
            go_wp2
            go_ret
            exact HM.out _ _ _ _ _ HF.out rfl hcS (ens_nil _ _) (fun _ _ _ e => by cases e) KS
          · have hR := ents_more (n := N - k - 1) O (show (rEnt (prv O k) s A).2.2 = 0 by rw [ent_e h1 hT h3 h4])
            rw [ent_e h1 hT h3 h4] at hR
            obtain ⟨M, hM⟩ : ∃ M : Nat, tNum s (bAt s A 0 32) 0 = (M : Int) := ⟨(tNum s (bAt s A 0 32) 0).toNat, by omega⟩
            have hM' : (tNum s (bAt s A 0 32) 0).toNat = M := by omega
            have HN : Hid (R = lift (O ++ [⟨bTxt s A 0 32, M⟩]) (rEnts (N - (k + 1)) (prv (O ++ [⟨bTxt s A 0 32, M⟩]) (k + 1)) s (tAt s (bAt s A 0 32) 0))) := by
              have e1 : prv (O ++ [(⟨bTxt s A 0 32, M⟩ : En)]) (k + 1) = some (bTxt s A 0 32) := by
                have := prv_succ (l := O ++ [(⟨bTxt s A 0 32, M⟩ : En)]) (k := k) (by rw [List.length_append, HOl.out]; show k < k + 1; omega)
                rw [this]
                congr 1
                rw [List.getElem_append_right (by rw [HOl.out]; exact Nat.le_refl _)]
                simp [HOl.out]
              show R = _
              rw [e1, HK2.out, hR, hM']
              rfl
            have HS2 : Hid (∀ x ∈ O ++ [(⟨bTxt s A 0 32, M⟩ : En)], x.a.size ≤ maxLen) := by
              intro x hx
              rcases List.mem_append.1 hx with hx | hx
              · exact HSZ.out x hx
              · rw [List.mem_singleton.1 hx]; exact hsz
            have e4 : ((M : Int) == 0) = false := beq_eq_false_iff_ne.2 (by omega)
            have e5 : ¬ (M : Int) = 0 := by omega
            go_wp2_with fail
            refine yb.mono ?_
            rintro e w2 ⟨rfl, hc2, k2⟩
            have K2 := hK.trans k2
            have ho2 := rowE_keep ho k2 (fun k hk e => by omega)
            have y0 := k2.cell p0 (by show b' ≠ b; omega)
            obtain ⟨z0, z1, z2, z3, z4⟩ := hc2.cells
            clear z0 z1 z3 z4 yb k2 hK ho p0
            generalize O[j].a = OA at *
            go_wp2_with fail
            refine (yq _).mono ?_
            rintro e w2' ⟨rfl, hw2⟩
            have kq := keepN hw2
            have hc2 := hc2.keep0 kq
            have K2 := K2.step0 kq
            have ho2 := rowE_keep ho2 kq (fun _ _ f => f)
            clear hw2 kq yq z2 y0
            go_wp2_with fail
            refine (rtake_any hc2).mono ?_
            rintro e w3 ⟨rfl, hc3, k3⟩
            have K3 := K2.trans k3
            have ho3 := rowE_keep ho2 k3 (fun k hk e => by omega)
            clear k3 hc2 K2 ho2
            rw [h3] at hc3
            rw [hM]
            obtain ⟨q0, q1, q2, q3, q4⟩ := hc3.cells
            have kW : Keep0 w3 (w3.alloc (.cells #[.string (bTxt s A 0 32), .int .u64 (M : Int)] 53)) := (Keep.refl _ w3).alloc _
            have oW := rowE_keep ho3 kW (fun _ _ f => f)
            have xW := en_new w3 53 ⟨bTxt s A 0 32, M⟩
            have cW := hc3.keep0 kW
            have KW := K3.step0 kW
            have zW := KW.size
            have z3 := K3.size
            generalize tAt s (bAt s A 0 32) 0 = TA at *
            generalize bTxt s A 0 32 = T at *
            clear q0 q1 q3 q4 h3 h4 ht hM hM' hR h1 hT hc3 kW K3 ho3 hsz
            go_wp2_with (at_builtin; refine wpList_append_ens rfl _ _ rfl rfl rfl oW xW ?c1 ?c2 ?_)
            case c1 => first | exact zW | omega
            case c2 => (have := HOl.out); first | omega | (show O.length + 1 ≤ 1000000; omega)
            intro v4 w4 hx4 hg
            have ho4 : w4.ownsRow B 53 2 v4 (O ++ [(⟨T, M⟩ : En)]).length (enCells (O ++ [(⟨T, M⟩ : En)])) := by simpa using hx4
            have cG := cW.keep (Keep.eGrown (B := B) hg (fun k hk => (oW.lt k hk).1)) (by omega)
            have KG : Keep1 b w w4 := KW.step (Keep.eGrown (B := B) hg (fun k hk => (oW.lt k hk).1)) (fun i hi hh => by have hh : B ≤ i := hh; omega)
            clear hx4 oW xW cW KW zW z3 hg
            obtain ⟨vo', vn', vc', rfl⟩ := sliceE_of_own ho4
            go_wp2
            go_roundw
            case rel => exact ⟨k + 1, O ++ [⟨T, M⟩], TA, by go_num, by omega, (by show (O ++ [(⟨T, M⟩ : En)]).length = _; rw [List.length_append, HOl.out]; rfl), HS2, HN, cG, ho4, KG⟩
            case measure => simp [intOf]; omega
    · have i1 : ¬ (k : Int) < N := by omega
      have hd := HK.out
      rw [show N - k = 0 from by omega, ents_zero] at hd
      have HF : Hid (R = (O, A, 0)) := hd
      obtain ⟨po, pc, rfl, p1, p2, p3⟩ := ens_of_row ho
      clear hd HK
      go_wp2
      go_ret
      exact HM.out _ _ _ _ _ HF.out rfl hc p1 p2 hK
end Go.Proofs.YtoefibkhlhmlfaaGreat
namespace Go.Proofs.YtoefibkhlhmlfaaGreat
open Go.RowKit Go.WideShapes Go.ChangeShapes
structure Clk (w : World) where
  ao : Option Addr
  cap : Nat
  k : Ck
  fits : FitsK k
  at_ : EnsAt w ao k.c
def Clk.cs {w : World} (c : Clk w) : List Value := [.slice c.ao c.k.c.length c.cap, .bool c.k.d, .string c.k.x.a, .int .u64 (c.k.x.n : Int)]
end Go.Proofs.YtoefibkhlhmlfaaGreat
namespace Go.Proofs.YtoefibkhlhmlfaaGreat
open Go.RowKit
def Ok10 (l : List En) : Prop := l.length ≤ 10000 ∧ ∀ x ∈ l, x.a.size ≤ maxLen ∧ x.n < 18446744073709551616
theorem Ok10.fits {l : List En} (h : Ok10 l) : Fits l := ⟨by have := h.1; unfold maxLen; omega, h.2⟩
theorem Ok10.len {l : List En} (h : Ok10 l) : l.length ≤ maxLen := by have := h.1; unfold maxLen; omega
def xA : List En := [⟨⟨#[97]⟩, 1⟩, ⟨⟨#[98]⟩, 2⟩]
end Go.Proofs.YtoefibkhlhmlfaaGreat
namespace Go.Proofs.YtoefibkhlhmlfaaGreat
open Go.RowKit
def Ok14 (l : List Pr) (cap : Nat) : Prop := l.length ≤ 10000 ∧ (∀ x ∈ l, x.n.size ≤ maxLen ∧ x.v.size ≤ maxLen) ∧ CapP l cap
theorem Ok14.fits {l : List Pr} {cap : Nat} (h : Ok14 l cap) : FitsP l := ⟨by have := h.1; unfold maxLen; omega, h.2.1⟩
end Go.Proofs.YtoefibkhlhmlfaaGreat
