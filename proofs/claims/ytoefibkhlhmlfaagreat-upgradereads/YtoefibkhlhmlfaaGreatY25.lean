/-
  What this seat's claims lean on of the texts VcA.
  Conditions: as each theorem states.
-/
import Derived.WalkKit
import Derived.ProofKit
import Derived.Below
import Derived.Deep.Draws
import Derived.Deep.RegionHeld
import Derived.Test.YtoefibkhlhmlfaaGreatChecked
import Derived.OpenShut
import Derived.ShutString
import Derived.WalkSpells
import Derived.WalkLawsBesides
import Derived.Deep.QuietTactic
import Derived.BigQuiet
import Derived.Laws.Bits64b
import Derived.PlainAid
import Derived.Lib.AppendStr
import Derived.Deep.AppendLies
import Derived.Laws.IdiomStrings
import Derived.Laws.BytesArg
import Derived.Deep.RegionWith
import Derived.Laws.AppendOwn
import Derived.Deep.DeepAppendWide
import Derived.Deep.Upon
import Derived.Deep.Slices
import Derived.Test.YtoefibkhlhmlfaaGreatY21
namespace Go.Proofs.YtoefibkhlhmlfaaGreat
open Go.RowKit
theorem bTxt_bad {s : ByteArray} {a x m : Int} (h : bErr s a x m ≠ 0) : bTxt s a x m = ⟨#[]⟩ := by
  unfold bErr cErr at h
  unfold bTxt cBytes
  rw [if_neg]
  rintro ⟨h1, h2, h3⟩
  rw [if_neg (by simpa using h1), if_neg (by omega), if_pos h3] at h
  exact h rfl
theorem cFail_yes (y : Int) : cFail 0 y = y := if_pos rfl
theorem cFail_no {x : Int} (h : x ≠ 0) (y : Int) : cFail x y = x := if_neg h
def zAct (p : Option ByteArray) (s : ByteArray) (a : Int) : Int := cFail (bErr s a 0 32) (aTest p (bTxt s a 0 32))
def zCnt (s : ByteArray) (a x : Int) : Int := if tNum s a x = 0 then cFail (tErr s a x) 7 else tErr s a x
theorem ent_all (p : Option ByteArray) (s : ByteArray) (a : Int) : (rEnt p s a).2 = (tAt s (bAt s a 0 32) (zAct p s a), zCnt s (bAt s a 0 32) (zAct p s a)) := by
  by_cases h1 : bErr s a 0 32 = 0
  · by_cases h2 : aTest p (bTxt s a 0 32) = 0
    · have ez : zAct p s a = 0 := by unfold zAct; rw [h1, cFail_yes, h2]
      rw [ez]
      unfold zCnt
      by_cases h3 : tErr s (bAt s a 0 32) 0 = 0
      · by_cases h4 : tNum s (bAt s a 0 32) 0 = 0
        · rw [if_pos h4, h3, ent_d h1 h2 h3 h4]; rfl
        · rw [if_neg h4, h3, ent_e h1 h2 h3 h4]
      · rw [if_pos (tNum_bad h3), cFail_no h3, ent_c h1 h2 h3]
    · have ez : zAct p s a = aTest p (bTxt s a 0 32) := by unfold zAct; rw [h1, cFail_yes]
      rw [ez, ent_b h1 h2, tAt_err h2]
      unfold zCnt
      rw [if_pos (tNum_err h2), tErr_err h2, cFail_no h2]
  · have ez : zAct p s a = bErr s a 0 32 := by unfold zAct; rw [cFail_no h1]
    rw [ez, ent_a h1, tAt_err h1]
    unfold zCnt
    rw [if_pos (tNum_err h1), tErr_err h1, cFail_no h1]
theorem ent_fine {p : Option ByteArray} {s : ByteArray} {a : Int} (h : zCnt s (bAt s a 0 32) (zAct p s a) = 0) : (rEnt p s a).1 = ⟨bTxt s a 0 32, (tNum s (bAt s a 0 32) (zAct p s a)).toNat⟩ := by
  have e := ent_all p s a
  rw [h] at e
  by_cases h1 : bErr s a 0 32 = 0
  · by_cases h2 : aTest p (bTxt s a 0 32) = 0
    · have ez : zAct p s a = 0 := by unfold zAct; rw [h1, cFail_yes, h2]
      rw [ez] at h ⊢
      by_cases h3 : tErr s (bAt s a 0 32) 0 = 0
      · by_cases h4 : tNum s (bAt s a 0 32) 0 = 0
        · unfold zCnt at h
          rw [if_pos h4, h3] at h
          exact absurd h (by decide)
        · rw [ent_e h1 h2 h3 h4]
      · rw [ent_c h1 h2 h3] at e
        exact absurd (congrArg Prod.snd e) h3
    · rw [ent_b h1 h2] at e
      exact absurd (congrArg Prod.snd e) h2
  · rw [ent_a h1] at e
    exact absurd (congrArg Prod.snd e) h1
set_option maxRecDepth 100000 in
set_option maxHeartbeats 4000000 in
theorem actor11 {w : World} {b : Nat} {s : ByteArray} {a : Int} (h : Cur w b s a 0) (ao : Option Addr) (cap : Nat) (O : List En) (hl : O.length ≤ 64) (hc : EnsAt w ao O) (hn : ApartE (fun k => k = b) ao) :
    Calls Tryz.prog 178 #[ptr b, .slice ao O.length cap] w fun e w' => e = .returned (.string (bTxt s a 0 32)) ∧ Cur w' b s (bAt s a 0 32) (zAct (prv O O.length) s a) ∧ Keep1 b w w' := by
  have yb := blob6_any 32 (by decide) h
  by_cases h0 : (bTxt s a 0 32).size = 0
  · have hT : aTest (prv O O.length) (bTxt s a 0 32) = 14 := if_pos h0
    have hz : zAct (prv O O.length) s a = cFail (bErr s a 0 32) 14 := by unfold zAct; rw [hT]
    have he := empty_eq h0
    rw [he] at yb
    rw [hz, he]
    have hl' : (O.length : Int) ≤ 9223372036854775807 := by omega
    have i7 : IntKind.i64.wrap ((O.length : Int) - 1) = (O.length : Int) - 1 := by rw [IntKind.wrap_i64]; omega
    clear hz hT h0 he hc
    go_enter Tryz.func178, Tryz.ntmps178
    go_wp2_with fail
    refine yb.mono ?_
    rintro e w1 ⟨rfl, h1, k1⟩
    clear yb
    go_wp2_with fail
    refine (fail_any 14 h1).mono ?_
    rintro e w2 ⟨rfl, h2, k2⟩
    have K2 := k1.trans k2
    clear k1 k2 h1
    go_wp2
    go_ret
    exact ⟨rfl, h2, K2⟩
  have hb0 : bErr s a 0 32 = 0 := by
    refine Decidable.byContradiction fun hb => h0 ?_
    rw [bTxt_bad hb]; rfl
  have e1 := empty_no h0
  have ez : zAct (prv O O.length) s a = aTest (prv O O.length) (bTxt s a 0 32) := by unfold zAct; rw [hb0, cFail_yes]
  rw [ez]
  rw [hb0] at yb
  by_cases hO : O.length = 0
  · have hT : aTest (prv O O.length) (bTxt s a 0 32) = 0 := by unfold aTest; rw [if_neg h0, hO, prv_zero, falls_none]; rfl
    rw [hT, hO]
    clear ez hT hc hn h0 hb0
    generalize bTxt s a 0 32 = T at *
    go_enter Tryz.func178, Tryz.ntmps178
    go_wp2_with fail
    refine yb.mono ?_
    rintro e w1 ⟨rfl, h1, k1⟩
    clear yb
    go_wp2
    go_ret
    exact ⟨rfl, h1, k1⟩
  obtain ⟨j, hj⟩ : ∃ j, j + 1 = O.length := ⟨O.length - 1, by omega⟩
  have hjl : j < O.length := by omega
  obtain ⟨b', off, rfl, x0, xz⟩ := hc j hjl
  clear xz
  have hbb : b' ≠ b := hn _ _ _ rfl
  have hp : aTest (prv O O.length) (bTxt s a 0 32) = if bl O[j].a (bTxt s a 0 32) = true then 0 else 6 := by
    unfold aTest
    rw [if_neg h0, ← hj, prv_succ hjl, falls_some]
    cases bl O[j].a (bTxt s a 0 32) <;> rfl
  rw [hp]
  have yr := fun (W : World) => rising6_any _ _ 2 [O[j].a, bTxt s a 0 32] (by show 2 ≤ maxLen; unfold maxLen; omega) (texts_two10 W 9 O[j].a (bTxt s a 0 32))
  have el : [O[j].a, bTxt s a 0 32].length = 2 := rfl
  rw [el] at yr
  have hl' : (O.length : Int) ≤ 9223372036854775807 := by omega
  have i1 : (j : Int) < O.length := by omega
  have i6 : (O.length : Int) - 1 = (j : Int) := by omega
  have i7 : IntKind.i64.wrap (j : Int) = (j : Int) := by rw [IntKind.wrap_i64]; omega
  cases hB : bl O[j].a (bTxt s a 0 32) with
  | true =>
    rw [rise_yes hB] at yr
    rw [if_pos rfl]
    clear el hp ez hB h0 hb0 hc hn hO
    generalize bTxt s a 0 32 = T at *
    generalize O[j].a = A at *
    generalize O.length = q at *
    go_enter Tryz.func178, Tryz.ntmps178
    go_wp2_with fail
    refine yb.mono ?_
    rintro e w1 ⟨rfl, h1, k1⟩
    have x1 := k1.cell x0 hbb
    have yr := yr w1
    have kA : Keep1 b w (w1.alloc (.cells #[.string A, .string T] 9)) := k1.alloc _
    have hA : Cur (w1.alloc (.cells #[.string A, .string T] 9)) b s (bAt s a 0 32) 0 := h1.keep0 ((Keep.refl _ w1).alloc _)
    clear yb x0
    go_wp2_with fail
    refine yr.mono ?_
    rintro e w2 ⟨rfl, hw2⟩
    have h2 := hA.keep0 (keepN hw2)
    have K2 := kA.step0 (keepN hw2)
    clear yr hw2 kA hA
    go_wp2
    go_ret
    exact ⟨rfl, h2, K2⟩
  | false =>
    rw [rise_no hB] at yr
    rw [if_neg (by decide)]
    clear el hp ez hB h0 hb0 hc hn hO
    generalize bTxt s a 0 32 = T at *
    generalize O[j].a = A at *
    generalize O.length = q at *
    go_enter Tryz.func178, Tryz.ntmps178
    go_wp2_with fail
    refine yb.mono ?_
    rintro e w1 ⟨rfl, h1, k1⟩
    have x1 := k1.cell x0 hbb
    have yr := yr w1
    have kA : Keep1 b w (w1.alloc (.cells #[.string A, .string T] 9)) := k1.alloc _
    have hA : Cur (w1.alloc (.cells #[.string A, .string T] 9)) b s (bAt s a 0 32) 0 := h1.keep0 ((Keep.refl _ w1).alloc _)
    clear yb x0
    go_wp2_with fail
    refine yr.mono ?_
    rintro e w2 ⟨rfl, hw2⟩
    have h2 := hA.keep0 (keepN hw2)
    have K2 := kA.step0 (keepN hw2)
    clear yr hw2 kA hA h1 x1
    go_wp2_with fail
    refine (fail_any 6 h2).mono ?_
    rw [cFail_yes]
    rintro e w3 ⟨rfl, h3, k3⟩
    have K3 := K2.trans k3
    clear k3 K2 h2
    go_wp2
    go_ret
    exact ⟨rfl, h3, K3⟩
set_option maxRecDepth 100000 in
theorem cnt11 {w : World} {b : Nat} {s : ByteArray} {a x : Int} (h : Cur w b s a x) :
    Calls Tryz.prog 179 #[ptr b] w fun e w' => e = .returned (.int .u64 (tNum s a x)) ∧ Cur w' b s (tAt s a x) (zCnt s a x) ∧ Keep1 b w w' := by
  have yt := take_any h
  by_cases h0 : tNum s a x = 0
  · have hz : zCnt s a x = cFail (tErr s a x) 7 := if_pos h0
    rw [hz, h0]
    rw [h0] at yt
    clear hz h0
    go_enter Tryz.func179, Tryz.ntmps179
    go_wp2_with fail
    refine yt.mono ?_
    rintro e w1 ⟨rfl, h1, k1⟩
    clear yt
    go_wp2_with fail
    refine (fail_any 7 h1).mono ?_
    rintro e w2 ⟨rfl, h2, k2⟩
    have K2 := k1.trans k2
    clear k1 k2 h1
    go_wp2
    go_ret
    exact ⟨rfl, h2, K2⟩
  · have hz : zCnt s a x = tErr s a x := if_neg h0
    have e1 : (tNum s a x == 0) = false := beq_eq_false_iff_ne.2 h0
    rw [hz]
    clear hz
    generalize tNum s a x = N at *
    go_enter Tryz.func179, Tryz.ntmps179
    go_wp2_with fail
    refine yt.mono ?_
    rintro e w1 ⟨rfl, h1, k1⟩
    clear yt
    go_wp2
    go_ret
    exact ⟨rfl, h1, k1⟩
theorem zAct_size {s : ByteArray} {a : Int} : (bTxt s a 0 32).size ≤ 32 := by
  by_cases h1 : bErr s a 0 32 = 0
  · obtain ⟨_, _, h3, _, h5, _⟩ := blob_zero h1
    have hp : pMax 32 = 32 := rfl
    rw [hp] at h3
    have ht := tNum_lt s a 0
    rw [h5]
    unfold cut
    rw [ByteArray.size_extract]
    omega
  · rw [bTxt_bad h1]; decide
set_option maxRecDepth 100000 in
set_option maxHeartbeats 8000000 in
theorem take11 {w : World} {b : Nat} {s : ByteArray} {a x : Int} (h : Cur w b s a x) :
    Calls Tryz.prog 151 #[ptr b] w (RTake (rX [] rVec s a x) s b w) := by
  have hbl : b < w.heap.size := h.lt
  have yk := count6_any 64 (by decide) h
  have hkb := kNum_bd s a x 64
  have hkl := count_le (s := s) (a := a) (x := x)
  have HM : Hid (∀ (W : World) (e : Ending) (bo : Option Addr) (c : Nat) (R : List En × Int × Int), rX [] rVec s a x = R → e = .returned (.slice bo R.1.length c) → Cur W b s R.2.1 R.2.2 → EnsAt W bo R.1 → (∀ g off m, bo = some ⟨g, off, m⟩ → w.heap.size ≤ g) → Keep1 b w W → RTake (rX [] rVec s a x) s b w e W) := by
    intro W e bo c R h1 h2 h3 h4 h5 h6
    rw [h1]
    exact RTake.mk h2 h3 h4 h5 h6
  by_cases h0 : kErr s a x 64 = 0
  case neg =>
    obtain ⟨hk, hr⟩ := take_bad h0
    rw [hk] at yk
    have HR : Hid (rX [] rVec s a x = ([], tAt s a x, kErr s a x 64)) := hr
    clear hr hk hkb hkl h0
    go_enter Tryz.func151, Tryz.ntmps151
    go_wp2_with fail
    refine yk.mono ?_
    rintro e w1 ⟨rfl, hc1, k1⟩
    go_wp2_with fail
    refine wp_loop_rounds 1 ?_
    rw [rounds_succ]
    go_wp2
    go_ret
    exact HM.out _ _ _ _ _ HR.out rfl hc1 (ens_nil _ _) (fun _ _ _ e => by cases e) k1
  have hx := take_good h0
  subst hx
  obtain ⟨N, hN⟩ : ∃ N : Nat, kNum s a 0 64 = (N : Int) := ⟨(kNum s a 0 64).toNat, by omega⟩
  have hN' : (kNum s a 0 64).toNat = N := by omega
  have hr : rX [] rVec s a 0 = lift [] (rEnts N none s (tAt s a 0)) := by rw [rX_yes, vec_b h0, hN']
  rw [h0, hN] at yk
  obtain ⟨R, hR⟩ : ∃ R, rX [] rVec s a 0 = R := ⟨_, rfl⟩
  rw [hR] at HM ⊢
  have HM : Hid (∀ (W : World) (e : Ending) (bo : Option Addr) (c : Nat) (R' : List En × Int × Int), R = R' → e = .returned (.slice bo R'.1.length c) → Cur W b s R'.2.1 R'.2.2 → EnsAt W bo R'.1 → (∀ g off m, bo = some ⟨g, off, m⟩ → w.heap.size ≤ g) → Keep1 b w W → RTake R s b w e W) := HM
  have HR : Hid (R = lift [] (rEnts (N - 0) (prv [] 0) s (tAt s a 0))) := by rw [← hR]; exact hr
  have hN6 : N ≤ 64 := by omega
  clear hR hr hkb hkl h0 hN hN' h
  go_enter Tryz.func151, Tryz.ntmps151
  go_wp2_with fail
  refine yk.mono ?_
  rintro e w1 ⟨rfl, hc1, k1⟩
  clear yk
  generalize hB : w.heap.size = B at *
  go_wp2_with fail
  go_loopw [3, 8] (fun o i wr => ∃ (k : Nat) (O : List En) (A : Int), i = .int .i64 (k : Int) ∧ k ≤ N ∧ Hid (O.length = k) ∧ Hid (R = lift O (rEnts (N - k) (prv O O.length) s A)) ∧ Cur wr b s A 0 ∧ wr.ownsRow B 53 2 o O.length (enCells O) ∧ Keep1 b w wr) (fun _ i _ => N - (intOf i).toNat)
  case atStart => exact ⟨0, [], tAt s a 0, rfl, by omega, rfl, HR, hc1, World.ownsRow_nil _ _ _ _, k1⟩
  case round =>
    obtain ⟨k, O, A, rfl, hk, HOl, HK, hc, ho, hK⟩ := hrel
    clear HR hc1 k1
    by_cases hlt : k < N
    · have i1 : (k : Int) < N := by omega
      have HK2 : Hid (R = lift O (rEnts (N - k - 1 + 1) (prv O O.length) s A)) := by
        have := HK.out
        rwa [show N - k = N - k - 1 + 1 from by omega] at this
      obtain ⟨po, pc, rfl, hOe, hOn, hOc⟩ := ens_of_row ho
      clear hOc HK
      have ya := actor11 hc po pc O (by rw [HOl.out]; omega) hOe (fun g off m e hh => by have := hOn g off m e; omega)
      have yc := fun W (h : Cur W b s (bAt s A 0 32) (zAct (prv O O.length) s A)) => cnt11 h
      have ht := tNum_lt s (bAt s A 0 32) (zAct (prv O O.length) s A)
      obtain ⟨M, hM⟩ : ∃ M : Nat, tNum s (bAt s A 0 32) (zAct (prv O O.length) s A) = (M : Int) := ⟨(tNum s (bAt s A 0 32) (zAct (prv O O.length) s A)).toNat, by omega⟩
      have hM' : (tNum s (bAt s A 0 32) (zAct (prv O O.length) s A)).toNat = M := by omega
      rw [hM] at yc
      have hall := ent_all (prv O O.length) s A
      by_cases h1 : zCnt s (bAt s A 0 32) (zAct (prv O O.length) s A) = 0
      case neg =>
        have hR := ents_bad (n := N - k - 1) O (show (rEnt (prv O O.length) s A).2.2 ≠ 0 by rw [hall]; exact h1)
        rw [hall] at hR
        have HF : Hid (R = ([], tAt s (bAt s A 0 32) (zAct (prv O O.length) s A), zCnt s (bAt s A 0 32) (zAct (prv O O.length) s A))) := by rw [← hR]; exact HK2.out
        have e1 : (zCnt s (bAt s A 0 32) (zAct (prv O O.length) s A) != 0) = true := by simpa using h1
        clear hR HK2 ho hall hM hM' ht hOe hOn
        generalize zCnt s (bAt s A 0 32) (zAct (prv O O.length) s A) = ZC at *
        generalize tAt s (bAt s A 0 32) (zAct (prv O O.length) s A) = ZT at *
        generalize zAct (prv O O.length) s A = ZA at *
        generalize bAt s A 0 32 = BA at *
        generalize bTxt s A 0 32 = BT at *
        go_wp2_with fail
        refine ya.mono ?_
        rintro e w2 ⟨rfl, hc2, k2⟩
        have K2 := hK.trans k2
        have yc := yc w2 hc2
        clear k2 hK ya hc
        go_wp2_with fail
        refine yc.mono ?_
        rintro e w3 ⟨rfl, hc3, k3⟩
        have K3 := K2.trans k3
        have ye := err_any hc3
        clear k3 K2 yc hc2
        go_wp2_with fail
        refine ye.mono ?_
        rintro e w4 ⟨rfl, rfl⟩
        go_wp2
        go_ret
        exact HM.out _ _ _ _ _ HF.out rfl hc3 (ens_nil _ _) (fun _ _ _ e => by cases e) K3
      · have hR := ents_more (n := N - k - 1) O (show (rEnt (prv O O.length) s A).2.2 = 0 by rw [hall]; exact h1)
        rw [ent_fine h1, hall, hM'] at hR
        have HN : Hid (R = lift (O ++ [⟨bTxt s A 0 32, M⟩]) (rEnts (N - (k + 1)) (prv (O ++ [⟨bTxt s A 0 32, M⟩]) (O ++ [(⟨bTxt s A 0 32, M⟩ : En)]).length) s (tAt s (bAt s A 0 32) (zAct (prv O O.length) s A)))) := by
          have e1 : prv (O ++ [(⟨bTxt s A 0 32, M⟩ : En)]) (O ++ [(⟨bTxt s A 0 32, M⟩ : En)]).length = some (bTxt s A 0 32) := by
            rw [List.length_append]
            have := prv_succ (l := O ++ [(⟨bTxt s A 0 32, M⟩ : En)]) (k := O.length) (by rw [List.length_append]; show O.length < O.length + 1; omega)
            show prv _ (O.length + 1) = _
            rw [this]
            congr 1
            rw [List.getElem_append_right (Nat.le_refl _)]
            simp
          show R = _
          rw [e1, HK2.out, hR]
          rfl
        rw [h1] at yc
        clear hR HK2 hall hM hM' ht h1 hOn hOe
        generalize tAt s (bAt s A 0 32) (zAct (prv O O.length) s A) = ZT at *
        generalize zAct (prv O O.length) s A = ZA at *
        generalize bAt s A 0 32 = BA at *
        generalize bTxt s A 0 32 = T at *
        go_wp2_with fail
        refine ya.mono ?_
        rintro e w2 ⟨rfl, hc2, k2⟩
        have K2 := hK.trans k2
        have ho2 := rowE_keep ho k2 (fun k hk e => by omega)
        have yc := yc w2 hc2
        clear k2 hK ya hc ho
        go_wp2_with fail
        refine yc.mono ?_
        rintro e w3 ⟨rfl, hc3, k3⟩
        have K3 := K2.trans k3
        have ho3 := rowE_keep ho2 k3 (fun k hk e => by omega)
        have ye := err_any hc3
        clear k3 K2 yc hc2 ho2
        have kW : Keep0 w3 (w3.alloc (.cells #[.string T, .int .u64 (M : Int)] 53)) := (Keep.refl _ w3).alloc _
        have oW := rowE_keep ho3 kW (fun _ _ f => f)
        have xW := en_new w3 53 ⟨T, M⟩
        have cW := hc3.keep0 kW
        have KW := K3.step0 kW
        have zW := KW.size
        have z3 := K3.size
        clear hc3 kW K3 ho3
        go_wp2_with fail
        refine ye.mono ?_
        rintro e w3' ⟨rfl, rfl⟩
        clear ye
        go_wp2_with (at_builtin; refine wpList_append_ens rfl _ _ rfl rfl rfl oW xW ?c1 ?c2 ?_)
        case c1 => first | exact zW | omega
        case c2 => (have := HOl.out); first | omega | (show O.length + 1 ≤ 1000000; omega)
        intro v4 w4 hx4 hg
        have ho4 : w4.ownsRow B 53 2 v4 (O ++ [(⟨T, M⟩ : En)]).length (enCells (O ++ [(⟨T, M⟩ : En)])) := by simpa using hx4
        have cG := cW.keep (Keep.eGrown (B := B) hg (fun k hk => (oW.lt k hk).1)) (by omega)
        have KG : Keep1 b w w4 := KW.step (Keep.eGrown (B := B) hg (fun k hk => (oW.lt k hk).1)) (fun i hi hh => by have hh : B ≤ i := hh; omega)
        clear hx4 oW xW cW KW zW z3 hg
        obtain ⟨vo', vn', vc', rfl⟩ := sliceE_of_own ho4
        go_wp2
        go_roundw
        case rel => exact ⟨k + 1, O ++ [⟨T, M⟩], ZT, by go_num, by omega, (by show (O ++ [(⟨T, M⟩ : En)]).length = _; rw [List.length_append, HOl.out]; rfl), HN, cG, ho4, KG⟩
        case measure => simp [intOf]; omega
    · have i1 : ¬ (k : Int) < N := by omega
      obtain ⟨po, pc, rfl, hOe, hOn, hOc⟩ := ens_of_row ho
      have hF : R = (O, A, 0) := by rw [HK.out, show N - k = 0 from by omega, ents_zero]
      have HF : Hid (R = (O, A, 0)) := hF
      clear hF HK ho hOc
      go_wp2
      go_ret
      exact HM.out _ _ _ _ _ HF.out rfl hc hOe hOn hK
end Go.Proofs.YtoefibkhlhmlfaaGreat
