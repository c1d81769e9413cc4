/-
  What this seat's claims lean on of the texts ObB.
  Conditions: as each theorem states.
-/
import Derived.WalkKit
import Derived.ProofKit
import Derived.Below
import Derived.Deep.Draws
import Derived.Deep.RegionHeld
import Derived.Test.YtoefibkhlhmlfaaGreatChecked
import Derived.OpenShut
import Derived.ShutString
import Derived.WalkSpells
import Derived.WalkLawsBesides
import Derived.Deep.QuietTactic
import Derived.BigQuiet
import Derived.Laws.Bits64b
import Derived.PlainAid
import Derived.Lib.AppendStr
import Derived.Deep.AppendLies
import Derived.Laws.IdiomStrings
import Derived.Laws.BytesArg
import Derived.Deep.RegionWith
import Derived.Laws.AppendOwn
import Derived.Deep.DeepAppendWide
import Derived.Deep.Upon
import Derived.Maps.AppendAt
import Derived.Laws.Rows
import Derived.Deep.Slices
import Derived.Deep.CutRange
import Derived.Deep.RegionLaw
import Derived.Test.YtoefibkhlhmlfaaGreatY41
import Derived.Test.YtoefibkhlhmlfaaGreatY36
import Derived.Test.YtoefibkhlhmlfaaGreatY35
namespace Go.Proofs.YtoefibkhlhmlfaaGreat
open Go.RowKit
def keyE (s : ByteArray) (a x : Int) : Int := if (bTxt s a x 128).size = 0 then cFail (bErr s a x 128) 14 else bErr s a x 128
def cntE (s : ByteArray) (a x : Int) : Int := if kNum s a x 16 = 0 then cFail (kErr s a x 16) 7 else kErr s a x 16
theorem fail_no16 {x y : Int} (h : x ≠ 0) : cFail x y = x := if_neg h
theorem key_keep {s : ByteArray} {a x : Int} (h : bErr s a x 128 ≠ 0) : keyE s a x = bErr s a x 128 := by
  unfold keyE
  split
  · exact fail_no16 h
  · rfl
theorem cnt_keep {s : ByteArray} {a x : Int} (h : kErr s a x 16 ≠ 0) : cntE s a x = kErr s a x 16 := by
  unfold cntE
  split
  · exact fail_no16 h
  · rfl
section
variable {s : ByteArray} {a x KA KE CA CE : Int}
theorem cnt_bad (h : KE ≠ 0) : kNum s KA KE 16 = 0 ∧ tAt s KA KE = KA ∧ cntE s KA KE = KE := by
  obtain ⟨h1, h2, h3⟩ := key_err (s := s) (a := KA) h
  exact ⟨h1, h3, by rw [cnt_keep (by rw [h2]; exact h), h2]⟩
theorem head_bad {N : Nat} (hKA : bAt s a x 128 = KA) (hKE : keyE s a x = KE) (hN : kNum s KA KE 16 = (N : Int)) (hCA : tAt s KA KE = CA) (hCE : cntE s KA KE = CE) (h : CE ≠ 0) : N = 0 ∧ rX zOb rOb s a x = (zOb, CA, CE) := by
  by_cases hx : x = 0
  case neg =>
    obtain ⟨_, b2, b3⟩ := b_bad (s := s) (a := a) 128 hx
    have e1 : KE = x := by rw [← hKE, key_keep (by rw [b3]; exact hx), b3]
    subst e1
    obtain ⟨c1, c2, c3⟩ := cnt_bad (s := s) (KA := KA) hx
    refine ⟨by omega, ?_⟩
    rw [rX_no hx, ← hCA, ← hCE, c2, c3, ← hKA, b2]
  subst hx
  rw [rX_yes]
  by_cases hb : bErr s a 0 128 = 0
  case neg =>
    have e1 : KE = bErr s a 0 128 := by rw [← hKE, key_keep hb]
    obtain ⟨c1, c2, c3⟩ := cnt_bad (s := s) (KA := KA) (KE := KE) (by rw [e1]; exact hb)
    refine ⟨by omega, ?_⟩
    rw [ob_1 hb, ← hCA, ← hCE, c2, c3, ← hKA, e1]
  by_cases hk : (bTxt s a 0 128).size = 0
  · have e1 : KE = 14 := by rw [← hKE]; unfold keyE; rw [if_pos hk, hb]; rfl
    obtain ⟨c1, c2, c3⟩ := cnt_bad (s := s) (KA := KA) (KE := KE) (by rw [e1]; decide)
    refine ⟨by omega, ?_⟩
    rw [ob_2 hb hk, ← hCA, ← hCE, c2, c3, ← hKA, e1]
  have e1 : KE = 0 := by rw [← hKE]; unfold keyE; rw [if_neg hk, hb]
  subst e1
  have hkey := key_yes hb hk
  rw [hKA] at hkey
  by_cases hc : kErr s KA 0 16 = 0
  case neg =>
    have hn := keyNum_bad hc
    refine ⟨by omega, ?_⟩
    have e2 := cnt_keep hc
    rw [ob_rest hkey, obT_1 hc, if_neg hc, hCA, ← e2, hCE]
  by_cases hn : kNum s KA 0 16 = 0
  · refine ⟨by omega, ?_⟩
    have e2 : CE = 7 := by rw [← hCE]; unfold cntE; rw [if_pos hn, hc]; rfl
    rw [ob_rest hkey, obT_2 hc hn, hCA, e2]
    exact if_neg (show ¬ (7 : Int) = 0 by decide)
  · have e2 : CE = 0 := by rw [← hCE]; unfold cntE; rw [if_neg hn, hc]
    exact absurd e2 h
theorem head_ok {N : Nat} {KT : ByteArray} (hKT : bTxt s a x 128 = KT) (hKA : bAt s a x 128 = KA) (hKE : keyE s a x = KE) (hN : kNum s KA KE 16 = (N : Int)) (hCA : tAt s KA KE = CA) (hCE : cntE s KA KE = CE) (h : CE = 0) : N ≠ 0 ∧ N ≤ 16 ∧ rX zOb rOb s a x = (if (liftS [] (rSibs N none s CA)).2.2 = 0 then ((⟨KT, (liftS [] (rSibs N none s CA)).1⟩ : Ob), (liftS [] (rSibs N none s CA)).2) else (zOb, (liftS [] (rSibs N none s CA)).2)) := by
  have hKE0 : KE = 0 := by
    refine Decidable.byContradiction fun e => ?_
    have := (cnt_bad (s := s) (KA := KA) e).2.2
    rw [hCE, h] at this
    exact e this.symm
  subst hKE0
  have hb : bErr s a x 128 = 0 := by
    refine Decidable.byContradiction fun e => ?_
    rw [key_keep e] at hKE
    exact e hKE
  have hx : x = 0 := (blob_zero hb).1
  subst hx
  have hk : (bTxt s a 0 128).size ≠ 0 := by
    intro e
    unfold keyE at hKE
    rw [if_pos e, hb] at hKE
    exact absurd hKE (by decide)
  have hc : kErr s KA 0 16 = 0 := by
    refine Decidable.byContradiction fun e => ?_
    rw [cnt_keep e, h] at hCE
    exact e hCE
  have hn : kNum s KA 0 16 ≠ 0 := by
    intro e
    unfold cntE at hCE
    rw [if_pos e, hc, h] at hCE
    exact absurd hCE (by decide)
  have hkey := key_yes hb hk
  rw [hKA, hKT] at hkey
  refine ⟨by omega, by have := kNum16 hc; omega, ?_⟩
  rw [rX_yes]
  exact ob_end hkey hc hN (by omega) hCA rfl
end
theorem rsib_bad {s : ByteArray} {a : Int} (h : (rSib s a).2.2 ≠ 0) : (rSib s a).1 = zSb := by
  obtain ⟨⟨KK, b1, E1⟩, hRV⟩ : ∃ RV, rX zCk rClk s a 0 = RV := ⟨_, rfl⟩
  obtain ⟨⟨PP, b2, E2⟩, hRP⟩ : ∃ RP, rX [] rPrs s b1 E1 = RP := ⟨_, rfl⟩
  obtain ⟨h1, h2⟩ := chain15 hRV hRP rfl rfl rfl rfl rfl rfl
  rw [rX_yes] at h1 h2
  by_cases hz : bErr s (cAt s b2 E2 1) (gErr s b2 E2) 32768 = 0
  · rw [h1 hz] at h
    exact absurd rfl h
  · rw [h2 hz]
theorem fT_ord {l : List Sb} {X : Sb} {k : Nat} (hl : l.length = k) (hq : ∀ y ∈ l, sCheck y = 0) (h0 : sCheck X = 0) : fTest (pvk l k) X = ordA (lastK l) X.k := by
  cases k with
  | zero =>
    have e := List.eq_nil_of_length_eq_zero hl
    subst e
    exact fTest_none X
  | succ j =>
    have hj : j < l.length := by omega
    have e : (kBelow l[j].k X.k).1 = bl (kb l[j]) (kb X) := by rw [kBelow_yes (sCheck_zero.1 (hq _ (List.getElem_mem hj))).1 (sCheck_zero.1 h0).1]; rfl
    rw [pvk_succ hj, lastK_at hl.symm hj]
    show _ = if (kBelow l[j].k X.k).1 = true then 0 else 6
    rw [e]
    cases hb : bl (kb l[j]) (kb X) with
    | true => rw [fTest_up hb]; rfl
    | false => rw [fTest_down hb]; rfl
set_option maxRecDepth 100000 in
set_option maxHeartbeats 4000000 in
theorem takeKey16 {w : World} {b : Nat} {s : ByteArray} {a x : Int} (h : Cur w b s a x) :
    Calls Tryz.prog 76 #[ptr b] w fun e w' => e = .returned (.string (bTxt s a x 128)) ∧ Cur w' b s (bAt s a x 128) (keyE s a x) ∧ Keep1 b w w' := by
  have yb := blob6_any 128 (by decide) h
  unfold keyE
  by_cases he : (bTxt s a x 128).size = 0
  · rw [if_pos he]
    have e0 := empty_eq14 he
    rw [e0] at yb ⊢
    have yf := fun W (h : Cur W b s (bAt s a x 128) (bErr s a x 128)) => fail_any 14 h
    clear h he e0
    generalize cFail (bErr s a x 128) 14 = F at *
    generalize bAt s a x 128 = A2 at *
    generalize bErr s a x 128 = E2 at *
    go_enter Tryz.func76, Tryz.ntmps76
    go_wp2_with fail
    refine yb.mono ?_
    rintro e w1 ⟨rfl, h1, k1⟩
    clear yb
    go_wp2_with fail
    refine (yf _ h1).mono ?_
    rintro e w2 ⟨rfl, h2, k2⟩
    have K2 := k1.trans k2
    clear yf k1 k2 h1
    go_wp2
    go_ret
    exact ⟨rfl, h2, K2⟩
  · rw [if_neg he]
    have e1 := empty_no14 he
    clear h he
    generalize bTxt s a x 128 = KT at *
    generalize bAt s a x 128 = A2 at *
    generalize bErr s a x 128 = E2 at *
    go_enter Tryz.func76, Tryz.ntmps76
    go_wp2_with fail
    refine yb.mono ?_
    rintro e w1 ⟨rfl, h1, k1⟩
    clear yb
    go_wp2
    go_ret
    exact ⟨rfl, h1, k1⟩
set_option maxRecDepth 100000 in
set_option maxHeartbeats 4000000 in
theorem takeCount16 {w : World} {b : Nat} {s : ByteArray} {a x : Int} (h : Cur w b s a x) :
    Calls Tryz.prog 77 #[ptr b] w fun e w' => e = .returned (.int .i64 (kNum s a x 16)) ∧ Cur w' b s (tAt s a x) (cntE s a x) ∧ Keep1 b w w' := by
  have yb := count6_any 16 (by decide) h
  unfold cntE
  by_cases he : kNum s a x 16 = 0
  · rw [if_pos he]
    rw [he] at yb ⊢
    have yf := fun W (h : Cur W b s (tAt s a x) (kErr s a x 16)) => fail_any 7 h
    clear h he
    generalize cFail (kErr s a x 16) 7 = F at *
    generalize tAt s a x = A2 at *
    generalize kErr s a x 16 = E2 at *
    go_enter Tryz.func77, Tryz.ntmps77
    go_wp2_with fail
    refine yb.mono ?_
    rintro e w1 ⟨rfl, h1, k1⟩
    clear yb
    go_wp2_with fail
    refine (yf _ h1).mono ?_
    rintro e w2 ⟨rfl, h2, k2⟩
    have K2 := k1.trans k2
    clear yf k1 k2 h1
    go_wp2
    go_ret
    exact ⟨rfl, h2, K2⟩
  · rw [if_neg he]
    have e1 : (kNum s a x 16 == 0) = false := beq_eq_false_iff_ne.2 he
    clear h
    generalize kNum s a x 16 = KT at *
    generalize tAt s a x = A2 at *
    generalize kErr s a x 16 = E2 at *
    go_enter Tryz.func77, Tryz.ntmps77
    go_wp2_with fail
    refine yb.mono ?_
    rintro e w1 ⟨rfl, h1, k1⟩
    clear yb
    go_wp2
    go_ret
    exact ⟨rfl, h1, k1⟩
set_option maxRecDepth 100000 in
set_option maxHeartbeats 8000000 in
theorem take16 {w : World} {b : Nat} {s : ByteArray} {a x : Int} (h : Cur w b s a x) :
    Calls Tryz.prog 46 #[ptr b] w (RTakeO (rX zOb rOb s a x) s b w) := by
  have HE : Hid (∀ (W : World) (e : Ending) (A E : Int), rX zOb rOb s a x = (zOb, A, E) → e = .returned (.agg #[.string ⟨#[]⟩, .slice none 0 0]) → Cur W b s A E → Keep1 b w W → RTakeO (rX zOb rOb s a x) s b w e W) := fun _ _ _ _ h1 h2 h3 h4 => RTakeO.bare h1 h2 h3 h4
  have HM : Hid (∀ (W : World) (e : Ending) (A E : Int) (K : ByteArray) (L : List Pl) (ao : Option Addr) (cap : Nat), rX zOb rOb s a x = (⟨K, L.map Pl.x⟩, A, E) → e = .returned (.agg #[.string K, .slice ao L.length cap]) → Cur W b s A E → NewL w.heap.size W ao L → (L.length ≤ cap ∧ cap ≤ maxLen) → Keep1 b w W → RTakeO (rX zOb rOb s a x) s b w e W) := fun _ _ _ _ _ _ _ _ h1 h2 h3 h4 h4' h5 => RTakeO.mk h1 h2 h3 h4 h4' h5
  have HB : Hid (b < w.heap.size) := h.lt
  have kA : Keep0 w (w.alloc (.cells #[.string ⟨#[]⟩, .slice none 0 0] 27)) := (Keep.refl _ w).alloc _
  have q2 : DAt (w.alloc (.cells #[.string ⟨#[]⟩, .slice none 0 0] 27)) w.heap.size (.string ⟨#[]⟩) (.slice none 0 0) := DAt.new w 27 (.string ⟨#[]⟩) (.slice none 0 0)
  have hcl := h.lt
  have z1 : (w.alloc (.cells #[.string ⟨#[]⟩, .slice none 0 0] 27)).heap.size = w.heap.size + 1 := by rw [World.size_alloc]
  have yk := takeKey16 (h.keep0 kA)
  obtain ⟨KT, hKT⟩ : ∃ z, bTxt s a x 128 = z := ⟨_, rfl⟩
  obtain ⟨KA, hKA⟩ : ∃ z, bAt s a x 128 = z := ⟨_, rfl⟩
  obtain ⟨KE, hKE⟩ : ∃ z, keyE s a x = z := ⟨_, rfl⟩
  rw [hKT, hKA, hKE] at yk
  have yc := fun W (h : Cur W b s KA KE) => takeCount16 h
  have hkb := kNum_bd s KA KE 16
  obtain ⟨N, hN⟩ : ∃ N : Nat, kNum s KA KE 16 = (N : Int) := ⟨(kNum s KA KE 16).toNat, by omega⟩
  obtain ⟨CA, hCA⟩ : ∃ z, tAt s KA KE = z := ⟨_, rfl⟩
  obtain ⟨CE, hCE⟩ : ∃ z, cntE s KA KE = z := ⟨_, rfl⟩
  rw [hN, hCA, hCE] at yc
  have HBad : Hid (CE ≠ 0 → N = 0 ∧ rX zOb rOb s a x = (zOb, CA, CE)) := head_bad hKA hKE hN hCA hCE
  have HOk0 : Hid (CE = 0 → N ≠ 0 ∧ N ≤ 16 ∧ rX zOb rOb s a x = (if (liftS [] (rSibs N none s CA)).2.2 = 0 then ((⟨KT, (liftS [] (rSibs N none s CA)).1⟩ : Ob), (liftS [] (rSibs N none s CA)).2) else (zOb, (liftS [] (rSibs N none s CA)).2))) := head_ok hKT hKA hKE hN hCA hCE
  clear hKT hKA hKE hN hCA hCE hkb h
  go_enter Tryz.func46, Tryz.ntmps46
  go_wp2_with fail
  generalize (w.alloc (.cells #[.string ⟨#[]⟩, .slice none 0 0] 27)) = W0 at *
  obtain ⟨g2, hg2⟩ : ∃ g2, w.heap.size = g2 := ⟨_, rfl⟩
  rw [hg2] at q2 z1 hcl ⊢
  have n2 : g2 ≠ b := by omega
  have HG2 : Hid (w.heap.size = g2) := hg2
  refine yk.mono ?_
  rintro e w1 ⟨rfl, c1, k1⟩
  have K1 : Keep1 b w w1 := (kA.any (R := fun i => i = b)).trans k1
  have q2a := q2.keep k1 n2
  have hz1 : g2 + 1 ≤ w1.heap.size := by have := k1.size; omega
  clear yk kA k1 q2 z1 hcl hg2
  have kB : Keep0 w1 (w1.alloc (.cells #[.string KT, .slice none 0 0] 27)) := (Keep.refl _ w1).alloc _
  have c2 := c1.keep0 kB
  have q2b := q2a.keep0 kB
  have q3b := DAt.new w1 27 (.string KT) (.slice none 0 0)
  have K2 := K1.step0 kB
  have z2 : (w1.alloc (.cells #[.string KT, .slice none 0 0] 27)).heap.size = w1.heap.size + 1 := by rw [World.size_alloc]
  have hb1 := c1.lt
  clear kB c1 q2a K1
  go_wp2_with fail
  generalize (w1.alloc (.cells #[.string KT, .slice none 0 0] 27)) = W1 at *
  obtain ⟨g3, hg3⟩ : ∃ g3, w1.heap.size = g3 := ⟨_, rfl⟩
  rw [hg3] at q3b z2 hz1 hb1 ⊢
  have n3 : g3 ≠ b := by omega
  have n23 : g2 ≠ g3 := by omega
  have HG3 : Hid (g2 + 1 ≤ g3) := hz1
  clear hg3 hz1 hb1
  refine (yc _ c2).mono ?_
  rintro e w3 ⟨rfl, c3, k3⟩
  have q2c := q2b.keep k3 n2
  have q3c := q3b.keep k3 n3
  have K3 := K2.trans k3
  have hz3 : g3 + 1 ≤ w3.heap.size := by have := k3.size; omega
  clear yc k3 q2b q3b K2 c2 z2
  by_cases hCE : CE = 0
  case neg =>
    obtain ⟨hN0, hv⟩ := HBad.out hCE
    have HV : Hid (rX zOb rOb s a x = (zOb, CA, CE)) := hv
    have e1 : (CE != 0) = true := by simpa using hCE
    subst hN0
    have cZ := c3
    have q2Z := q2c
    have KZ := K3
    clear HBad HOk0 HM hv hCE q3c hz3 c3 q2c K3
    go_wp2_with fail
    refine wp_loop_rounds 1 ?_
    rw [rounds_succ]
    have ye := err_any cZ
    obtain ⟨u0, u1, f0, f1⟩ := q2Z.cells
    go_wp2_with fail
    refine ye.mono ?_
    rintro e wz ⟨rfl, rfl⟩
    clear ye
    go_wp2
    refine bodyPost_ret (retOb rfl _ _ _ rfl (q2Z.put (.string ⟨#[]⟩) (.slice none 0 0))) rfl ?_
    exact HE.out _ _ _ _ HV.out rfl (cZ.keep (put2_keep _ _ _ _) (fun e => n2 e.symm)) (KZ.step1 (put2_keep _ _ _ _) (by have := HG2.out; omega))
  subst hCE
  obtain ⟨hn0, hn16, hv⟩ := HOk0.out rfl
  obtain ⟨R, hR⟩ : ∃ z, liftS [] (rSibs N none s CA) = z := ⟨_, rfl⟩
  rw [hR] at hv
  have HOb : Hid (rX zOb rOb s a x = if R.2.2 = 0 then ((⟨KT, R.1⟩ : Ob), R.2) else (zOb, R.2)) := hv
  have HN16 : Hid (N ≤ 16) := hn16
  have HL0 : Hid (LoopO s N 0 [] CA 0 R) := .inl ⟨rfl, rfl, by rw [Nat.sub_zero]; exact hR.symm, (fun p hp => by cases hp)⟩
  have hN' : (N : Int) ≤ 9223372036854775807 := by omega
  have HC3 : Hid (Cur w3 b s CA 0) := c3
  have HQ2a : Hid (DAt w3 g2 (.string ⟨#[]⟩) (.slice none 0 0)) := q2c
  have HQ3a : Hid (DAt w3 g3 (.string KT) (.slice none 0 0)) := q3c
  have HK3 : Hid (Keep1 b w w3) := K3
  have HZ3 : Hid (g3 + 1 ≤ w3.heap.size) := hz3
  clear HBad HOk0 hv hR hn0 hn16 c3 q2c q3c K3 hz3
  go_wp2_with fail
  go_loopw [10] (fun i wr => ∃ (k : Nat) (O : List Pl) (A : Int) (v : Value), i = .int .i64 (k : Int) ∧ k ≤ N ∧ Hid (Cur wr b s A 0) ∧ Hid (DAt wr g2 (.string ⟨#[]⟩) (.slice none 0 0)) ∧ Hid (DAt wr g3 (.string KT) v) ∧ Hid (OwnP (g3 + 1) wr v O) ∧ Hid (Keep1 b w wr) ∧ Hid (g3 + 1 ≤ wr.heap.size) ∧ Hid (LoopO s N k O A 0 R) ∧ Hid (∀ p ∈ O, Ok15 p.x)) (fun i _ => N - (intOf i).toNat)
  case atStart => exact ⟨0, [], CA, _, rfl, Nat.zero_le _, HC3, HQ2a, HQ3a, OwnP.nil _ _, HK3, HZ3, HL0, (fun _ h => by cases h)⟩
  case round =>
    obtain ⟨k, O, A, v, rfl, hk, HCu, HQ2, HQ3, HO, HKw, HZw, HRel, HO15⟩ := hrel
    clear HC3 HQ2a HQ3a HK3 HZ3 HL0
    obtain ⟨ao, cap, ev, hRow, hOwn, hcap, hcap2⟩ := row_of_own plT.len plT.pos HO.out.row
    subst ev
    clear hRow hOwn
    obtain ⟨hl, hR2, hOk⟩ : O.length = k ∧ R = liftS (O.map Pl.x) (rSibs (N - k) (pvk (O.map Pl.x) k) s A) ∧ ∀ p ∈ O, sCheck p.x = 0 ∧ FitsS p.x := by
      rcases HRel.out with ⟨_, h⟩ | ⟨h, _⟩
      · exact h
      · exact absurd rfl h
    by_cases hlt : k < N
    case neg =>
      have ek : k = N := by omega
      have HV : Hid (rX zOb rOb s a x = (⟨KT, O.map Pl.x⟩, A, 0)) := by
        show _ = _
        rw [ek, Nat.sub_self, sibs_zero] at hR2
        rw [HOb.out, hR2]
        exact if_pos rfl
      obtain ⟨ao', cap', e3, hNL, _, _⟩ := HO.out.newL
      cases e3
      have HNL : Hid (NewL (g3 + 1) wr ao O) := hNL
      have i1 : ¬ (k : Int) < N := by omega
      obtain ⟨u0, u1, f0, f1⟩ := HQ2.out.cells
      obtain ⟨t0, t1, h0, h1⟩ := HQ3.out.cells
      have HCP : Hid (O.length ≤ cap ∧ cap ≤ maxLen) := ⟨hcap, hcap2⟩
      have ye := err_any HCu.out
      clear hcap hcap2 hl hR2 hOk hNL ek
      go_wp2_with fail
      refine ye.mono ?_
      rintro e wz ⟨rfl, rfl⟩
      clear ye
      go_wp2
      refine bodyPost_ret (retOb rfl _ _ _ rfl (HQ2.out.put (.string KT) (.slice ao O.length cap))) rfl ?_
      refine HM.out _ _ _ _ _ O ao cap HV.out rfl (HCu.out.keep (put2_keep _ _ _ _) (fun e => n2 e.symm)) ?_ HCP.out (HKw.out.step1 (put2_keep _ _ _ _) (by have := HG2.out; omega))
      exact (HNL.out.keep (put2_keep _ _ _ _) (fun g hg e => by have := HG3.out; omega)).lower (by have := HG2.out; have := HG3.out; omega)
    have hcur := HCu.out
    have yt := take15 hcur
    rw [rX_yes] at yt
    obtain ⟨⟨X, A1, E1⟩, hRS⟩ : ∃ z, rSib s A = z := ⟨_, rfl⟩
    rw [hRS] at yt
    have hok : E1 = 0 → (sCheck X = 0 ∧ FitsS X) ∧ Ok15 X := by
      intro e
      have h := (sib_codec.read hcur.lo hcur.hi (by rw [hRS]; exact e)).1
      rw [hRS] at h
      exact ⟨⟨(okSib_U.1 h).1, okSib_fit h⟩, h.ok⟩
    have ok15 : Ok15 X := by
      by_cases e : E1 = 0
      · exact (hok e).2
      · have hb := rsib_bad (s := s) (a := A) (by rw [hRS]; exact e)
        rw [hRS] at hb
        have hb : X = zSb := hb
        rw [hb]
        exact zSb_ok
    obtain ⟨D, hD⟩ : ∃ D, ordA (lastK (O.map Pl.x)) X.k = D := ⟨_, rfl⟩
    obtain ⟨E2, hE2⟩ : ∃ z, cFail E1 D = z := ⟨_, rfl⟩
    have hnext : (E2 ≠ 0 → R = ([], A1, E2)) ∧ (E2 = 0 → ∀ vo vc po pc, LoopO s N (k + 1) (O ++ [⟨X, vo, vc, po, pc⟩]) A1 0 R) := by
      by_cases e : E1 = 0
      · have hX := (hok e).1
        subst e
        have eD : E2 = D := by rw [← hE2]; rfl
        have hf : fTest (pvk (O.map Pl.x) k) X = D := by
          rw [← hD]
          exact fT_ord (by rw [List.length_map]; exact hl) (fun y hy => by obtain ⟨p, hp, rfl⟩ := List.mem_map.1 hy; exact (hOk p hp).1) hX.1
        subst eD
        refine ⟨fun hne => ?_, fun h0 vo vc po pc => LoopO.up (p := ⟨X, vo, vc, po, pc⟩) hlt hl hR2 hOk hRS hX (by rw [hf]; exact h0)⟩
        have h6 : E2 = 6 := by
          rw [← hf] at hne ⊢
          unfold fTest at hne ⊢
          split at hne
          · rename_i hh; rw [if_pos hh]
          · exact absurd rfl hne
        rw [h6]
        exact sb_down hlt hR2 hRS (by rw [hf]; exact h6)
      · have eE : E2 = E1 := by rw [← hE2]; exact fail_no16 e
        rw [eE]
        exact ⟨fun _ => sb_bad hlt hR2 hRS e, fun h => absurd h e⟩
    have HN1 : Hid (E2 ≠ 0 → R = ([], A1, E2)) := hnext.1
    have HN2 : Hid (E2 = 0 → E1 = 0 ∧ ∀ vo vc po pc, LoopO s N (k + 1) (O ++ [⟨X, vo, vc, po, pc⟩]) A1 0 R) := fun e => ⟨by
      refine Decidable.byContradiction fun hne => ?_
      rw [← hE2, fail_no16 hne] at e
      exact hne e, hnext.2 e⟩
    have H15 : Hid (Ok15 X) := ok15
    have yo : ∀ W (_ : OwnP (g3 + 1) W (.slice ao O.length cap) O) vo vc po pc, SibIn W vo po pc X → Calls Tryz.prog 69 #[.slice ao O.length cap, .agg #[.slice vo X.k.c.length vc, .bool X.k.d, .string X.k.x.a, .int .u64 (X.k.x.n : Int), .slice po X.m.length pc, .bool X.d, .string X.v]] W fun e w' => e = .returned (.int .i64 D) ∧ Keep0 W w' := by
      intro W hOW vo vc po pc hI
      obtain ⟨ao', cap', e3, hNL, _, _⟩ := hOW.newL
      cases e3
      have h := order16 W ao cap (O.map Pl.x) vo vc po pc X (by rw [List.length_map]; have := HN16.out; unfold maxLen; omega) (fun y hy => by obtain ⟨p, hp, rfl⟩ := List.mem_map.1 hy; exact HO15.out p hp) ok15 hNL.at_.sibs hI.ens
      rw [List.length_map, hD] at h
      exact h
    have yf := fun W (h : Cur W b s A1 E1) => fail_any D h
    rw [hE2] at yf
    have ye := fun W (h : Cur W b s A1 E2) => err_any h
    have i1 : (k : Int) < N := by omega
    have hl16 : O.length ≤ 16 := by have := HN16.out; omega
    have HL16 : Hid (O.length ≤ 16) := hl16
    clear hcur hRS hR2 hOk hok HRel hl hnext hD hE2 ok15 hl16 hcap hcap2
    go_wp2_with fail
    refine yt.mono ?_
    rintro e w1 ⟨vo, vc, po, pc, rfl, c1, hI, hF1, hF2, k1⟩
    replace c1 : Cur w1 b s A1 E1 := c1
    replace hI : SibIn w1 vo po pc X := hI
    dsimp only
    have K1 := HKw.out.trans k1
    have hg6 : ¬ w1.heap.size = b := by have := c1.lt; omega
    have kA : Keep0 w1 (w1.alloc (.cells #[.slice vo X.k.c.length vc, .bool X.k.d, .string X.k.x.a, .int .u64 (X.k.x.n : Int), .slice po X.m.length pc, .bool X.d, .string X.v] 61)) := (Keep.refl _ w1).alloc _
    have hx6 := sib_new w1 61 X vo vc po pc
    have c2 := c1.keep0 kA
    have q2b := (HQ2.out.keep k1 n2).keep0 kA
    have q3b := (HQ3.out.keep k1 n3).keep0 kA
    have oB := (HO.out.keep k1 (fun g hg e => by have := HB.out; have := HG2.out; have := HG3.out; omega)).keep0 kA
    have iB := hI.keep0 kA
    have K2 := K1.step0 kA
    have z2 : g3 + 1 ≤ (w1.alloc (.cells #[.slice vo X.k.c.length vc, .bool X.k.d, .string X.k.x.a, .int .u64 (X.k.x.n : Int), .slice po X.m.length pc, .bool X.d, .string X.v] 61)).heap.size := by have := kA.size; have := k1.size; have := HZw.out; omega
    have HFv : Hid (∀ g off m, vo = some ⟨g, off, m⟩ → g3 + 1 ≤ g ∧ (X.k.c.length = 0 ∨ Value.ownBlock (.slice ao O.length cap) ≠ some g)) := fun g off m e => ⟨by have := hF1 g off m e; have := HZw.out; omega, .inr (fun e2 => by have := (HO.out.lt g e2).2; have := hF1 g off m e; omega)⟩
    have HFp : Hid (∀ g off m, po = some ⟨g, off, m⟩ → g3 + 1 ≤ g ∧ (X.m.length = 0 ∨ Value.ownBlock (.slice ao O.length cap) ≠ some g)) := fun g off m e => ⟨by have := hF2 g off m e; have := HZw.out; omega, .inr (fun e2 => by have := (HO.out.lt g e2).2; have := hF2 g off m e; omega)⟩
    obtain ⟨x0, x1, x2, x3, x4, x5, x6⟩ := hx6
    obtain ⟨t0, t1, h0, h1⟩ := q3b.cells
    have yo := yo _ oB vo vc po pc iB
    have HOb2 : Hid (OwnP (g3 + 1) (w1.alloc (.cells #[.slice vo X.k.c.length vc, .bool X.k.d, .string X.k.x.a, .int .u64 (X.k.x.n : Int), .slice po X.m.length pc, .bool X.d, .string X.v] 61)) (.slice ao O.length cap) O) := oB
    have HIb : Hid (SibIn (w1.alloc (.cells #[.slice vo X.k.c.length vc, .bool X.k.d, .string X.k.x.a, .int .u64 (X.k.x.n : Int), .slice po X.m.length pc, .bool X.d, .string X.v] 61)) vo po pc X) := iB
    have HQ2b : Hid (DAt (w1.alloc (.cells #[.slice vo X.k.c.length vc, .bool X.k.d, .string X.k.x.a, .int .u64 (X.k.x.n : Int), .slice po X.m.length pc, .bool X.d, .string X.v] 61)) g2 (.string ⟨#[]⟩) (.slice none 0 0)) := q2b
    have HQ3b : Hid (DAt (w1.alloc (.cells #[.slice vo X.k.c.length vc, .bool X.k.d, .string X.k.x.a, .int .u64 (X.k.x.n : Int), .slice po X.m.length pc, .bool X.d, .string X.v] 61)) g3 (.string KT) (.slice ao O.length cap)) := q3b
    have HKb : Hid (Keep1 b w (w1.alloc (.cells #[.slice vo X.k.c.length vc, .bool X.k.d, .string X.k.x.a, .int .u64 (X.k.x.n : Int), .slice po X.m.length pc, .bool X.d, .string X.v] 61))) := K2
    have HZb : Hid (g3 + 1 ≤ (w1.alloc (.cells #[.slice vo X.k.c.length vc, .bool X.k.d, .string X.k.x.a, .int .u64 (X.k.x.n : Int), .slice po X.m.length pc, .bool X.d, .string X.v] 61)).heap.size) := z2
    have HCb : Hid (Cur (w1.alloc (.cells #[.slice vo X.k.c.length vc, .bool X.k.d, .string X.k.x.a, .int .u64 (X.k.x.n : Int), .slice po X.m.length pc, .bool X.d, .string X.v] 61)) b s A1 E1) := c2
    clear yt k1 hF1 hF2 hI K1 kA c1 c2 HQ2 HQ3 HO HKw HZw HCu oB iB q2b q3b K2 z2
    go_wp2_with fail
    generalize (w1.alloc (.cells #[.slice vo X.k.c.length vc, .bool X.k.d, .string X.k.x.a, .int .u64 (X.k.x.n : Int), .slice po X.m.length pc, .bool X.d, .string X.v] 61)) = W2 at *
    generalize w1.heap.size = g6 at *
    refine yo.mono ?_
    rintro e w4 ⟨rfl, k4⟩
    have y0 := k4.cell x0 (fun f => f)
    have y1 := k4.cell x1 (fun f => f)
    have y2 := k4.cell x2 (fun f => f)
    have y3 := k4.cell x3 (fun f => f)
    have y4 := k4.cell x4 (fun f => f)
    have y5 := k4.cell x5 (fun f => f)
    have y6 := k4.cell x6 (fun f => f)
    have c4 := HCb.out.keep0 k4
    have q24 := HQ2b.out.keep0 k4
    have q34 := HQ3b.out.keep0 k4
    have o4 := HOb2.out.keep0 k4
    have i4 := HIb.out.keep0 k4
    have K4 := HKb.out.step0 k4
    have z4 : g3 + 1 ≤ w4.heap.size := by have := k4.size; have := HZb.out; omega
    have yf := yf _ c4
    clear yo k4 x0 x1 x2 x3 x4 x5 x6 t0 t1 h0 h1 HCb HQ2b HQ3b HOb2 HIb HKb HZb c4
    go_wp2_with fail
    refine yf.mono ?_
    rintro e wc ⟨rfl, c5, k5⟩
    have nB : ∀ g, g3 + 1 ≤ g → ¬ g = b := fun g hg e => by have := HB.out; have := HG2.out; have := HG3.out; omega
    replace y0 := k5.cell y0 hg6
    replace y1 := k5.cell y1 hg6
    replace y2 := k5.cell y2 hg6
    replace y3 := k5.cell y3 hg6
    replace y4 := k5.cell y4 hg6
    replace y5 := k5.cell y5 hg6
    replace y6 := k5.cell y6 hg6
    have q2V := q24.keep k5 n2
    have q3V := q34.keep k5 n3
    have oV := o4.keep k5 nB
    have iV : SibIn wc vo po pc X := ⟨i4.ens.keep k5 (fun g off m e => nB g (HFv.out g off m e).1), i4.prs.keep k5 (fun g off m e => nB g (HFp.out g off m e).1), i4.room⟩
    have KV := K4.trans k5
    have hzV : g3 + 1 ≤ wc.heap.size := by have := k5.size; omega
    have ye1 := ye _ c5
    clear yf k5 q24 q34 o4 i4 K4 z4
    by_cases hE2 : E2 = 0
    case neg =>
      have HV : Hid (rX zOb rOb s a x = (zOb, A1, E2)) := by
        show _ = _
        rw [HOb.out, HN1.out hE2]
        exact if_neg hE2
      have e1 : (E2 != 0) = true := by simpa using hE2
      have cZ := c5
      have q2Z := q2V
      have KZ := KV
      clear HN1 HN2 HM HFv HFp H15 y0 y1 y2 y3 y4 y5 y6 q2V q3V oV iV KV hzV c5 hE2 ye nB
      go_wp2_with fail
      refine ye1.mono ?_
      rintro e wy ⟨rfl, rfl⟩
      clear ye1
      have ye := err_any cZ
      obtain ⟨u0, u1, f0, f1⟩ := q2Z.cells
      go_wp2_with fail
      refine ye.mono ?_
      rintro e wz ⟨rfl, rfl⟩
      clear ye
      go_wp2
      refine bodyPost_ret (retOb rfl _ _ _ rfl (q2Z.put (.string ⟨#[]⟩) (.slice none 0 0))) rfl ?_
      exact HE.out _ _ _ _ HV.out rfl (cZ.keep (put2_keep _ _ _ _) (fun e => n2 e.symm)) (KZ.step1 (put2_keep _ _ _ _) (by have := HG2.out; omega))
    obtain ⟨hE1, hup⟩ := HN2.out hE2
    subst hE2
    have HD : Hid (LoopO s N (k + 1) (O ++ [⟨X, vo, vc, po, pc⟩]) A1 0 R) := hup vo vc po pc
    have HO15' : Hid (∀ p ∈ O ++ [(⟨X, vo, vc, po, pc⟩ : Pl)], Ok15 p.x) := by
      intro p hp
      rcases List.mem_append.1 hp with hp | hp
      · exact HO15.out p hp
      · rw [List.mem_singleton.1 hp]; exact H15.out
    obtain ⟨p0, p1, ph0, ph1⟩ := q3V.cells
    have kS : Keep0 wc (wc.alloc (.cells #[.slice vo X.k.c.length vc, .bool X.k.d, .string X.k.x.a, .int .u64 (X.k.x.n : Int), .slice po X.m.length pc, .bool X.d, .string X.v] 61)) := (Keep.refl _ wc).alloc _
    have hsrc := pl_new wc 61 ⟨X, vo, vc, po, pc⟩
    have oVA := oV.keep0 kS
    have hrow := oVA.row
    have hB2 : g3 + 1 ≤ (wc.alloc (.cells #[.slice vo X.k.c.length vc, .bool X.k.d, .string X.k.x.a, .int .u64 (X.k.x.n : Int), .slice po X.m.length pc, .bool X.d, .string X.v] 61)).heap.size := by have := kS.size; omega
    have hlen : O.length + [(⟨X, vo, vc, po, pc⟩ : Pl)].length ≤ 1000000 := by show _ + 1 ≤ _; have := HL16.out; omega
    have HcV : Hid (Cur (wc.alloc (.cells #[.slice vo X.k.c.length vc, .bool X.k.d, .string X.k.x.a, .int .u64 (X.k.x.n : Int), .slice po X.m.length pc, .bool X.d, .string X.v] 61)) b s A1 0) := c5.keep0 kS
    have HqV : Hid (DAt (wc.alloc (.cells #[.slice vo X.k.c.length vc, .bool X.k.d, .string X.k.x.a, .int .u64 (X.k.x.n : Int), .slice po X.m.length pc, .bool X.d, .string X.v] 61)) g2 (.string ⟨#[]⟩) (.slice none 0 0)) := q2V.keep0 kS
    have HrV : Hid (DAt (wc.alloc (.cells #[.slice vo X.k.c.length vc, .bool X.k.d, .string X.k.x.a, .int .u64 (X.k.x.n : Int), .slice po X.m.length pc, .bool X.d, .string X.v] 61)) g3 (.string KT) (.slice ao O.length cap)) := q3V.keep0 kS
    have HoV : Hid (OwnP (g3 + 1) (wc.alloc (.cells #[.slice vo X.k.c.length vc, .bool X.k.d, .string X.k.x.a, .int .u64 (X.k.x.n : Int), .slice po X.m.length pc, .bool X.d, .string X.v] 61)) (.slice ao O.length cap) O) := oVA
    have HiV : Hid (SibIn (wc.alloc (.cells #[.slice vo X.k.c.length vc, .bool X.k.d, .string X.k.x.a, .int .u64 (X.k.x.n : Int), .slice po X.m.length pc, .bool X.d, .string X.v] 61)) vo po pc X) := iV.keep0 kS
    have HKV : Hid (Keep1 b w (wc.alloc (.cells #[.slice vo X.k.c.length vc, .bool X.k.d, .string X.k.x.a, .int .u64 (X.k.x.n : Int), .slice po X.m.length pc, .bool X.d, .string X.v] 61))) := KV.step0 kS
    have HzV : Hid (g3 + 1 ≤ (wc.alloc (.cells #[.slice vo X.k.c.length vc, .bool X.k.d, .string X.k.x.a, .int .u64 (X.k.x.n : Int), .slice po X.m.length pc, .bool X.d, .string X.v] 61)).heap.size) := hB2
    clear c5 q2V q3V oV iV KV hzV nB oVA kS HN1 HN2 HO15 H15 hup ye hE1
    go_wp2_with fail
    refine ye1.mono ?_
    rintro e wy ⟨rfl, rfl⟩
    clear ye1
    go_wp2_with (at_builtin; refine wpList_append_row_at plT rfl _ _ rfl rfl rfl hrow hsrc hB2 hlen ?_)
    intro v' w4 g1 g4 g5
    have g1 : w4.ownsRow (g3 + 1) 61 7 v' (O ++ [(⟨X, vo, vc, po, pc⟩ : Pl)]).length (rowOf Pl.cells (O ++ [(⟨X, vo, vc, po, pc⟩ : Pl)])) := by first | exact g1 | (rw [List.length_append]; exact g1)
    have o4 := HoV.out.more (p := ⟨X, vo, vc, po, pc⟩) HiV.out HFv.out HFp.out g1 g4 (by first | exact g5 | (rw [World.size_alloc]; exact g5))
    obtain ⟨ao5, an5, ac5, rfl⟩ := sliceE_of_own g1
    have k4 := keep_grown g4
    have hn4 : ∀ g, Value.ownBlock (.slice ao O.length cap) = some g → g3 + 1 ≤ g := fun g e => (HoV.out.lt g e).1
    have c4 := HcV.out.keep k4 (fun e => by have := hn4 _ e; have := HB.out; have := HG2.out; have := HG3.out; omega)
    have q4 := HqV.out.keep k4 (fun e => by have := hn4 _ e; have := HG3.out; omega)
    have r4 := HrV.out.keep k4 (fun e => by have := hn4 _ e; omega)
    have K4 := HKV.out.step k4 (fun i hi e => by have := hn4 _ e; have := HG2.out; have := HG3.out; omega)
    have z4 : g3 + 1 ≤ w4.heap.size := by have := g4.size; have := HzV.out; omega
    have k5 : Keep1 g3 w4 (w4.setCell ⟨g3, 1, none⟩ (.slice ao5 an5 ac5)) := set_keep1 _ _ _ _
    have HC5 : Hid (Cur (w4.setCell ⟨g3, 1, none⟩ (.slice ao5 an5 ac5)) b s A1 0) := c4.keep k5 (fun e => n3 e.symm)
    have HQ5 : Hid (DAt (w4.setCell ⟨g3, 1, none⟩ (.slice ao5 an5 ac5)) g2 (.string ⟨#[]⟩) (.slice none 0 0)) := q4.keep k5 n23
    have HR5 : Hid (DAt (w4.setCell ⟨g3, 1, none⟩ (.slice ao5 an5 ac5)) g3 (.string KT) (.slice ao5 an5 ac5)) := r4.set1 _
    have HO5 : Hid (OwnP (g3 + 1) (w4.setCell ⟨g3, 1, none⟩ (.slice ao5 an5 ac5)) (.slice ao5 an5 ac5) (O ++ [⟨X, vo, vc, po, pc⟩])) := o4.keep k5 (fun g hg e => by omega)
    have HK5 : Hid (Keep1 b w (w4.setCell ⟨g3, 1, none⟩ (.slice ao5 an5 ac5))) := K4.step1 k5 (by have := HG2.out; have := HG3.out; omega)
    have HZ5 : Hid (g3 + 1 ≤ (w4.setCell ⟨g3, 1, none⟩ (.slice ao5 an5 ac5)).heap.size) := by show _ ≤ _; have := k5.size; omega
    obtain ⟨p0, p1, ph0, ph1⟩ := r4.cells
    clear g1 g4 g5 o4 k4 hn4 c4 q4 r4 K4 z4 k5 hsrc hrow hB2 hlen y0 y1 y2 y3 y4 y5 y6 HcV HqV HrV HoV HiV HKV HzV HFv HFp
    go_wp2
    go_roundw
    case rel => exact ⟨k + 1, O ++ [⟨X, vo, vc, po, pc⟩], A1, _, by go_num, by omega, HC5, HQ5, HR5, HO5, HK5, HZ5, HD, HO15'⟩
    case measure => simp [intOf]; omega
end Go.Proofs.YtoefibkhlhmlfaaGreat
