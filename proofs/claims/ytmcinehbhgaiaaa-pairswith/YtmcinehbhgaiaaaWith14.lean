/-
  The walk of the law PairsWith, out of what package pairs' functions answer (PairCode) and of the document's own answers.
  Conditions: none beyond that the arguments can be read as data.
-/
import Derived.Test.YtmcinehbhgaiaaaLaw14
import Derived.BigQuiet
namespace Go.Proofs.Ytmcinehbhgaiaaa
open Go.RowKit

theorem val_step {l : List Pr} {s : ByteArray} {j : Nat} (h : j < l.length) : qVal (l.drop j) s = if l[j].n = s then some l[j].v else qVal (l.drop (j + 1)) s := by
  rw [List.drop_eq_getElem_cons h, qVal_cons]
theorem rev_step {m : List Pr} {j : Nat} (h : j < m.length) : (m.drop j).reverse = (m.drop (j + 1)).reverse ++ [m[j]] := by
  rw [List.drop_eq_getElem_cons h, List.reverse_cons]
theorem last_in {m : List Pr} {s : ByteArray} {j : Nat} (h : j < m.length) (h0 : qVal (m.drop (j + 1)).reverse s = none) (h1 : m[j].n = s) : lastV m s = some m[j].v := by
  unfold lastV
  have e : m.reverse = (m.drop (j + 1)).reverse ++ ([m[j]] ++ (m.take j).reverse) := by
    rw [← List.append_assoc, ← rev_step h, ← List.reverse_append, List.take_append_drop]
  rw [e, qVal_app, h0]
  show qVal (m[j] :: (m.take j).reverse) s = _
  rw [qVal_cons, if_pos h1]
theorem last_out {m : List Pr} {s : ByteArray} {j : Nat} (h : j < m.length) (h0 : qVal (m.drop (j + 1)).reverse s = none) (h1 : m[j].n ≠ s) : qVal (m.drop j).reverse s = none := by
  rw [rev_step h, qVal_app, h0]
  show qVal [m[j]] s = none
  rw [qVal_cons, if_neg h1]
  rfl
theorem with_val {l more R : List Pr} {s : ByteArray} (h : qWith l more = (R, 0)) : qVal R s = match lastV more s with | some v => some v | none => qVal l s := by
  unfold qWith at h
  by_cases h0 : qCheck l = 0 ∧ oks more = true
  · rw [if_pos h0] at h
    by_cases h8 : 8 < (wAll l more).length
    · rw [if_pos h8] at h; cases h
    · rw [if_neg h8] at h
      cases h
      exact wAll_val more l s
  · rw [if_neg h0] at h; cases h
theorem with_len (l more : List Pr) : (qWith l more).1.length ≤ 8 := by
  unfold qWith
  split
  · split
    · exact Nat.zero_le _
    · show (wAll l more).length ≤ 8; omega
  · exact Nat.zero_le _
theorem with_sizes {l more : List Pr} : ∀ x ∈ (qWith l more).1, x.n.size ≤ maxLen ∧ x.v.size ≤ maxLen := by
  unfold qWith
  split
  · rename_i h
    split
    · intro x hx; cases hx
    · intro x hx
      have := (wAll_good ((qCheck_zero l).1 h.1).2 (oks_iff.1 h.2)).1 x hx
      unfold Pr.ok at this
      unfold maxLen
      omega
  · intro x hx; cases hx
theorem valT_some {l : List Pr} {s v : ByteArray} (h : qVal l s = some v) : valT l s = v ∧ valB l s = true := by unfold valT valB; rw [h]; exact ⟨rfl, rfl⟩
theorem valT_same {l m : List Pr} {s : ByteArray} (h : qVal l s = qVal m s) : valT l s = valT m s ∧ valB l s = valB m s := by unfold valT valB; rw [h]; exact ⟨rfl, rfl⟩
theorem valT_none {l : List Pr} {s : ByteArray} (h : qVal l s = none) : valT l s = ⟨#[]⟩ ∧ valB l s = false := by unfold valT valB; rw [h]; exact ⟨rfl, rfl⟩
set_option maxRecDepth 100000 in
theorem pairsWith_great (V : PairCode) (w : World) (ao : Option Addr) (ca : Nat) (l : List Pr) (fl : FitsP l) (hA : PrsAt w ao l) (bo : Option Addr) (cb : Nat) (more : List Pr) (fm : FitsP more) (hB : PrsAt w bo more) (s : ByteArray) (hs : s.size ≤ maxLen) (h : ¬ (qGreat l = false ∧ qGreat more = false ∧ s.size ≤ 100)) :
    Calls Try.prog 5 #[.slice ao l.length ca, .slice bo more.length cb, .string s] w fun e w' => e = .returned (.bool true) ∧ Keep0 w w' := by
  have ya := fun W (h : PrsAt W ao l) => rgreat14 W ao ca l fl h
  have yb := fun W (h : PrsAt W bo more) => rgreat14 W bo cb more fm h
  have i0 : (s.size : Int) ≤ 9223372036854775807 := by unfold maxLen at hs; omega
  cases ha : qGreat l with
  | true =>
    rw [ha] at ya
    clear h ha yb
    go_enter Try.func5, Try.ntmps5
    go_wp2_with fail
    refine (awake14 V w).mono ?_
    rintro e w1 ⟨rfl, K1⟩
    have ya := ya _ (hA.keep0 K1)
    go_wp2_with fail
    refine ya.mono ?_
    rintro e w2 ⟨rfl, rfl⟩
    clear ya
    go_wp2
    go_ret
    exact ⟨rfl, K1⟩
  | false =>
    rw [ha] at ya
    cases hb : qGreat more with
    | true =>
      rw [hb] at yb
      clear h ha hb
      go_enter Try.func5, Try.ntmps5
      go_wp2_with fail
      refine (awake14 V w).mono ?_
      rintro e w1 ⟨rfl, K1⟩
      have ya := ya _ (hA.keep0 K1)
      have yb := yb _ (hB.keep0 K1)
      go_wp2_with fail
      refine ya.mono ?_
      rintro e w2 ⟨rfl, rfl⟩
      clear ya
      go_wp2_with fail
      refine yb.mono ?_
      rintro e w2 ⟨rfl, rfl⟩
      clear yb
      go_wp2
      go_ret
      exact ⟨rfl, K1⟩
    | false =>
      rw [hb] at yb
      have h1 : (100 : Int) < s.size := by
        have : ¬ s.size ≤ 100 := fun hh => h ⟨ha, hb, hh⟩
        omega
      clear h ha hb
      go_enter Try.func5, Try.ntmps5
      go_wp2_with fail
      refine (awake14 V w).mono ?_
      rintro e w1 ⟨rfl, K1⟩
      have ya := ya _ (hA.keep0 K1)
      have yb := yb _ (hB.keep0 K1)
      go_wp2_with fail
      refine ya.mono ?_
      rintro e w2 ⟨rfl, rfl⟩
      clear ya
      go_wp2_with fail
      refine yb.mono ?_
      rintro e w2 ⟨rfl, rfl⟩
      clear yb
      go_wp2
      go_ret
      exact ⟨rfl, K1⟩
set_option maxRecDepth 100000 in
set_option maxHeartbeats 8000000 in
theorem pairsWith_small (V : PairCode) (w : World) (ao : Option Addr) (ca : Nat) (l : List Pr) (fl : FitsP l) (cl : CapP l ca) (hA : PrsAt w ao l) (bo : Option Addr) (cb : Nat) (more : List Pr) (fm : FitsP more) (cm : CapP more cb) (hB : PrsAt w bo more) (s : ByteArray) (ha : qGreat l = false) (hb : qGreat more = false) (hs : s.size ≤ 100) :
    Calls Try.prog 5 #[.slice ao l.length ca, .slice bo more.length cb, .string s] w fun e w' => e = .returned (.bool true) ∧ Keep0 w w' := by
  have hsm : s.size ≤ maxLen := by unfold maxLen; omega
  have hl20 := (greatq_no ha).1
  have hm20 := (greatq_no hb).1
  have oa : Ok14 l ca := ⟨by omega, fl.2, cl⟩
  have om : Ok14 more cb := ⟨by omega, fm.2, cm⟩
  have i0 : (s.size : Int) ≤ 9223372036854775807 := by omega
  have i1 : ¬ (100 : Int) < s.size := by omega
  have i2 : (l.length : Int) ≤ 9223372036854775807 := by omega
  have i3 : (more.length : Int) ≤ 9223372036854775807 := by omega
  have i4 : IntKind.i64.wrap ((l.length : Int) - 1) = (l.length : Int) - 1 := by rw [IntKind.wrap_i64]; omega
  have i5 : IntKind.i64.wrap ((more.length : Int) - 1) = (more.length : Int) - 1 := by rw [IntKind.wrap_i64]; omega
  have HFR : Hid (FitsP (qWith l more).1) := ⟨by have := with_len l more; unfold maxLen; omega, with_sizes⟩
  have HOR : Hid (∀ c, CapP (qWith l more).1 c → Ok14 (qWith l more).1 c) := fun c h => ⟨by have := with_len l more; omega, with_sizes, h⟩
  have HA : Hid (PrsAt w ao l) := hA
  have HB : Hid (PrsAt w bo more) := hB
  have ya := fun W => rgreat14 W ao ca l fl
  have yb := fun W => rgreat14 W bo cb more fm
  rw [ha] at ya
  rw [hb] at yb
  have yw := fun W p c (h1 : Ok14 l c) (h2 : PrsAt W p l) (h3 : PrsAt W bo more) => V.with' W p c l bo cb more h1 h2 om h3 (by omega)
  have yr := fun W (h2 : PrsAt W ao l) (h3 : PrsAt W bo more) => rwith14 W ao ca l fl h2 bo cb more fm cm h3 (by omega)
  have hss : ∀ z : List Pr, qSame z z = true := fun z => qSame_iff.2 rfl
  have ys := fun W p q cp cq (h1 : PrsAt W p (qWith l more).1) (h2 : PrsAt W q (qWith l more).1) => rsame14 W p q cp cq _ _ HFR.out.1 HFR.out.1 h1 h2
  rw [hss] at ys
  have yo := fun W p c (h1 : PrsAt W p l) (h2 : PrsAt W ao l) => rsame14 W p ao c ca l l fl.1 fl.1 h1 h2
  rw [hss] at yo
  have yc := fun W (h1 : PrsAt W ao l) (h2 : PrsAt W bo more) => V.same W ao ca l bo cb more oa h1 om h2
  have yd := fun W (h1 : PrsAt W ao l) (h2 : PrsAt W bo more) => rsame14 W ao bo ca cb l more fl.1 fm.1 h1 h2
  have yv := fun W (h1 : PrsAt W ao l) => V.value W ao ca l s oa h1 hsm
  have HV : Hid (∀ W p c, PrsAt W p (qWith l more).1 → CapP (qWith l more).1 c → Calls Try.prog 27 #[.slice p (qWith l more).1.length c, .string s] W fun e w' => e = .returned (.tuple #[.string (valT (qWith l more).1 s), .bool (valB (qWith l more).1 s)]) ∧ Keep0 W w') := fun W p c h1 h2 => V.value W p c _ s (HOR.out c h2) h1 hsm
  have HW : Hid (∀ R, qWith l more = (R, 0) → qVal R s = match lastV more s with | some v => some v | none => qVal l s) := fun R h => with_val h
  obtain ⟨RR, hRR⟩ : ∃ RR, qWith l more = RR := ⟨_, rfl⟩
  rw [hRR] at yw yr ys HFR HOR HV HW
  have HL : Hid (∀ c, CapP l c → Ok14 l c) := fun c h => ⟨oa.1, oa.2.1, h⟩
  have HL20 : Hid (([] : List Pr).length + l.length ≤ 1000000) := by show 0 + l.length ≤ _; omega
  clear hRR ha hb hsm hss fl cl fm cm oa om hA hB HFR HOR
  generalize qSame l more = SM at *
  go_enter Try.func5, Try.ntmps5
  go_wp2_with fail
  refine (awake14 V w).mono ?_
  rintro e w1 ⟨rfl, K1⟩
  have ya := ya _ (HA.out.keep0 K1)
  have yb := yb _ (HB.out.keep0 K1)
  go_wp2_with fail
  refine ya.mono ?_
  rintro e w2 ⟨rfl, rfl⟩
  clear ya
  go_wp2_with fail
  refine yb.mono ?_
  rintro e w2 ⟨rfl, rfl⟩
  clear yb
  have kW : Keep0 w1 (w1.alloc (.cells #[] 59)) := (Keep.refl _ w1).alloc _
  have hoW : (w1.alloc (.cells #[] 59)).ownsRow w1.heap.size 59 2 (.slice (some ⟨w1.heap.size, 0, none⟩) 0 0) ([] : List Pr).length (prCells []) :=
    ⟨rfl, .inr ⟨w1.heap.size, 0, #[], rfl, Nat.le_refl _, (MapKept.heap_alloc w1 _).1, Nat.le_refl _, Nat.zero_le _, rfl, rfl⟩⟩
  have xW := HA.out.keep0 (K1.trans kW)
  have zW : w1.heap.size ≤ (w1.alloc (.cells #[] 59)).heap.size := kW.size
  go_wp2_with (at_builtin; refine wpList_append_prs rfl _ _ rfl rfl rfl hoW xW zW HL20.out ?_)
  intro v3 w3 hx3 hg3
  have K3 : Keep0 w w3 := K1.trans (kW.ownGrown hg3 (fun k hk => by cases hk; exact Nat.le_refl _))
  have ho3 : w3.ownsRow w1.heap.size 59 2 v3 l.length (prCells l) := by simpa using hx3
  obtain ⟨oo, oc, rfl, hOe, hOn, hOc⟩ := prs_of_row ho3
  have hcap := rowP_cap ho3
  have yw := yw _ oo oc (HL.out oc hcap) hOe (HB.out.keep0 K3)
  clear kW hoW xW zW HL20 HL hg3 K1 hx3 ho3 hcap hOc hOn
  generalize w1.heap.size = z1b at *
  clear w1
  go_wp2_with fail
  refine yw.mono ?_
  rintro e w4 ⟨go, gc, rfl, hG, hGn, hGc, k4⟩
  have K4 := K3.trans k4
  have O4 := hOe.keep0 k4
  have yr := yr _ (HA.out.keep0 K4) (HB.out.keep0 K4)
  clear yw hGn k4 K3 hOe
  go_wp2_with fail
  refine yr.mono ?_
  rintro e w5 ⟨wo, wc, rfl, hW, hWn, hWc, k5⟩
  have K5 := K4.trans k5
  have O5 := O4.keep0 k5
  have G5 := hG.keep0 k5
  have ys := ys _ go wo gc wc G5 hW
  clear yr hWn hWc k5 K4 O4 hG hW
  go_wp2_with fail
  refine ys.mono ?_
  rintro e w6 ⟨rfl, hw6⟩
  have k6 := keepN hw6
  have K6 := K5.trans k6
  have G6 := G5.keep0 k6
  have yo := yo _ oo oc (O5.keep0 k6) (HA.out.keep0 K6)
  clear ys hw6 k6 K5 O5 G5
  go_wp2_with fail
  refine yo.mono ?_
  rintro e w7 ⟨rfl, hw7⟩
  have k7 := keepN hw7
  have K7 := K6.trans k7
  have G7 := G6.keep0 k7
  have yc := yc _ (HA.out.keep0 K7) (HB.out.keep0 K7)
  clear yo hw7 k7 K6 G6
  go_wp2_with fail
  refine yc.mono ?_
  rintro e w8 ⟨rfl, k8⟩
  have K8 := K7.trans k8
  have G8 := G7.keep0 k8
  have yd := yd _ (HA.out.keep0 K8) (HB.out.keep0 K8)
  clear yc k8 K7 G7
  go_wp2_with fail
  refine yd.mono ?_
  rintro e w9 ⟨rfl, hw9⟩
  have k9 := keepN hw9
  have K9 := K8.trans k9
  have G9 := G8.keep0 k9
  have yv := yv _ (HA.out.keep0 K9)
  clear yd hw9 k9 K8 G8
  go_wp2_with fail
  refine yv.mono ?_
  rintro e wA ⟨rfl, kA⟩
  have KA := K9.trans kA
  have HG : Hid (PrsAt wA go RR.1) := G9.keep0 kA
  have HGc : Hid (CapP RR.1 gc) := hGc
  clear yv kA K9 G9 hGc
  go_wp2_with fail
  have HT0 : Hid (valT (l.drop l.length) s = ⟨#[]⟩ ∧ valB (l.drop l.length) s = false) := valT_none (by rw [List.drop_length]; rfl)
  go_loopw [14, 15, 16] (fun t b i wr => ∃ (k : Nat) (I : Int) (T : ByteArray) (Bo : Bool), i = .int .i64 I ∧ t = .string T ∧ b = .bool Bo ∧ Hid (I = (k : Int) - 1) ∧ k ≤ l.length ∧ Hid (valT (l.drop k) s = T ∧ valB (l.drop k) s = Bo) ∧ Hid (PrsAt wr go RR.1) ∧ Keep0 w wr) (fun _ _ i _ => (intOf i + 1).toNat)
  case atStart => exact ⟨l.length, (l.length : Int) - 1, ⟨#[]⟩, false, by first | rfl | (rw [i4]) | go_num, rfl, rfl, rfl, Nat.le_refl _, HT0, HG, KA⟩
  case round =>
    obtain ⟨k, I, T, Bo, rfl, rfl, rfl, HI, hk, HT, HG1, hK⟩ := hrel
    clear HG KA HT0
    cases k with
    | succ j =>
      have hI : I = (j : Int) := by rw [HI.out]; omega
      subst hI
      have hj : j < l.length := by omega
      have j1 : (0 : Int) ≤ (j : Int) := by omega
      have j2 : (j : Int) < l.length := by omega
      have j3 : IntKind.i64.wrap ((j : Int) - 1) = (j : Int) - 1 := by rw [IntKind.wrap_i64]; omega
      obtain ⟨ab, off, hao, x0', x1'⟩ := HA.out j hj
      have x0 := hK.cell x0' (fun f => f)
      have x1 := hK.cell x1' (fun f => f)
      subst hao
      have hst := val_step (s := s) hj
      clear x0' x1' HI
      by_cases he : l[j].n = s
      · rw [if_pos he] at hst
        have HT2 : Hid (valT (l.drop j) s = l[j].v ∧ valB (l.drop j) s = true) := valT_some hst
        rw [he] at x0
        clear hst HT
        generalize l[j].v = LV at *
        go_wp2
        go_roundw
        case rel => exact ⟨j, (j : Int) - 1, LV, true, by go_num, rfl, rfl, rfl, by omega, HT2, HG1, hK⟩
        case measure => simp [intOf]
      · rw [if_neg he] at hst
        have HT2 : Hid (valT (l.drop j) s = T ∧ valB (l.drop j) s = Bo) := by
          obtain ⟨a1, a2⟩ := valT_same (m := l.drop (j + 1)) hst
          exact ⟨a1.trans HT.out.1, a2.trans HT.out.2⟩
        obtain ⟨e2, e3, e4⟩ := txt_ne he
        have e5 : (l[j].n == s) = false := by rw [beq_toListBytes]; exact e2
        clear hst HT he
        generalize l[j].n = LN at *
        generalize l[j].v = LV at *
        go_wp2
        go_roundw
        case rel => exact ⟨j, (j : Int) - 1, T, Bo, by go_num, rfl, rfl, rfl, by omega, HT2, HG1, hK⟩
        case measure => simp [intOf]
    | zero =>
      have hI : I = -1 := by rw [HI.out]; rfl
      subst hI
      obtain ⟨hT1, hT2⟩ := HT.out
      rw [List.drop_zero] at hT1 hT2
      subst hT1 hT2
      clear HI HT
      by_cases hf : RR.2 = 0
      case neg =>
        have e0 : (RR.2 != 0) = true := by simpa using hf
        generalize RR.2 = F at *
        go_wp2
        go_ret
        exact ⟨rfl, hK⟩
      have HVR : Hid (qVal RR.1 s = match lastV more s with | some v => some v | none => qVal l s) := HW.out RR.1 (Prod.ext rfl hf)
      rw [hf]
      go_wp2_with fail
      have HN0 : Hid (qVal (more.drop more.length).reverse s = none) := by show _ = _; rw [List.drop_length]; rfl
      have hK0 := hK
      have HG0 := HG1
      generalize wr = W0 at *
      go_loopw [17] (fun i wr => ∃ (k : Nat) (I : Int), i = .int .i64 I ∧ Hid (I = (k : Int) - 1) ∧ k ≤ more.length ∧ Hid (qVal (more.drop k).reverse s = none) ∧ Hid (PrsAt wr go RR.1) ∧ Keep0 w wr) (fun i _ => (intOf i + 1).toNat)
      case atStart => exact ⟨more.length, (more.length : Int) - 1, by first | rfl | (rw [i5]) | go_num, rfl, Nat.le_refl _, HN0, HG0, hK0⟩
      case round =>
        obtain ⟨k, I, rfl, HI, hk2, HN, HG2, hK2⟩ := hrel
        clear HN0 hK hK0 HG1 HG0
        cases k with
        | succ j =>
          have hI : I = (j : Int) := by rw [HI.out]; omega
          subst hI
          have hj : j < more.length := by omega
          have j1 : (0 : Int) ≤ (j : Int) := by omega
          have j2 : (j : Int) < more.length := by omega
          have j3 : IntKind.i64.wrap ((j : Int) - 1) = (j : Int) - 1 := by rw [IntKind.wrap_i64]; omega
          obtain ⟨ab, off, hbo, x0', x1'⟩ := HB.out j hj
          have x0 := hK2.cell x0' (fun f => f)
          have x1 := hK2.cell x1' (fun f => f)
          subst hbo
          clear HI
          by_cases he : more[j].n = s
          · have hvr := HVR.out
            rw [last_in hj HN.out he] at hvr
            obtain ⟨a1, a2⟩ := valT_some hvr
            have yz := HV.out _ go gc HG2.out HGc.out
            rw [a1, a2] at yz
            rw [he] at x0
            have HX1 : Hid (w.cell? ⟨ab, off + j * 2 + 1, none⟩ = some (.string more[j].v)) := x1'
            clear hvr a1 a2 x0' x1' x1
            generalize more[j].v = MV at *
            go_wp2_with fail
            refine yz.mono ?_
            rintro e wC ⟨rfl, kC⟩
            have KC := hK2.trans kC
            have x1 := KC.cell HX1.out (fun f => f)
            clear yz kC hK2 x0
            go_wp2
            go_ret
            exact ⟨rfl, KC⟩
          · have HN2 : Hid (qVal (more.drop j).reverse s = none) := last_out hj HN.out he
            obtain ⟨e2, e3, e4⟩ := txt_ne he
            have e5 : (more[j].n == s) = false := by rw [beq_toListBytes]; exact e2
            clear HN he x0' x1'
            generalize more[j].n = LN at *
            generalize more[j].v = LV at *
            go_wp2
            go_roundw
            case rel => exact ⟨j, (j : Int) - 1, by go_num, rfl, by omega, HN2, HG2, hK2⟩
            case measure => simp [intOf]
        | zero =>
          have hI : I = -1 := by rw [HI.out]; rfl
          subst hI
          have hn := HN.out
          rw [List.drop_zero] at hn
          have hvr := HVR.out
          have hla : lastV more s = none := hn
          rw [hla] at hvr
          obtain ⟨a1, a2⟩ := valT_same (m := l) hvr
          have yz := HV.out _ go gc HG2.out HGc.out
          rw [a1, a2] at yz
          clear HI hn hvr hla a1 a2 HN
          generalize valT l s = VT at *
          generalize valB l s = VB at *
          go_wp2_with fail
          refine yz.mono ?_
          rintro e wC ⟨rfl, kC⟩
          have KC := hK2.trans kC
          clear yz kC hK2
          go_wp2
          go_ret
          exact ⟨by simp, KC⟩
theorem pairsWith_law (V : PairCode) (w : World) (ao : Option Addr) (ca : Nat) (l : List Pr) (fl : FitsP l) (cl : CapP l ca) (hA : PrsAt w ao l) (bo : Option Addr) (cb : Nat) (more : List Pr) (fm : FitsP more) (cm : CapP more cb) (hB : PrsAt w bo more) (s : ByteArray) (hs : s.size ≤ maxLen) :
    Calls Try.prog 5 #[.slice ao l.length ca, .slice bo more.length cb, .string s] w fun e w' => e = .returned (.bool true) ∧ Keep0 w w' := by
  by_cases h : qGreat l = false ∧ qGreat more = false ∧ s.size ≤ 100
  · exact pairsWith_small V w ao ca l fl cl hA bo cb more fm cm hB s h.1 h.2.1 h.2.2
  · exact pairsWith_great V w ao ca l fl hA bo cb more fm hB s hs h
end Go.Proofs.Ytmcinehbhgaiaaa
