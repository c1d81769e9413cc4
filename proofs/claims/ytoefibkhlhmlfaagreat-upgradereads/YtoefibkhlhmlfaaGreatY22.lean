/-
  What this seat's claims lean on of the texts RefOld5.
  Conditions: as each theorem states.
-/
import Derived.WalkKit
import Derived.ProofKit
import Derived.Below
import Derived.Deep.Draws
import Derived.Deep.RegionHeld
import Derived.Test.YtoefibkhlhmlfaaGreatChecked
import Derived.OpenShut
import Derived.ShutString
import Derived.WalkSpells
import Derived.WalkLawsBesides
import Derived.Deep.QuietTactic
import Derived.BigQuiet
import Derived.Laws.Bits64b
import Derived.PlainAid
import Derived.Lib.AppendStr
import Derived.Deep.AppendLies
import Derived.Laws.IdiomStrings
import Derived.Laws.BytesArg
import Derived.Deep.RegionWith
import Derived.Laws.AppendOwn
import Derived.Deep.DeepAppendWide
import Derived.Deep.Upon
import Derived.Maps.AppendAt
import Derived.Deep.Slices
import Derived.Laws.Rows
import Derived.Test.YtoefibkhlhmlfaaGreatY19
import Derived.Test.YtoefibkhlhmlfaaGreatY21
import Derived.Test.YtoefibkhlhmlfaaGreatY13
namespace Go.Proofs.YtoefibkhlhmlfaaGreat
open Go.RowKit
theorem retOl2 {fn : Func} {p u : Tmp} (h : fn.results = #[.cell p 24, .tmp u]) (tmps : Array Value) (w : World) (g : Nat) {v0 v1 : Value}
    (hp : tmps.getD p undef = .pointer (some ⟨g, 0, none⟩)) (hg : DAt w g v0 v1) : (results fn tmps).run Tryz.prog w = .ok (.tuple #[.agg #[v0, v1], tmps.getD u undef]) w := by
  obtain ⟨ty, hk⟩ := hg.blk
  have hp' : tmps[p]?.getD undef = .pointer (some ⟨g, 0, none⟩) := by simpa using hp
  have hl := run_loadVar_row w g ty 24 _ _ _ hk Tryz.underlying24 rfl (by kernel_rfl)
  simp [results, h, hp', asAddr, hl]
theorem bTxt_le17 (s : ByteArray) (a x m : Int) : (bTxt s a x m).size ≤ s.size := by
  unfold bTxt cBytes
  split
  · unfold cut
    rw [ByteArray.size_extract]
    omega
  · exact Nat.zero_le _
theorem cEnd_zero17 {s : ByteArray} {a e : Int} (h : cEnd s a e = 0) : e = 0 := by
  unfold cEnd cFail at h
  split at h
  · split at h
    · assumption
    · exact h
  · exact h
theorem ROlE.mk {p : Ol × Int} {w w' : World} {e : Ending} {K : ByteArray} {L : List Po} {ao : Option Addr} {cap : Nat} (hp : p = (⟨K, L.map Po.x⟩, 0)) (h : e = .returned (.tuple #[.agg #[.string K, .slice ao L.length cap], .int .i64 0])) (h1 : L.length ≤ cap) (h2 : cap ≤ maxLen) (h3 : PosAt w' ao L) (h4 : Keep0 w w') : ROlE p w e w' := by
  subst hp
  exact ⟨ao, cap, L, h, rfl, h1, h2, h3, h4⟩
theorem okOs_fit {x : Os} (h : okOs x) : FitsOs x := by
  have h1 := (check_zero _).1 h.1.1
  exact ⟨⟨by unfold maxLen; omega, fun y hy => ⟨by have := (h1.2.1 y hy).2.1; unfold maxLen; omega, h.1.2 y hy⟩⟩, by have := h.2; unfold maxLen; omega⟩
theorem vec_len17 {s : ByteArray} {a : Int} (h0 : 0 ≤ a) (h1 : a ≤ s.size) : (rVec s a).1.length ≤ maxLen := by
  by_cases he : (rVec s a).2.2 = 0
  · have h := (vec_codec.read h0 h1 he).1
    have := ((check_zero _).1 h.1).1
    unfold maxLen
    omega
  · by_cases hk : kErr s a 0 64 = 0
    · rw [vec_b hk] at he ⊢
      unfold lift at he ⊢
      split
      · rename_i h; rw [if_pos h] at he; exact absurd h he
      · exact Nat.zero_le _
    · rw [vec_a hk]
      exact Nat.zero_le _
set_option maxRecDepth 100000 in
set_option maxHeartbeats 8000000 in
theorem rdecode17 (w : World) (s : ByteArray) (hs : s.size ≤ maxLen) :
    Calls Tryz.prog 55 #[.string s] w (ROlE (decL s) w) := by
  have HE : Hid (∀ (W : World) (e : Ending) (E : Int), decL s = (zOl, E) → e = .returned (.tuple #[.agg #[.string ⟨#[]⟩, .slice none 0 0], .int .i64 E]) → Keep0 w W → ROlE (decL s) w e W) := fun _ _ _ h1 h2 h3 => ROlE.bare h1 h2 h3
  have HM : Hid (∀ (W : World) (e : Ending) (K : ByteArray) (L : List Po) (ao : Option Addr) (cap : Nat), decL s = (⟨K, L.map Po.x⟩, 0) → e = .returned (.tuple #[.agg #[.string K, .slice ao L.length cap], .int .i64 0]) → L.length ≤ cap → cap ≤ maxLen → PosAt W ao L → Keep0 w W → ROlE (decL s) w e W) := fun _ _ _ _ _ _ h1 h2 h3 h4 h5 h6 => ROlE.mk h1 h2 h3 h4 h5 h6
  have HDn : Hid (∀ A E, (rOl s 0).2 = (A, E) → cEnd s A E ≠ 0 → decL s = (zOl, cEnd s A E)) := fun A E h h1 => by
    unfold decL dec
    rw [h]
    exact if_neg h1
  have HDy : Hid (∀ o A E, rOl s 0 = (o, A, E) → cEnd s A E = 0 → decL s = (o, 0)) := fun o A E h h1 => by
    unfold decL dec
    rw [h]
    exact if_pos h1
  have kA : Keep0 w (((w.alloc (.cells #[.string ⟨#[]⟩, .slice none 0 0] 24)).alloc (.cells #[.string s, .int .i64 0, .int .i64 0] 128)).alloc (.cells #[.string ⟨#[]⟩, .slice none 0 0] 24)) := (((Keep.refl _ w).alloc _).alloc _).alloc _
  have k12 : Keep0 ((w.alloc (.cells #[.string ⟨#[]⟩, .slice none 0 0] 24)).alloc (.cells #[.string s, .int .i64 0, .int .i64 0] 128)) (((w.alloc (.cells #[.string ⟨#[]⟩, .slice none 0 0] 24)).alloc (.cells #[.string s, .int .i64 0, .int .i64 0] 128)).alloc (.cells #[.string ⟨#[]⟩, .slice none 0 0] 24)) := (Keep.refl _ _).alloc _
  have q2 : DAt (((w.alloc (.cells #[.string ⟨#[]⟩, .slice none 0 0] 24)).alloc (.cells #[.string s, .int .i64 0, .int .i64 0] 128)).alloc (.cells #[.string ⟨#[]⟩, .slice none 0 0] 24)) w.heap.size (.string ⟨#[]⟩) (.slice none 0 0) := ((DAt.new w 24 (.string ⟨#[]⟩) (.slice none 0 0)).keep0 ((Keep.refl _ _).alloc _)).keep0 k12
  have c0 := (Cur.new (w.alloc (.cells #[.string ⟨#[]⟩, .slice none 0 0] 24)) s 128 hs).keep0 k12
  have q5 := DAt.new ((w.alloc (.cells #[.string ⟨#[]⟩, .slice none 0 0] 24)).alloc (.cells #[.string s, .int .i64 0, .int .i64 0] 128)) 24 (.string ⟨#[]⟩) (.slice none 0 0)
  rw [World.size_alloc] at c0
  rw [World.size_alloc, World.size_alloc] at q5
  have z1 : (((w.alloc (.cells #[.string ⟨#[]⟩, .slice none 0 0] 24)).alloc (.cells #[.string s, .int .i64 0, .int .i64 0] 128)).alloc (.cells #[.string ⟨#[]⟩, .slice none 0 0] 24)).heap.size = w.heap.size + 3 := by rw [World.size_alloc, World.size_alloc, World.size_alloc]
  have yb := fun gc (h : Cur (((w.alloc (.cells #[.string ⟨#[]⟩, .slice none 0 0] 24)).alloc (.cells #[.string s, .int .i64 0, .int .i64 0] 128)).alloc (.cells #[.string ⟨#[]⟩, .slice none 0 0] 24)) gc s 0 0) => rblob_any 128 (by decide) h
  have hKs := bTxt_le17 s 0 0 128
  obtain ⟨KT, hKT⟩ : ∃ z, bTxt s 0 0 128 = z := ⟨_, rfl⟩
  obtain ⟨BA, hBA⟩ : ∃ z, bAt s 0 0 128 = z := ⟨_, rfl⟩
  obtain ⟨BE, hBE⟩ : ∃ z, bErr s 0 0 128 = z := ⟨_, rfl⟩
  simp only [hKT, hBA, hBE] at yb
  rw [hKT] at hKs
  have i0 : (KT.size : Int) ≤ 9223372036854775807 := by unfold maxLen at hs; omega
  clear hKs hs k12
  go_enter Tryz.func55, Tryz.ntmps55
  go_wp2_with fail
  generalize (((w.alloc (.cells #[.string ⟨#[]⟩, .slice none 0 0] 24)).alloc (.cells #[.string s, .int .i64 0, .int .i64 0] 128)).alloc (.cells #[.string ⟨#[]⟩, .slice none 0 0] 24)) = WB at *
  obtain ⟨g2, hg2⟩ : ∃ g2, w.heap.size = g2 := ⟨_, rfl⟩
  rw [hg2] at q2 c0 q5 z1 ⊢
  obtain ⟨gc, hgc⟩ : ∃ gc, g2 + 1 = gc := ⟨_, rfl⟩
  rw [hgc] at c0 q5 ⊢
  obtain ⟨g5, hg5⟩ : ∃ g5, gc + 1 = g5 := ⟨_, rfl⟩
  rw [hg5] at q5 ⊢
  have HG : Hid (w.heap.size = g2 ∧ g2 + 1 = gc ∧ gc + 1 = g5) := ⟨hg2, hgc, hg5⟩
  have n2 : g2 ≠ gc := by omega
  have n5 : g5 ≠ gc := by omega
  have n25 : g2 ≠ g5 := by omega
  refine (yb gc c0).mono ?_
  rintro e w1 ⟨rfl, c1, k1⟩
  have K1 : Keep0 w w1 := kA.step k1 (fun i hi hh => by omega)
  have q2a := q2.keep k1 n2
  have q5a := q5.keep k1 n5
  have HZ : Hid (g5 + 1 ≤ w1.heap.size) := by show _ ≤ _; have := k1.size; omega
  clear yb kA k1 q2 q5 z1 hg2 hgc hg5 c0
  have kS : Keep1 g5 w1 (w1.setCell ⟨g5, 0, none⟩ (.string KT)) := set_keep1 _ _ _ _
  have c2 := c1.keep kS (fun e => n5 e.symm)
  have q2b := q2a.keep kS n25
  have q5b := q5a.set0 (.string KT)
  have K2 := K1.step1 kS (by have := HG.out; omega)
  have HZ2 : Hid (g5 + 1 ≤ (w1.setCell ⟨g5, 0, none⟩ (.string KT)).heap.size) := by show _ ≤ _; have := kS.size; have := HZ.out; omega
  obtain ⟨t0, t1, h0, h1⟩ := q5a.cells
  obtain ⟨ce0, ce1, ce2, ce3, ce4⟩ := c2.cells
  obtain ⟨s0, s1, r0, r1⟩ := q5b.cells
  clear kS c1 q2a K1 HZ
  by_cases hb : BE = 0
  case neg =>
    have hRx : (rOl s 0).2 = (BA, BE) := by rw [ol_1 (by rw [hBE]; exact hb), hBA, hBE]
    have hEx := hb
    have e0 : (BE == 0) = false := beq_eq_false_iff_ne.2 hb
    have e1 : (BE != 0) = true := by simpa using hb
    obtain ⟨kk1, kk2, kk3⟩ := key_err (s := s) (a := BA) hb
    have yk := rcount_any 16 (by decide) c2
    rw [kk1, kk2, kk3] at yk
    clear kk1 kk2 kk3 HM
    go_wp2_with fail
    clear t0 t1 h0 h1 ce0 ce1 ce2 ce3 ce4 s0 s1 r0 r1 q5a q5b
    generalize (w1.setCell ⟨g5, 0, none⟩ (.string KT)) = V1x at *
    refine yk.mono ?_
    rintro e w3 ⟨rfl, cX, k3⟩
    have q2X := q2b.keep k3 n2
    have KX : Keep0 w w3 := K2.step k3 (fun i hi hh => by have := HG.out; omega)
    obtain ⟨ce0, ce1, ce2, ce3, ce4⟩ := cX.cells
    clear yk k3 q2b K2 c2
    go_wp2_with fail
    have hC : cEnd s BA BE ≠ 0 := fun e => hEx (cEnd_zero17 e)
    have HV : Hid (decL s = (zOl, cEnd s BA BE)) := HDn.out _ _ hRx hC
    have ye := fun W (h : Cur W gc s BA BE) => rend_any h
    have ee : (cEnd s BA BE != 0) = true := by simpa using hC
    clear hC hRx HDn HDy
    generalize cEnd s BA BE = C at *
    refine wp_loop_rounds 1 ?_
    rw [rounds_succ]
    go_wp2_with fail
    refine (ye _ cX).mono ?_
    rintro e w9 ⟨rfl, c9, k9⟩
    have q29 := q2X.keep k9 n2
    have K9 : Keep0 w w9 := KX.step k9 (fun i hi hh => by have := HG.out; omega)
    obtain ⟨u0, u1, f0, f1⟩ := q29.cells
    clear ye k9 q2X KX cX c9
    go_wp2
    refine bodyPost_ret (retOl2 rfl _ _ _ rfl (q29.put (.string ⟨#[]⟩) (.slice none 0 0))) rfl ?_
    exact HE.out _ _ _ HV.out rfl (K9.step (put2_keep _ _ _ _) (fun i hi hh => by have := HG.out; omega))
  subst hb
  by_cases hk : KT.size = 0
  · have hRx : (rOl s 0).2 = (BA, 14) := by rw [ol_2 hBE (by rw [hKT]; exact hk), hBA]
    have hEx : (14 : Int) ≠ 0 := by decide
    have j1 : (KT.size : Int) = 0 := by omega
    have kX : Keep1 gc (w1.setCell ⟨g5, 0, none⟩ (.string KT)) ((w1.setCell ⟨g5, 0, none⟩ (.string KT)).setCell ⟨gc, 2, none⟩ (.int .i64 14)) := set_keep1 _ _ _ _
    have c3 := c2.setErr 14
    have q2c := q2b.keep kX n2
    have K3 : Keep0 w ((w1.setCell ⟨g5, 0, none⟩ (.string KT)).setCell ⟨gc, 2, none⟩ (.int .i64 14)) := K2.step kX (fun i hi hh => by have := HG.out; omega)
    obtain ⟨kk1, kk2, kk3⟩ := key_err (s := s) (a := BA) hEx
    have yk := rcount_any 16 (by decide) c3
    rw [kk1, kk2, kk3] at yk
    clear kk1 kk2 kk3 HM kX
    go_wp2_with fail
    clear t0 t1 h0 h1 ce0 ce1 ce2 ce3 ce4 s0 s1 r0 r1 q5a q5b c2 q2b K2 HZ2
    generalize (w1.setCell ⟨g5, 0, none⟩ (.string KT)).setCell ⟨gc, 2, none⟩ (.int .i64 14) = V2x at *
    refine yk.mono ?_
    rintro e w3 ⟨rfl, cX, k3⟩
    have q2X := q2c.keep k3 n2
    have KX : Keep0 w w3 := K3.step k3 (fun i hi hh => by have := HG.out; omega)
    obtain ⟨ce0, ce1, ce2, ce3, ce4⟩ := cX.cells
    clear yk k3 q2c K3 c3
    go_wp2_with fail
    have hC : cEnd s BA 14 ≠ 0 := fun e => hEx (cEnd_zero17 e)
    have HV : Hid (decL s = (zOl, cEnd s BA 14)) := HDn.out _ _ hRx hC
    have ye := fun W (h : Cur W gc s BA 14) => rend_any h
    have ee : (cEnd s BA 14 != 0) = true := by simpa using hC
    clear hC hRx HDn HDy
    generalize cEnd s BA 14 = C at *
    refine wp_loop_rounds 1 ?_
    rw [rounds_succ]
    go_wp2_with fail
    refine (ye _ cX).mono ?_
    rintro e w9 ⟨rfl, c9, k9⟩
    have q29 := q2X.keep k9 n2
    have K9 : Keep0 w w9 := KX.step k9 (fun i hi hh => by have := HG.out; omega)
    obtain ⟨u0, u1, f0, f1⟩ := q29.cells
    clear ye k9 q2X KX cX c9
    go_wp2
    refine bodyPost_ret (retOl2 rfl _ _ _ rfl (q29.put (.string ⟨#[]⟩) (.slice none 0 0))) rfl ?_
    exact HE.out _ _ _ HV.out rfl (K9.step (put2_keep _ _ _ _) (fun i hi hh => by have := HG.out; omega))
  have hkey := key_yes hBE (by rw [hKT]; exact hk)
  rw [hKT, hBA] at hkey
  have j1 : ((KT.size : Int) == 0) = false := beq_eq_false_iff_ne.2 (by omega)
  have j1' : ¬ (KT.size : Int) = 0 := by omega
  have yk := rcount_any 16 (by decide) c2
  have hkb := kNum_bd s BA 0 16
  have hnb := keyNum_bad (s := s) (a := BA) (x := 0)
  obtain ⟨N, hN⟩ : ∃ N : Nat, kNum s BA 0 16 = (N : Int) := ⟨(kNum s BA 0 16).toNat, by omega⟩
  obtain ⟨CA, hCA⟩ : ∃ z, tAt s BA 0 = z := ⟨_, rfl⟩
  obtain ⟨CE, hCE⟩ : ∃ z, kErr s BA 0 16 = z := ⟨_, rfl⟩
  rw [hN, hCA, hCE] at yk
  rw [hN, hCE] at hnb
  by_cases hc : CE = 0
  case neg =>
    have hRx : (rOl s 0).2 = (CA, CE) := by
      have e := olT_1 (s := s) (b := BA) (by rw [hCE]; exact hc)
      rw [ol_rest hkey, if_neg (by rw [e]; show kErr s BA 0 16 ≠ 0; rw [hCE]; exact hc), e, hCA, hCE]
    have hEx := hc
    have hN0 := hnb hc
    rw [hN0] at yk
    have e0 : (CE == 0) = false := beq_eq_false_iff_ne.2 hc
    have e1 : (CE != 0) = true := by simpa using hc
    clear HM hkb hnb
    go_wp2_with fail
    clear t0 t1 h0 h1 ce0 ce1 ce2 ce3 ce4 s0 s1 r0 r1 q5a q5b
    generalize (w1.setCell ⟨g5, 0, none⟩ (.string KT)) = V1x at *
    refine yk.mono ?_
    rintro e w3 ⟨rfl, cX, k3⟩
    have q2X := q2b.keep k3 n2
    have KX : Keep0 w w3 := K2.step k3 (fun i hi hh => by have := HG.out; omega)
    obtain ⟨ce0, ce1, ce2, ce3, ce4⟩ := cX.cells
    clear yk k3 q2b K2 c2
    go_wp2_with fail
    have hC : cEnd s CA CE ≠ 0 := fun e => hEx (cEnd_zero17 e)
    have HV : Hid (decL s = (zOl, cEnd s CA CE)) := HDn.out _ _ hRx hC
    have ye := fun W (h : Cur W gc s CA CE) => rend_any h
    have ee : (cEnd s CA CE != 0) = true := by simpa using hC
    clear hC hRx HDn HDy
    generalize cEnd s CA CE = C at *
    refine wp_loop_rounds 1 ?_
    rw [rounds_succ]
    go_wp2_with fail
    refine (ye _ cX).mono ?_
    rintro e w9 ⟨rfl, c9, k9⟩
    have q29 := q2X.keep k9 n2
    have K9 : Keep0 w w9 := KX.step k9 (fun i hi hh => by have := HG.out; omega)
    obtain ⟨u0, u1, f0, f1⟩ := q29.cells
    clear ye k9 q2X KX cX c9
    go_wp2
    refine bodyPost_ret (retOl2 rfl _ _ _ rfl (q29.put (.string ⟨#[]⟩) (.slice none 0 0))) rfl ?_
    exact HE.out _ _ _ HV.out rfl (K9.step (put2_keep _ _ _ _) (fun i hi hh => by have := HG.out; omega))
  subst hc
  by_cases hn0 : N = 0
  · subst hn0
    have hRx : (rOl s 0).2 = (CA, 7) := by
      have e := olT_2 hCE hN
      rw [ol_rest hkey, if_neg (by rw [e]; show ¬ (7 : Int) = 0; decide), e, hCA]
    have hEx : (7 : Int) ≠ 0 := by decide
    have e7 : ((0 : Nat) : Int) = 0 := rfl
    rw [e7] at yk
    clear HM hkb hnb hN e7
    go_wp2_with fail
    clear t0 t1 h0 h1 ce0 ce1 ce2 ce3 ce4 s0 s1 r0 r1 q5a q5b
    generalize (w1.setCell ⟨g5, 0, none⟩ (.string KT)) = V1x at *
    refine yk.mono ?_
    rintro e w3 ⟨rfl, c3, k3⟩
    have q2c := q2b.keep k3 n2
    have K3 : Keep0 w w3 := K2.step k3 (fun i hi hh => by have := HG.out; omega)
    have kX : Keep1 gc w3 (w3.setCell ⟨gc, 2, none⟩ (.int .i64 7)) := set_keep1 _ _ _ _
    have cX := c3.setErr 7
    have q2X := q2c.keep kX n2
    have KX : Keep0 w (w3.setCell ⟨gc, 2, none⟩ (.int .i64 7)) := K3.step kX (fun i hi hh => by have := HG.out; omega)
    obtain ⟨ce0, ce1, ce2, ce3, ce4⟩ := c3.cells
    obtain ⟨xe0, xe1, xe2, xe3, xe4⟩ := cX.cells
    clear yk k3 q2b K2 c2 q2c K3 c3 kX
    go_wp2_with fail
    have hC : cEnd s CA 7 ≠ 0 := fun e => hEx (cEnd_zero17 e)
    have HV : Hid (decL s = (zOl, cEnd s CA 7)) := HDn.out _ _ hRx hC
    have ye := fun W (h : Cur W gc s CA 7) => rend_any h
    have ee : (cEnd s CA 7 != 0) = true := by simpa using hC
    clear hC hRx HDn HDy
    generalize cEnd s CA 7 = C at *
    refine wp_loop_rounds 1 ?_
    rw [rounds_succ]
    go_wp2_with fail
    refine (ye _ cX).mono ?_
    rintro e w9 ⟨rfl, c9, k9⟩
    have q29 := q2X.keep k9 n2
    have K9 : Keep0 w w9 := KX.step k9 (fun i hi hh => by have := HG.out; omega)
    obtain ⟨u0, u1, f0, f1⟩ := q29.cells
    clear ye k9 q2X KX cX c9
    go_wp2
    refine bodyPost_ret (retOl2 rfl _ _ _ rfl (q29.put (.string ⟨#[]⟩) (.slice none 0 0))) rfl ?_
    exact HE.out _ _ _ HV.out rfl (K9.step (put2_keep _ _ _ _) (fun i hi hh => by have := HG.out; omega))
  obtain ⟨R, hR⟩ : ∃ z, liftM [] (rOss N [] s CA) = z := ⟨_, rfl⟩
  have HOb : Hid (rOl s 0 = if R.2.2 = 0 then ((⟨KT, R.1⟩ : Ol), R.2) else (zOl, R.2)) := ol_end hkey hCE hN hn0 hCA hR
  have HN16 : Hid (N ≤ 16) := by show N ≤ 16; have := kNum16 hCE; omega
  have HL0 : Hid (LoopL s N 0 [] CA 0 R) := .inl ⟨rfl, rfl, by rw [Nat.sub_zero]; exact hR.symm, (fun p hp => by cases hp)⟩
  have i0n : ((N : Int) == 0) = false := beq_eq_false_iff_ne.2 (by omega)
  have i0n' : ¬ (N : Int) = 0 := by omega
  have hN' : (N : Int) ≤ 9223372036854775807 := by have := HN16.out; omega
  clear hkb hnb hN hkey hR hn0 hCE hCA hBA hBE hKT
  go_wp2_with fail
  clear t0 t1 h0 h1 ce0 ce1 ce2 ce3 ce4 s0 s1 r0 r1 q5a
  generalize (w1.setCell ⟨g5, 0, none⟩ (.string KT)) = V1x at *
  refine yk.mono ?_
  rintro e w3 ⟨rfl, c3, k3⟩
  have HQ2a : Hid (DAt w3 g2 (.string ⟨#[]⟩) (.slice none 0 0)) := q2b.keep k3 n2
  have HQ5a : Hid (DAt w3 g5 (.string KT) (.slice none 0 0)) := q5b.keep k3 n5
  have HK3 : Hid (Keep0 w w3) := K2.step k3 (fun i hi hh => by have := HG.out; omega)
  have HZ3 : Hid (g5 + 1 ≤ w3.heap.size) := by show _ ≤ _; have := k3.size; have := HZ2.out; omega
  have HC3 : Hid (Cur w3 gc s CA 0) := c3
  obtain ⟨ce0, ce1, ce2, ce3, ce4⟩ := c3.cells
  clear k3 q2b K2 c2 c3 q5b yk HZ2
  go_wp2_with fail
  clear ce0 ce1 ce2 ce3 ce4
  go_loopw [7] (fun i wr => ∃ (k : Nat) (O : List Po) (A E : Int) (v : Value), i = .int .i64 (k : Int) ∧ k ≤ N ∧ Hid (Cur wr gc s A E) ∧ Hid (DAt wr g2 (.string ⟨#[]⟩) (.slice none 0 0)) ∧ Hid (DAt wr g5 (.string KT) v) ∧ Hid (OwnO (g5 + 1) wr v O) ∧ Hid (O.length = k) ∧ Hid (Keep0 w wr) ∧ Hid (g5 + 1 ≤ wr.heap.size) ∧ Hid (LoopL s N k O A E R)) (fun i _ => N - (intOf i).toNat)
  case atStart => exact ⟨0, [], CA, 0, _, rfl, Nat.zero_le _, HC3, HQ2a, HQ5a, OwnO.nil _ _, rfl, HK3, HZ3, HL0⟩
  case round =>
    obtain ⟨k, O, A, E, v, rfl, hk, HCu, HQ2, HQ5, HO, Hl, HKw, HZw, HRel⟩ := hrel
    clear HC3 HQ2a HQ5a HK3 HZ3 HL0
    obtain ⟨ao, cap, ev, hRow, hOwn, hcap, hcap2⟩ := row_of_own poT.len poT.pos HO.out.row
    subst ev
    clear hRow hOwn
    obtain ⟨ce0, ce1, ce2, ce3, ce4⟩ := HCu.out.cells
    by_cases hE : E = 0
    case neg =>
      have hRx : (rOl s 0).2 = (A, E) := by
        rcases HRel.out with ⟨h, _⟩ | ⟨_, h⟩
        · exact absurd h hE
        · rw [HOb.out, h]; exact congrArg Prod.snd (if_neg hE)
      have hEx := hE
      have e0 : (E == 0) = false := beq_eq_false_iff_ne.2 hE
      have e1 : (E != 0) = true := by simpa using hE
      have cX := HCu.out
      have q2X := HQ2.out
      have KX := HKw.out
      clear hcap hcap2 hE HRel HM
      by_cases hlt : k < N
      · have i1 : (k : Int) < N := by omega
        go_wp2_with fail
        have hC : cEnd s A E ≠ 0 := fun e => hEx (cEnd_zero17 e)
        have HV : Hid (decL s = (zOl, cEnd s A E)) := HDn.out _ _ hRx hC
        have ye := fun W (h : Cur W gc s A E) => rend_any h
        have ee : (cEnd s A E != 0) = true := by simpa using hC
        clear hC hRx HDn HDy
        generalize cEnd s A E = C at *
        refine (ye _ cX).mono ?_
        rintro e w9 ⟨rfl, c9, k9⟩
        have q29 := q2X.keep k9 n2
        have K9 : Keep0 w w9 := KX.step k9 (fun i hi hh => by have := HG.out; omega)
        obtain ⟨u0, u1, f0, f1⟩ := q29.cells
        clear ye k9 q2X KX cX c9
        go_wp2
        refine bodyPost_ret (retOl2 rfl _ _ _ rfl (q29.put (.string ⟨#[]⟩) (.slice none 0 0))) rfl ?_
        exact HE.out _ _ _ HV.out rfl (K9.step (put2_keep _ _ _ _) (fun i hi hh => by have := HG.out; omega))
      · have i1 : ¬ (k : Int) < N := by omega
        go_wp2_with fail
        have hC : cEnd s A E ≠ 0 := fun e => hEx (cEnd_zero17 e)
        have HV : Hid (decL s = (zOl, cEnd s A E)) := HDn.out _ _ hRx hC
        have ye := fun W (h : Cur W gc s A E) => rend_any h
        have ee : (cEnd s A E != 0) = true := by simpa using hC
        clear hC hRx HDn HDy
        generalize cEnd s A E = C at *
        refine (ye _ cX).mono ?_
        rintro e w9 ⟨rfl, c9, k9⟩
        have q29 := q2X.keep k9 n2
        have K9 : Keep0 w w9 := KX.step k9 (fun i hi hh => by have := HG.out; omega)
        obtain ⟨u0, u1, f0, f1⟩ := q29.cells
        clear ye k9 q2X KX cX c9
        go_wp2
        refine bodyPost_ret (retOl2 rfl _ _ _ rfl (q29.put (.string ⟨#[]⟩) (.slice none 0 0))) rfl ?_
        exact HE.out _ _ _ HV.out rfl (K9.step (put2_keep _ _ _ _) (fun i hi hh => by have := HG.out; omega))
    subst hE
    obtain ⟨hl, hR2, hOk⟩ : O.length = k ∧ R = liftM (O.map Po.x) (rOss (N - k) (O.map Po.x) s A) ∧ ∀ p ∈ O, FitsOs p.x := by
      rcases HRel.out with ⟨_, h⟩ | ⟨h, _⟩
      · exact h
      · exact absurd rfl h
    by_cases hlt : k < N
    case neg =>
      have ek : k = N := by omega
      have hro : rOl s 0 = (⟨KT, O.map Po.x⟩, A, 0) := by
        rw [ek, Nat.sub_self] at hR2
        have h := hR2.trans (liftM_zero (z := zOs) (rd := rOs) (tst := osTest) (nxt := osNext) (O.map Po.x) (O.map Po.x))
        rw [HOb.out, h]
        exact if_pos rfl
      have i1 : ¬ (k : Int) < N := by omega
      by_cases hC : cEnd s A 0 = 0
      · have HV : Hid (decL s = (⟨KT, O.map Po.x⟩, 0)) := HDy.out _ _ _ hro hC
        obtain ⟨ao', cap', e3, hNL, hc1, hc2⟩ := HO.out.newO
        cases e3
        have HNL : Hid (NewO (g5 + 1) wr ao O) := hNL
        have ye := fun W (h : Cur W gc s A 0) => rend_any h
        rw [hC] at ye
        clear hcap hcap2 hl hR2 hOk hNL ek HRel hro hC HE HDn HDy
        go_wp2_with fail
        refine (ye _ HCu.out).mono ?_
        rintro e w9 ⟨rfl, c9, k9⟩
        have q29 := HQ2.out.keep k9 n2
        have q59 := HQ5.out.keep k9 n5
        have K9 : Keep0 w w9 := HKw.out.step k9 (fun i hi hh => by have := HG.out; omega)
        have N9 := HNL.out.keep k9 (fun g hg e => by have := HG.out; omega)
        obtain ⟨u0, u1, f0, f1⟩ := q29.cells
        obtain ⟨t0, t1, h0, h1⟩ := q59.cells
        clear ye k9 HCu HQ2 HQ5 HKw HNL c9 q59 ce0 ce1 ce2 ce3 ce4
        go_wp2
        refine bodyPost_ret (retOl2 rfl _ _ _ rfl (q29.put (.string KT) (.slice ao O.length cap))) rfl ?_
        exact HM.out _ _ _ O ao cap HV.out rfl hc1 hc2 (N9.keep (put2_keep _ _ _ _) (fun g hg e => by have := HG.out; omega)).at_ (K9.step (put2_keep _ _ _ _) (fun i hi hh => by have := HG.out; omega))
      · have HV : Hid (decL s = (zOl, cEnd s A 0)) := HDn.out _ _ (by rw [hro]) hC
        have ye := fun W (h : Cur W gc s A 0) => rend_any h
        have ee : (cEnd s A 0 != 0) = true := by simpa using hC
        clear hcap hcap2 hl hR2 hOk ek HRel hro hC HM HDn HDy
        generalize cEnd s A 0 = C at *
        go_wp2_with fail
        refine (ye _ HCu.out).mono ?_
        rintro e w9 ⟨rfl, c9, k9⟩
        have q29 := HQ2.out.keep k9 n2
        have K9 : Keep0 w w9 := HKw.out.step k9 (fun i hi hh => by have := HG.out; omega)
        obtain ⟨u0, u1, f0, f1⟩ := q29.cells
        clear ye k9 HCu HQ2 HQ5 HKw c9 ce0 ce1 ce2 ce3 ce4
        go_wp2
        refine bodyPost_ret (retOl2 rfl _ _ _ rfl (q29.put (.string ⟨#[]⟩) (.slice none 0 0))) rfl ?_
        exact HE.out _ _ _ HV.out rfl (K9.step (put2_keep _ _ _ _) (fun i hi hh => by have := HG.out; omega))
    obtain ⟨wo, ewo⟩ : ∃ z : World, z = wr := ⟨wr, rfl⟩
    subst ewo
    have i1 : (k : Int) < N := by omega
    have hcur := HCu.out
    have kA : Keep0 wo (wo.alloc (.cells #[.slice none 0 0, .bool false, .string ⟨#[]⟩] 56)) := (Keep.refl _ wo).alloc _
    have hx0 := TAt.new wo 56 (.slice none 0 0) (.bool false) (.string ⟨#[]⟩)
    have yt := rtake11 (hcur.keep0 kA)
    rw [rX_yes] at yt
    obtain ⟨⟨c, A1, E1⟩, hRV⟩ : ∃ z, rVec s A = z := ⟨_, rfl⟩
    rw [hRV] at yt
    obtain ⟨A2, hA2⟩ : ∃ z, cAt s A1 E1 1 = z := ⟨_, rfl⟩
    obtain ⟨E2, hE2⟩ : ∃ z, gErr s A1 E1 = z := ⟨_, rfl⟩
    obtain ⟨GB, hGB⟩ : ∃ z, gSet s A1 E1 = z := ⟨_, rfl⟩
    obtain ⟨A3, hA3⟩ : ∃ z, bAt s A2 E2 32768 = z := ⟨_, rfl⟩
    obtain ⟨E3, hE3⟩ : ∃ z, bErr s A2 E2 32768 = z := ⟨_, rfl⟩
    obtain ⟨BT, hBT⟩ : ∃ z, bTxt s A2 E2 32768 = z := ⟨_, rfl⟩
    have yf := fun W (h : Cur W gc s A1 E1) => rflag_any h
    rw [hA2, hE2, hGB] at yf
    have yb := fun W (h : Cur W gc s A2 E2) => rblob_any 32768 (by decide) h
    rw [hA3, hE3, hBT] at yb
    have hch := chain17 hRV (A3 := A3) (E3 := E3) (by rw [hA2, hE2]; exact hA3) (by rw [hA2, hE2]; exact hE3)
    rw [hA2, hE2, hGB, hBT] at hch
    have hfit : E3 = 0 → FitsOs (⟨c, GB, BT⟩ : Os) := fun e => by
      have h := (os_codec.read hcur.lo hcur.hi (by rw [hch.1]; exact e)).1
      rw [hch.2 e] at h
      exact okOs_fit h
    have hcl : c.length ≤ maxLen := by
      have h := vec_len17 hcur.lo hcur.hi
      rw [hRV] at h
      exact h
    have Hch : Hid ((rOs s A).2 = (A3, E3) ∧ (E3 = 0 → rOs s A = (⟨c, GB, BT⟩, A3, 0))) := hch
    have Hfit : Hid (E3 = 0 → FitsOs (⟨c, GB, BT⟩ : Os)) := hfit
    have HR2 : Hid (R = liftM (O.map Po.x) (rOss (N - k) (O.map Po.x) s A)) := hR2
    have HOk : Hid (∀ p ∈ O, FitsOs p.x) := hOk
    have hgx : wo.heap.size ≠ gc := by have := hcur.lt; omega
    clear hcur hRV hR2 hOk HRel hl hA2 hE2 hGB hA3 hE3 hBT hch hfit HE HM HDn HDy HOb
    go_wp2_with fail
    generalize (wo.alloc (.cells #[.slice none 0 0, .bool false, .string ⟨#[]⟩] 56)) = WX0 at *
    obtain ⟨gx, hgxe⟩ : ∃ z, wo.heap.size = z := ⟨_, rfl⟩
    have HGX : Hid (wo.heap.size = gx) := hgxe
    rw [hgxe] at hx0 hgx ⊢
    have nxc : gx ≠ gc := hgx
    have hxs := hx0.lt
    refine yt.mono ?_
    rintro e w1x ⟨vo, vc, rfl, c1, hE1, hF1, k1⟩
    replace c1 : Cur w1x gc s A1 E1 := c1
    replace hE1 : EnsAt w1x vo c := hE1
    dsimp only
    have K1 : Keep1 gc wo w1x := (kA.any (R := fun i => i = gc)).trans k1
    have x1x := hx0.keep k1 nxc
    have HFv : Hid (∀ g off m, vo = some ⟨g, off, m⟩ → gx + 1 ≤ g) := fun g off m e => by have := hF1 g off m e; omega
    clear yt kA k1 hx0 hF1 hgxe hgx hxs HCu ce0 ce1 ce2 ce3 ce4
    obtain ⟨ce0, ce1, ce2, ce3, ce4⟩ := c1.cells
    obtain ⟨x0, x1, x2, xf0, xf1, xf2⟩ := x1x.cells
    have kS1 : Keep1 gx w1x (w1x.setCell ⟨gx, 0, none⟩ (.slice vo c.length vc)) := set_keep1 _ _ _ _
    have cS1 := c1.keep kS1 (fun e => nxc e.symm)
    have xS1 := x1x.set0 (.slice vo c.length vc)
    have eS1 := hE1.keep kS1 (fun g off m e hh => by have := HFv.out g off m e; omega)
    have KS1 : Keep1 gc wo (w1x.setCell ⟨gx, 0, none⟩ (.slice vo c.length vc)) := K1.step kS1 (fun i hi hh => by have := HGX.out; omega)
    obtain ⟨yce0, yce1, yce2, yce3, yce4⟩ := cS1.cells
    obtain ⟨yx0, yx1, yx2, yxf0, yxf1, yxf2⟩ := xS1.cells
    go_wp2_with fail
    clear ce0 ce1 ce2 ce3 ce4 x0 x1 x2 xf0 xf1 xf2
    clear yce0 yce1 yce2 yce3 yce4 yx0 yx1 yx2 yxf0 yxf1 yxf2
    clear kS1 c1 x1x K1 hE1
    generalize (w1x.setCell ⟨gx, 0, none⟩ (.slice vo c.length vc)) = V1y at *
    refine (yf _ cS1).mono ?_
    rintro e w2x ⟨rfl, c2, k2⟩
    have x2x := xS1.keep k2 nxc
    have e2x := eS1.keep k2 (fun g off m e hh => by have := HFv.out g off m e; have := HGX.out; have := HG.out; have := HZw.out; omega)
    have K2 := KS1.trans k2
    clear k2 cS1 xS1 eS1 KS1 yf
    obtain ⟨ce0, ce1, ce2, ce3, ce4⟩ := c2.cells
    obtain ⟨x0, x1, x2, xf0, xf1, xf2⟩ := x2x.cells
    have kS2 : Keep1 gx w2x (w2x.setCell ⟨gx, 1, none⟩ (.bool GB)) := set_keep1 _ _ _ _
    have cS2 := c2.keep kS2 (fun e => nxc e.symm)
    have xS2 := x2x.set1 (.bool GB)
    have eS2 := e2x.keep kS2 (fun g off m e hh => by have := HFv.out g off m e; omega)
    have KS2 : Keep1 gc wo (w2x.setCell ⟨gx, 1, none⟩ (.bool GB)) := K2.step kS2 (fun i hi hh => by have := HGX.out; omega)
    obtain ⟨yce0, yce1, yce2, yce3, yce4⟩ := cS2.cells
    obtain ⟨yx0, yx1, yx2, yxf0, yxf1, yxf2⟩ := xS2.cells
    go_wp2_with fail
    clear ce0 ce1 ce2 ce3 ce4 x0 x1 x2 xf0 xf1 xf2
    clear yce0 yce1 yce2 yce3 yce4 yx0 yx1 yx2 yxf0 yxf1 yxf2
    clear kS2 c2 x2x K2 e2x
    generalize (w2x.setCell ⟨gx, 1, none⟩ (.bool GB)) = V2y at *
    refine (yb _ cS2).mono ?_
    rintro e w3x ⟨rfl, c3, k3⟩
    have x3x := xS2.keep k3 nxc
    have e3x := eS2.keep k3 (fun g off m e hh => by have := HFv.out g off m e; have := HGX.out; have := HG.out; have := HZw.out; omega)
    have K3 := KS2.trans k3
    clear k3 cS2 xS2 eS2 KS2 yb
    obtain ⟨ce0, ce1, ce2, ce3, ce4⟩ := c3.cells
    obtain ⟨x0, x1, x2, xf0, xf1, xf2⟩ := x3x.cells
    have kS3 : Keep1 gx w3x (w3x.setCell ⟨gx, 2, none⟩ (.string BT)) := set_keep1 _ _ _ _
    have cS3 := c3.keep kS3 (fun e => nxc e.symm)
    have xS3 := x3x.set2 (.string BT)
    have eS3 := e3x.keep kS3 (fun g off m e hh => by have := HFv.out g off m e; omega)
    have KS3 : Keep1 gc wo (w3x.setCell ⟨gx, 2, none⟩ (.string BT)) := K3.step kS3 (fun i hi hh => by have := HGX.out; omega)
    have HC5 : Hid (Cur (w3x.setCell ⟨gx, 2, none⟩ (.string BT)) gc s A3 E3) := cS3
    have HX5 : Hid (TAt (w3x.setCell ⟨gx, 2, none⟩ (.string BT)) gx (.slice vo c.length vc) (.bool GB) (.string BT)) := xS3
    have HE5 : Hid (EnsAt (w3x.setCell ⟨gx, 2, none⟩ (.string BT)) vo c) := eS3
    have KS3x : Hid (Keep1 gc wo (w3x.setCell ⟨gx, 2, none⟩ (.string BT))) := KS3
    clear cS3 xS3 eS3 KS3 kS3
    have KS3 := KS3x
    clear KS3x
    go_wp2_with fail
    clear ce0 ce1 ce2 ce3 ce4 x0 x1 x2 xf0 xf1 xf2
    clear c3 x3x K3 e3x
    generalize (w3x.setCell ⟨gx, 2, none⟩ (.string BT)) = w5 at *
    have HN5 : Hid (NewO (g5 + 1) w5 ao O) := by
      obtain ⟨ao', cap', e3, hNL, _, _⟩ := HO.out.newO
      cases e3
      exact hNL.keep KS3.out (fun g hg e => by have := HG.out; omega)
    have hkN : (k : Int) ≤ 9223372036854775807 := by omega
    go_loopw [9] (fun j wr => ∃ (q : Nat) (E : Int), j = .int .i64 (q : Int) ∧ q ≤ k ∧ Hid (Cur wr gc s A3 E) ∧ Hid (Keep1 gc w5 wr) ∧ Hid (InL O c E3 q E)) (fun j _ => k - (intOf j).toNat)
    case atStart => exact ⟨0, E3, rfl, Nat.zero_le _, HC5, Keep.refl _ _, InL.start _ _ _⟩
    case round =>
      obtain ⟨q, E, rfl, hq, HCz, HKz, HI⟩ := hrel
      clear HC5
      by_cases hqk : q < k
      case neg =>
        have i2 : ¬ (q : Int) < k := by omega
        have HIk : Hid (InL O c E3 k E) := by have h := HI.out; rwa [show q = k by omega] at h
        have kV : Keep1 gc wo wr := KS3.out.trans HKz.out
        have nB : ∀ g, g5 + 1 ≤ g → ¬ g = gc := fun g hg e => by have := HG.out; omega
        have cV := HCz.out
        have q2V : DAt wr g2 (.string ⟨#[]⟩) (.slice none 0 0) := HQ2.out.keep kV n2
        have q5V : DAt wr g5 (.string KT) (.slice ao O.length cap) := HQ5.out.keep kV n5
        have oV : OwnO (g5 + 1) wr (.slice ao O.length cap) O := HO.out.keep kV nB
        have KV : Keep0 w wr := HKw.out.step kV (fun i hi hh => by have := HG.out; omega)
        have hzV : g5 + 1 ≤ wr.heap.size := by have := kV.size; have := HZw.out; omega
        have eV : EnsAt wr vo c := HE5.out.keep HKz.out (fun g off m e hh => by have := HFv.out g off m e; have := HGX.out; have := HG.out; have := HZw.out; omega)
        have xV : TAt wr gx (.slice vo c.length vc) (.bool GB) (.string BT) := HX5.out.keep HKz.out nxc
        have HFn : Hid (∀ g off m, vo = some ⟨g, off, m⟩ → g5 + 1 ≤ g ∧ (c.length = 0 ∨ Value.ownBlock (.slice ao O.length cap) ≠ some g)) := fun g off m e => by
          have h1 := HFv.out g off m e
          have h2 := HGX.out
          have h3 := HZw.out
          exact ⟨by omega, .inr (fun e2 => by have := (HO.out.lt g e2).2; omega)⟩
        have HD : Hid (LoopL s N (k + 1) (O ++ [(⟨⟨c, GB, BT⟩, vo, vc⟩ : Po)]) A3 E R) := LoopL.next hlt Hl.out HR2.out HOk.out Hch.out.1 Hch.out.2 Hfit.out HIk.out
        clear HIk Hch Hfit HR2 HOk HCz HKz HI KS3 HX5 HE5
        obtain ⟨ce0, ce1, ce2, ce3, ce4⟩ := cV.cells
        obtain ⟨x0, x1, x2, xf0, xf1, xf2⟩ := xV.cells
        obtain ⟨t0, t1, h0, h1⟩ := q5V.cells
        have kS : Keep0 wr (wr.alloc (.cells #[.slice vo c.length vc, .bool GB, .string BT] 56)) := (Keep.refl _ wr).alloc _
        have hsrc := po_new wr 56 (⟨⟨c, GB, BT⟩, vo, vc⟩ : Po)
        have oVA := oV.keep0 kS
        have hrow := oVA.row
        have hB2 : g5 + 1 ≤ (wr.alloc (.cells #[.slice vo c.length vc, .bool GB, .string BT] 56)).heap.size := by have := kS.size; omega
        have hlen : O.length + [(⟨⟨c, GB, BT⟩, vo, vc⟩ : Po)].length ≤ 1000000 := by show _ + 1 ≤ _; have := HN16.out; have := Hl.out; omega
        have HcV : Hid (Cur (wr.alloc (.cells #[.slice vo c.length vc, .bool GB, .string BT] 56)) gc s A3 E) := cV.keep0 kS
        have HqV : Hid (DAt (wr.alloc (.cells #[.slice vo c.length vc, .bool GB, .string BT] 56)) g2 (.string ⟨#[]⟩) (.slice none 0 0)) := q2V.keep0 kS
        have HrV : Hid (DAt (wr.alloc (.cells #[.slice vo c.length vc, .bool GB, .string BT] 56)) g5 (.string KT) (.slice ao O.length cap)) := q5V.keep0 kS
        have HoV : Hid (OwnO (g5 + 1) (wr.alloc (.cells #[.slice vo c.length vc, .bool GB, .string BT] 56)) (.slice ao O.length cap) O) := oVA
        have HiV : Hid (EnsAt (wr.alloc (.cells #[.slice vo c.length vc, .bool GB, .string BT] 56)) vo c) := eV.keep0 kS
        have HKV : Hid (Keep0 w (wr.alloc (.cells #[.slice vo c.length vc, .bool GB, .string BT] 56))) := KV.step0 kS
        have HzV : Hid (g5 + 1 ≤ (wr.alloc (.cells #[.slice vo c.length vc, .bool GB, .string BT] 56)).heap.size) := hB2
        clear cV q2V q5V oV KV hzV eV xV kV nB oVA kS HQ2 HQ5 HO HKw HZw
        go_wp2_with (at_builtin; refine wpList_append_row_at poT rfl _ _ rfl rfl rfl hrow hsrc hB2 hlen ?_)
        intro v' w4 g1 g4 g5x
        have g1 : w4.ownsRow (g5 + 1) 56 3 v' (O ++ [(⟨⟨c, GB, BT⟩, vo, vc⟩ : Po)]).length (rowOf Po.cells (O ++ [(⟨⟨c, GB, BT⟩, vo, vc⟩ : Po)])) := by first | exact g1 | (rw [List.length_append]; exact g1)
        have o4 := HoV.out.more (p := (⟨⟨c, GB, BT⟩, vo, vc⟩ : Po)) HiV.out HFn.out g1 g4 (by first | exact g5x | (rw [World.size_alloc]; exact g5x))
        obtain ⟨ao5, an5, ac5, rfl⟩ := sliceE_of_own g1
        have k4 := keep_grown g4
        have hn4 : ∀ g, Value.ownBlock (.slice ao O.length cap) = some g → g5 + 1 ≤ g := fun g e => (HoV.out.lt g e).1
        have c4 := HcV.out.keep k4 (fun e => by have := hn4 _ e; have := HG.out; omega)
        have q4 := HqV.out.keep k4 (fun e => by have := hn4 _ e; have := HG.out; omega)
        have r4 := HrV.out.keep k4 (fun e => by have := hn4 _ e; omega)
        have K4 := HKV.out.step k4 (fun i hi e => by have := hn4 _ e; have := HG.out; omega)
        have z4 : g5 + 1 ≤ w4.heap.size := by have := g4.size; have := HzV.out; omega
        have k5 : Keep1 g5 w4 (w4.setCell ⟨g5, 1, none⟩ (.slice ao5 an5 ac5)) := set_keep1 _ _ _ _
        have HC5 : Hid (Cur (w4.setCell ⟨g5, 1, none⟩ (.slice ao5 an5 ac5)) gc s A3 E) := c4.keep k5 (fun e => n5 e.symm)
        have HQn : Hid (DAt (w4.setCell ⟨g5, 1, none⟩ (.slice ao5 an5 ac5)) g2 (.string ⟨#[]⟩) (.slice none 0 0)) := q4.keep k5 n25
        have HRn : Hid (DAt (w4.setCell ⟨g5, 1, none⟩ (.slice ao5 an5 ac5)) g5 (.string KT) (.slice ao5 an5 ac5)) := r4.set1 _
        have HOn : Hid (OwnO (g5 + 1) (w4.setCell ⟨g5, 1, none⟩ (.slice ao5 an5 ac5)) (.slice ao5 an5 ac5) (O ++ [(⟨⟨c, GB, BT⟩, vo, vc⟩ : Po)])) := o4.keep k5 (fun g hg e => by omega)
        have HK5 : Hid (Keep0 w (w4.setCell ⟨g5, 1, none⟩ (.slice ao5 an5 ac5))) := K4.step1 k5 (by have := HG.out; omega)
        have HZ5 : Hid (g5 + 1 ≤ (w4.setCell ⟨g5, 1, none⟩ (.slice ao5 an5 ac5)).heap.size) := by show _ ≤ _; have := k5.size; omega
        have HOl : Hid ((O ++ [(⟨⟨c, GB, BT⟩, vo, vc⟩ : Po)]).length = k + 1) := by show _ = _; rw [List.length_append, Hl.out]; rfl
        obtain ⟨ON, hON⟩ : ∃ z, O ++ [(⟨⟨c, GB, BT⟩, vo, vc⟩ : Po)] = z := ⟨_, rfl⟩
        rw [hON] at HOn HOl HD
        obtain ⟨t0', t1', h0', h1'⟩ := r4.cells
        clear g1 g4 g5x o4 k4 hn4 c4 q4 r4 K4 z4 k5 hsrc hrow hB2 hlen HcV HqV HrV HoV HiV HKV HzV HFn x0 x1 x2 xf0 xf1 xf2 t0 t1 h0 h1 ce0 ce1 ce2 ce3 ce4 hON
        go_wp2
        go_roundw
        case rel => exact ⟨k + 1, ON, A3, E, _, by go_num, by omega, HC5, HQn, HRn, HOn, HOl, HK5, HZ5, HD⟩
        case measure => simp [intOf]; omega
      have i2 : (q : Int) < k := by omega
      obtain ⟨ce0, ce1, ce2, ce3, ce4⟩ := HCz.out.cells
      by_cases hE : E = 0
      case neg =>
        have e0 : (E == 0) = false := beq_eq_false_iff_ne.2 hE
        have HIn : Hid (InL O c E3 (q + 1) E) := HI.out.skip hE
        clear HI hE
        go_wp2_with fail
        refine wp_region_held_drew (S := (fun W => W.cell? ⟨gc, 2, none⟩ = some (.int .i64 E))) (by kernel_rfl) ce2 (fun hHeld => ?_)
        refine wpAnyH_take (i := 0) (v := ?E0v) (by simp only [List.getElem?_toArray, List.getElem?_cons_zero] <;> rfl) (by kernel_rfl) (by kernel_rfl) (by kernel_rfl) (by exact fun _ _ _ h => h) (Or.inl ⟨by rfl, ?E0y⟩) hHeld ?E0r
        case E0y => intro w hSw; (try dsimp only at hSw); go_simp <;> rfl
        simp only [Act.put, List.setIfInBounds_toArray, List.set_cons_zero, List.set_cons_succ]
        refine wpAnyH_take (i := 1) (v := ?E1v) (by simp only [List.getElem?_toArray, List.getElem?_cons_succ, List.getElem?_cons_zero] <;> rfl) (by kernel_rfl) (by kernel_rfl) (by kernel_rfl) (by exact fun _ _ _ h => h) (Or.inl ⟨by rfl, ?E1y⟩) hHeld ?E1r
        case E1y => intro w hSw; (try dsimp only at hSw); go_simp <;> rfl
        simp only [Act.put, List.setIfInBounds_toArray, List.set_cons_zero, List.set_cons_succ]
        refine wpAnyH_take (i := 2) (v := ?E2v) (by simp only [List.getElem?_toArray, List.getElem?_cons_succ, List.getElem?_cons_zero] <;> rfl) (by kernel_rfl) (by kernel_rfl) (by kernel_rfl) (by exact fun _ _ _ h => h) (Or.inl ⟨by rfl, ?E2y⟩) hHeld ?E2r
        case E2y => intro w hSw; (try dsimp only at hSw); go_simp <;> rfl
        simp only [Act.put, List.setIfInBounds_toArray, List.set_cons_zero, List.set_cons_succ]
        refine wpAnyH_take (i := 3) (v := ?E3v) (by simp only [List.getElem?_toArray, List.getElem?_cons_succ, List.getElem?_cons_zero] <;> rfl) (by kernel_rfl) (by kernel_rfl) (by kernel_rfl) (by exact fun _ _ _ h => h) (Or.inl ⟨by rfl, ?E3y⟩) hHeld ?E3r
        case E3y => intro w hSw; (try dsimp only at hSw); go_simp <;> rfl
        simp only [Act.put, List.setIfInBounds_toArray, List.set_cons_zero, List.set_cons_succ]
        refine wpAnyH_take (i := 4) (v := ?E4v) (by simp only [List.getElem?_toArray, List.getElem?_cons_succ, List.getElem?_cons_zero] <;> rfl) (by kernel_rfl) (by kernel_rfl) (by kernel_rfl) (by exact fun _ _ _ h => h) (Or.inl ⟨by rfl, ?E4y⟩) hHeld ?E4r
        case E4y => intro w hSw; (try dsimp only at hSw); go_simp <;> rfl
        simp only [Act.put, List.setIfInBounds_toArray, List.set_cons_zero, List.set_cons_succ]
        refine wpAnyH_take (i := 5) (v := ?E5v) (by simp only [List.getElem?_toArray, List.getElem?_cons_succ, List.getElem?_cons_zero] <;> rfl) (by kernel_rfl) (by kernel_rfl) (by kernel_rfl) (by exact fun _ _ _ h => h) (Or.inl ⟨by rfl, ?E5y⟩) hHeld ?E5r
        case E5y => intro w hSw; (try dsimp only at hSw); go_simp <;> rfl
        simp only [Act.put, List.setIfInBounds_toArray, List.set_cons_zero, List.set_cons_succ]
        refine wpAnyH_take (i := 6) (v := undef) (by simp only [List.getElem?_toArray, List.getElem?_cons_succ, List.getElem?_cons_zero] <;> rfl) (by kernel_rfl) (by kernel_rfl) (by kernel_rfl) (by exact fun _ _ _ h => h) (Or.inr ⟨by rfl, rfl⟩) hHeld ?E6r
        simp only [Act.put, List.setIfInBounds_toArray, List.set_cons_zero, List.set_cons_succ]
        refine wpAnyH_take (i := 7) (v := undef) (by simp only [List.getElem?_toArray, List.getElem?_cons_succ, List.getElem?_cons_zero] <;> rfl) (by kernel_rfl) (by kernel_rfl) (by kernel_rfl) (by exact fun _ _ _ h => h) (Or.inr ⟨by rfl, rfl⟩) hHeld ?E7r
        simp only [Act.put, List.setIfInBounds_toArray, List.set_cons_zero, List.set_cons_succ]
        refine wpAnyH_take (i := 8) (v := undef) (by simp only [List.getElem?_toArray, List.getElem?_cons_succ, List.getElem?_cons_zero] <;> rfl) (by kernel_rfl) (by kernel_rfl) (by kernel_rfl) (by exact fun _ _ _ h => h) (Or.inr ⟨by rfl, rfl⟩) hHeld ?E8r
        simp only [Act.put, List.setIfInBounds_toArray, List.set_cons_zero, List.set_cons_succ]
        refine wpAnyH_take (i := 9) (v := undef) (by simp only [List.getElem?_toArray, List.getElem?_cons_succ, List.getElem?_cons_zero] <;> rfl) (by kernel_rfl) (by kernel_rfl) (by kernel_rfl) (by exact fun _ _ _ h => h) (Or.inr ⟨by rfl, rfl⟩) hHeld ?E9r
        simp only [Act.put, List.setIfInBounds_toArray, List.set_cons_zero, List.set_cons_succ]
        refine wpAnyH_take (i := 10) (v := undef) (by simp only [List.getElem?_toArray, List.getElem?_cons_succ, List.getElem?_cons_zero] <;> rfl) (by kernel_rfl) (by kernel_rfl) (by kernel_rfl) (by exact fun _ _ _ h => h) (Or.inr ⟨by rfl, rfl⟩) hHeld ?E10r
        simp only [Act.put, List.setIfInBounds_toArray, List.set_cons_zero, List.set_cons_succ]
        refine wpAnyH_take (i := 11) (v := undef) (by simp only [List.getElem?_toArray, List.getElem?_cons_succ, List.getElem?_cons_zero] <;> rfl) (by kernel_rfl) (by kernel_rfl) (by kernel_rfl) (by exact fun _ _ _ h => h) (Or.inr ⟨by rfl, rfl⟩) hHeld ?E11r
        simp only [Act.put, List.setIfInBounds_toArray, List.set_cons_zero, List.set_cons_succ]
        refine wpAnyH_take (i := 12) (v := undef) (by simp only [List.getElem?_toArray, List.getElem?_cons_succ, List.getElem?_cons_zero] <;> rfl) (by kernel_rfl) (by kernel_rfl) (by kernel_rfl) (by exact fun _ _ _ h => h) (Or.inr ⟨by rfl, rfl⟩) hHeld ?E12r
        simp only [Act.put, List.setIfInBounds_toArray, List.set_cons_zero, List.set_cons_succ]
        refine wpAnyH_take (i := 13) (v := undef) (by simp only [List.getElem?_toArray, List.getElem?_cons_succ, List.getElem?_cons_zero] <;> rfl) (by kernel_rfl) (by kernel_rfl) (by kernel_rfl) (by exact fun _ _ _ h => h) (Or.inr ⟨by rfl, rfl⟩) hHeld ?E13r
        simp only [Act.put, List.setIfInBounds_toArray, List.set_cons_zero, List.set_cons_succ]
        refine wpAnyH_take (i := 14) (v := undef) (by simp only [List.getElem?_toArray, List.getElem?_cons_succ, List.getElem?_cons_zero] <;> rfl) (by kernel_rfl) (by kernel_rfl) (by kernel_rfl) (by exact fun _ _ _ h => h) (Or.inr ⟨by rfl, rfl⟩) hHeld ?E14r
        simp only [Act.put, List.setIfInBounds_toArray, List.set_cons_zero, List.set_cons_succ]
        refine wpAnyH_take (i := 15) (v := ?E15v) (by simp only [List.getElem?_toArray, List.getElem?_cons_succ, List.getElem?_cons_zero] <;> rfl) (by kernel_rfl) (by kernel_rfl) (by kernel_rfl) (by exact fun _ _ _ h => h) (Or.inl ⟨by rfl, ?E15y⟩) hHeld ?E15r
        case E15y => intro w hSw; (try dsimp only at hSw); go_simp <;> rfl
        simp only [Act.put, List.setIfInBounds_toArray, List.set_cons_zero, List.set_cons_succ]
        refine wpAnyH_done (by kernel_rfl) ?_ _
        clear hHeld
        have KD : Keep0 wr wr.drew := (Keep.refl _ wr).drew
        generalize wr.drew = W3 at *
        have HCn : Hid (Cur W3 gc s A3 E) := HCz.out.keep0 KD
        have HKn : Hid (Keep1 gc w5 W3) := HKz.out.step0 KD
        clear KD HCz HKz ce0 ce1 ce2 ce3 ce4
        go_wp2
        go_roundw
        case rel => exact ⟨q + 1, E, by go_num, by omega, HCn, HKn, HIn⟩
        case measure => simp [intOf]; omega
      subst hE
      have hqO : q < O.length := by have := Hl.out; omega
      obtain ⟨bb, off, eao, s1, s2⟩ := (HN5.out.keep HKz.out (fun g hg e => by have := HG.out; omega)).at_.at_ q hqO
      have hfq := HOk.out _ (List.getElem_mem hqO)
      have b0 := s1.c0
      have x5 := HX5.out.keep HKz.out nxc
      have HS2 : Hid (EnsAt wr O[q].vo O[q].x.c) := s2
      have HE6 : Hid (EnsAt wr vo c) := HE5.out.keep HKz.out (fun g off m e hh => by have := HFv.out g off m e; have := HGX.out; have := HG.out; have := HZw.out; omega)
      have ysm := fun W (K : Keep0 wr W) => rsame10 W O[q].vo vo O[q].vc vc O[q].x.c c hfq.vec.1 hcl (HS2.out.keep0 K) (HE6.out.keep0 K)
      have i3 : (q : Int) < O.length := by omega
      have q5r : DAt wr g5 (.string KT) (.slice ao O.length cap) := (HQ5.out.keep KS3.out n5).keep HKz.out n5
      rw [eao] at q5r
      obtain ⟨t0, t1, h0, h1⟩ := q5r.cells
      obtain ⟨x0, x1, x2, xf0, xf1, xf2⟩ := x5.cells
      clear s1 s2 x5 q5r hfq
      have HIy : Hid (vSame O[q].x.c c = true → InL O c E3 (q + 1) 6) := fun hs => HI.out.yes hqO (vSame_iff.1 hs)
      have HIf : Hid (vSame O[q].x.c c = false → InL O c E3 (q + 1) 0) := fun hs => HI.out.no hqO (fun e => by rw [vSame_iff.2 e] at hs; cases hs)
      clear HI HS2 HE6
      generalize vSame O[q].x.c c = BS at *
      generalize O[q] = PQ at *
      go_wp2_with fail
      have KD : Keep0 wr wr.drew := (Keep.refl _ wr).drew
      have z0 : wr.drew.cell? ⟨gc, 2, none⟩ = some (.int .i64 0) := KD.cell ce2 (fun f => f)
      have z1 : wr.drew.cell? ⟨g5, 1, none⟩ = some (.slice (some ⟨bb, off, none⟩) O.length cap) := KD.cell t1 (fun f => f)
      have z2 : wr.drew.cell? ⟨bb, off + q * 3, none⟩ = some (.slice PQ.vo PQ.x.c.length PQ.vc) := KD.cell b0 (fun f => f)
      have z3 : wr.drew.cell? ⟨gx, 0, none⟩ = some (.slice vo c.length vc) := KD.cell x0 (fun f => f)
      refine wp_region_held_drew (S := (fun W => W.cell? ⟨gc, 2, none⟩ = some (.int .i64 0) ∧ W.cell? ⟨g5, 1, none⟩ = some (.slice (some ⟨bb, off, none⟩) O.length cap) ∧ W.cell? ⟨bb, off + q * 3, none⟩ = some (.slice PQ.vo PQ.x.c.length PQ.vc) ∧ W.cell? ⟨gx, 0, none⟩ = some (.slice vo c.length vc))) (by kernel_rfl) ⟨z0, z1, z2, z3⟩ (fun hHeld => ?_)
      refine wpAnyH_take (i := 0) (v := ?F0v) (by simp only [List.getElem?_toArray, List.getElem?_cons_zero] <;> rfl) (by kernel_rfl) (by kernel_rfl) (by kernel_rfl) (by exact fun _ _ _ h => h) (Or.inl ⟨by rfl, ?F0y⟩) hHeld ?F0r
      case F0y => intro w hSw; (try dsimp only at hSw); go_simp <;> rfl
      simp only [Act.put, List.setIfInBounds_toArray, List.set_cons_zero, List.set_cons_succ]
      refine wpAnyH_take (i := 1) (v := ?F1v) (by simp only [List.getElem?_toArray, List.getElem?_cons_succ, List.getElem?_cons_zero] <;> rfl) (by kernel_rfl) (by kernel_rfl) (by kernel_rfl) (by exact fun _ _ _ h => h) (Or.inl ⟨by rfl, ?F1y⟩) hHeld ?F1r
      case F1y => intro w hSw; (try dsimp only at hSw); go_simp <;> rfl
      simp only [Act.put, List.setIfInBounds_toArray, List.set_cons_zero, List.set_cons_succ]
      refine wpAnyH_take (i := 2) (v := ?F2v) (by simp only [List.getElem?_toArray, List.getElem?_cons_succ, List.getElem?_cons_zero] <;> rfl) (by kernel_rfl) (by kernel_rfl) (by kernel_rfl) (by exact fun _ _ _ h => h) (Or.inl ⟨by rfl, ?F2y⟩) hHeld ?F2r
      case F2y => intro w hSw; (try dsimp only at hSw); go_simp <;> rfl
      simp only [Act.put, List.setIfInBounds_toArray, List.set_cons_zero, List.set_cons_succ]
      refine wpAnyH_take (i := 3) (v := ?F3v) (by simp only [List.getElem?_toArray, List.getElem?_cons_succ, List.getElem?_cons_zero] <;> rfl) (by kernel_rfl) (by kernel_rfl) (by kernel_rfl) (by exact fun _ _ _ h => h) (Or.inl ⟨by rfl, ?F3y⟩) hHeld ?F3r
      case F3y => intro w hSw; (try dsimp only at hSw); go_simp <;> rfl
      simp only [Act.put, List.setIfInBounds_toArray, List.set_cons_zero, List.set_cons_succ]
      refine wpAnyH_take (i := 4) (v := ?F4v) (by simp only [List.getElem?_toArray, List.getElem?_cons_succ, List.getElem?_cons_zero] <;> rfl) (by kernel_rfl) (by kernel_rfl) (by kernel_rfl) (by exact fun _ _ _ h => h) (Or.inl ⟨by rfl, ?F4y⟩) hHeld ?F4r
      case F4y => intro w hSw; (try dsimp only at hSw); go_simp <;> rfl
      simp only [Act.put, List.setIfInBounds_toArray, List.set_cons_zero, List.set_cons_succ]
      refine wpAnyH_take (i := 5) (v := ?F5v) (by simp only [List.getElem?_toArray, List.getElem?_cons_succ, List.getElem?_cons_zero] <;> rfl) (by kernel_rfl) (by kernel_rfl) (by kernel_rfl) (by exact fun _ _ _ h => h) (Or.inl ⟨by rfl, ?F5y⟩) hHeld ?F5r
      case F5y => intro w hSw; (try dsimp only at hSw); go_simp <;> rfl
      simp only [Act.put, List.setIfInBounds_toArray, List.set_cons_zero, List.set_cons_succ]
      refine wpAnyH_take (i := 6) (v := ?F6v) (by simp only [List.getElem?_toArray, List.getElem?_cons_succ, List.getElem?_cons_zero] <;> rfl) (by kernel_rfl) (by kernel_rfl) (by kernel_rfl) (by exact fun _ _ _ h => h) (Or.inl ⟨by rfl, ?F6y⟩) hHeld ?F6r
      case F6y => intro w hSw; (try dsimp only at hSw); go_simp <;> rfl
      simp only [Act.put, List.setIfInBounds_toArray, List.set_cons_zero, List.set_cons_succ]
      refine wpAnyH_take (i := 7) (v := ?F7v) (by simp only [List.getElem?_toArray, List.getElem?_cons_succ, List.getElem?_cons_zero] <;> rfl) (by kernel_rfl) (by kernel_rfl) (by kernel_rfl) (by exact fun _ _ _ h => h) (Or.inl ⟨by rfl, ?F7y⟩) hHeld ?F7r
      case F7y => intro w hSw; (try dsimp only at hSw); go_simp <;> rfl
      simp only [Act.put, List.setIfInBounds_toArray, List.set_cons_zero, List.set_cons_succ]
      refine wpAnyH_take (i := 8) (v := ?F8v) (by simp only [List.getElem?_toArray, List.getElem?_cons_succ, List.getElem?_cons_zero] <;> rfl) (by kernel_rfl) (by kernel_rfl) (by kernel_rfl) (by exact fun _ _ _ h => h) (Or.inl ⟨by rfl, ?F8y⟩) hHeld ?F8r
      case F8y => intro w hSw; (try dsimp only at hSw); go_simp <;> rfl
      simp only [Act.put, List.setIfInBounds_toArray, List.set_cons_zero, List.set_cons_succ]
      refine wpAnyH_take (i := 9) (v := ?F9v) (by simp only [List.getElem?_toArray, List.getElem?_cons_succ, List.getElem?_cons_zero] <;> rfl) (by kernel_rfl) (by kernel_rfl) (by kernel_rfl) (by exact fun _ _ _ h => h) (Or.inl ⟨by rfl, ?F9y⟩) hHeld ?F9r
      case F9y => intro w hSw; (try dsimp only at hSw); go_simp <;> rfl
      simp only [Act.put, List.setIfInBounds_toArray, List.set_cons_zero, List.set_cons_succ]
      refine wpAnyH_take (i := 10) (v := ?F10v) (by simp only [List.getElem?_toArray, List.getElem?_cons_succ, List.getElem?_cons_zero] <;> rfl) (by kernel_rfl) (by kernel_rfl) (by kernel_rfl) (by exact fun _ _ _ h => h) (Or.inl ⟨by rfl, ?F10y⟩) hHeld ?F10r
      case F10y => intro w hSw; (try dsimp only at hSw); go_simp <;> rfl
      simp only [Act.put, List.setIfInBounds_toArray, List.set_cons_zero, List.set_cons_succ]
      refine wpAnyH_take (i := 11) (v := ?F11v) (by simp only [List.getElem?_toArray, List.getElem?_cons_succ, List.getElem?_cons_zero] <;> rfl) (by kernel_rfl) (by kernel_rfl) (by kernel_rfl) (by exact fun _ _ _ h => h) (Or.inl ⟨by rfl, ?F11y⟩) hHeld ?F11r
      case F11y => intro w hSw; (try dsimp only at hSw); go_simp <;> rfl
      simp only [Act.put, List.setIfInBounds_toArray, List.set_cons_zero, List.set_cons_succ]
      refine wpAnyH_take (i := 12) (v := ?F12v) (by simp only [List.getElem?_toArray, List.getElem?_cons_succ, List.getElem?_cons_zero] <;> rfl) (by kernel_rfl) (by kernel_rfl) (by kernel_rfl) (by exact fun _ _ _ h => h) (Or.inl ⟨by rfl, ?F12y⟩) hHeld ?F12r
      case F12y => intro w hSw; (try dsimp only at hSw); go_simp <;> rfl
      simp only [Act.put, List.setIfInBounds_toArray, List.set_cons_zero, List.set_cons_succ]
      refine wpAnyH_take (i := 13) (v := ?F13v) (by simp only [List.getElem?_toArray, List.getElem?_cons_succ, List.getElem?_cons_zero] <;> rfl) (by kernel_rfl) (by kernel_rfl) (by kernel_rfl) (by exact fun _ _ _ h => h) (Or.inl ⟨by rfl, ?F13y⟩) hHeld ?F13r
      case F13y => intro w hSw; (try dsimp only at hSw); go_simp <;> rfl
      simp only [Act.put, List.setIfInBounds_toArray, List.set_cons_zero, List.set_cons_succ]
      refine wpAnyH_ready (rs := [14]) (by kernel_rfl) (by simp) ?_
      refine AllReadyH.cons (by simp only [List.getElem?_toArray, List.getElem?_cons_succ, List.getElem?_cons_zero] <;> rfl) (fun K hK => ?_) AllReadyH.nil
      go_simp
      refine (ysm _ KD).mono ?_
      rintro e W3 ⟨rfl, hW3⟩
      have k3 := keepN hW3
      clear hW3
      go_wp2_with fail
      refine hK.out _ _ ⟨k3.cell z0 (fun f => f), k3.cell z1 (fun f => f), k3.cell z2 (fun f => f), k3.cell z3 (fun f => f)⟩ (fun hHeld => ?_)
      clear hK K
      refine wpAnyH_take (i := 15) (v := ?F14v) (by simp only [List.getElem?_toArray, List.getElem?_cons_succ, List.getElem?_cons_zero] <;> rfl) (by kernel_rfl) (by kernel_rfl) (by kernel_rfl) (by exact fun _ _ _ h => h) (Or.inl ⟨by rfl, ?F14y⟩) hHeld ?F14r
      case F14y => intro w hSw; (try dsimp only at hSw); go_simp <;> rfl
      simp only [Act.put, List.setIfInBounds_toArray, List.set_cons_zero, List.set_cons_succ]
      refine wpAnyH_done (by kernel_rfl) ?_ _
      clear hHeld
      replace KD : Keep0 wr W3 := KD.trans k3
      clear k3 ysm z0 z1 z2 z3 b0
      cases BS with
      | true =>
        have HIn : Hid (InL O c E3 (q + 1) 6) := HIy.out rfl
        have cW := HCz.out.keep0 KD
        have kE : Keep1 gc W3 (W3.setCell ⟨gc, 2, none⟩ (.int .i64 6)) := set_keep1 _ _ _ _
        have HCn : Hid (Cur (W3.setCell ⟨gc, 2, none⟩ (.int .i64 6)) gc s A3 6) := cW.setErr 6
        have HKn : Hid (Keep1 gc w5 (W3.setCell ⟨gc, 2, none⟩ (.int .i64 6))) := (HKz.out.step0 KD).trans kE
        obtain ⟨ye0, ye1, ye2, ye3, ye4⟩ := cW.cells
        clear KD HCz HKz HIy HIf ce0 ce1 ce2 ce3 ce4 kE cW t0 t1 h0 h1 x0 x1 x2 xf0 xf1 xf2
        go_wp2
        go_roundw
        case rel => exact ⟨q + 1, 6, by go_num, by omega, HCn, HKn, HIn⟩
        case measure => simp [intOf]; omega
      | false =>
        have HIn : Hid (InL O c E3 (q + 1) 0) := HIf.out rfl
        have HCn : Hid (Cur W3 gc s A3 0) := HCz.out.keep0 KD
        have HKn : Hid (Keep1 gc w5 W3) := HKz.out.step0 KD
        clear KD HCz HKz HIy HIf ce0 ce1 ce2 ce3 ce4 t0 t1 h0 h1 x0 x1 x2 xf0 xf1 xf2
        go_wp2
        go_roundw
        case rel => exact ⟨q + 1, 0, by go_num, by omega, HCn, HKn, HIn⟩
        case measure => simp [intOf]; omega
end Go.Proofs.YtoefibkhlhmlfaaGreat
