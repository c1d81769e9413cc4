/-
  What this seat's claims lean on of the texts RefObj5.
  Conditions: as each theorem states.
-/
import Derived.WalkKit
import Derived.ProofKit
import Derived.Below
import Derived.Deep.Draws
import Derived.Deep.RegionHeld
import Derived.Test.YtoefibkhlhmlfaaGreatChecked
import Derived.OpenShut
import Derived.ShutString
import Derived.WalkSpells
import Derived.WalkLawsBesides
import Derived.Deep.QuietTactic
import Derived.BigQuiet
import Derived.Laws.Bits64b
import Derived.PlainAid
import Derived.Lib.AppendStr
import Derived.Deep.AppendLies
import Derived.Laws.IdiomStrings
import Derived.Laws.BytesArg
import Derived.Deep.RegionWith
import Derived.Laws.AppendOwn
import Derived.Deep.DeepAppendWide
import Derived.Deep.Upon
import Derived.Maps.AppendAt
import Derived.Laws.Rows
import Derived.Deep.Slices
import Derived.Deep.CutRange
import Derived.Test.YtoefibkhlhmlfaaGreatY34
import Derived.Test.YtoefibkhlhmlfaaGreatY30
namespace Go.Proofs.YtoefibkhlhmlfaaGreat
open Go.RowKit
theorem okSib_fit {x : Sb} (h : okSib x) : FitsS x := by
  have hR := (right_iff _).1 h.1.1
  have h1 := (check_zero _).1 hR.vec
  obtain ⟨h2, h3⟩ := (qCheck_zero _).1 h.2.1
  refine ⟨⟨⟨by unfold maxLen; omega, fun y hy => ⟨by have := (hR.good.1 y hy).2.1; unfold maxLen; omega, h.1.2.1 y hy⟩⟩, ?_, h.1.2.2⟩, ⟨by unfold maxLen; omega, fun y hy => by have := h3.1 y hy; unfold Pr.ok at this; unfold maxLen; omega⟩, by have := h.2.2; unfold maxLen; omega⟩
  cases hd : x.k.d with
  | true => have := (hR.dot hd).1.2.1; unfold maxLen; omega
  | false => have := (hR.plain hd).1; omega
theorem NewL.lower {B B' : Nat} {w : World} {ao : Option Addr} {L : List Pl} (h : NewL B w ao L) (hB : B' ≤ B) : NewL B' w ao L :=
  ⟨h.at_, fun g off m e => Nat.le_trans hB (h.own g off m e), fun p hp g off m e => Nat.le_trans hB (h.vec p hp g off m e), fun p hp g off m e => Nat.le_trans hB (h.prs p hp g off m e)⟩
theorem ob_end {s : ByteArray} {a BA CA : Int} {KT : ByteArray} {N : Nat} (hk : rKey s a = (KT, BA, 0)) (hc : kErr s BA 0 16 = 0) (hN : kNum s BA 0 16 = (N : Int)) (h0 : N ≠ 0) (hA : tAt s BA 0 = CA) {R : List Sb × Int × Int} (hR : liftS [] (rSibs N none s CA) = R) : rOb s a = if R.2.2 = 0 then ((⟨KT, R.1⟩ : Ob), R.2) else (zOb, R.2) := by
  obtain ⟨h1, h2⟩ := obT_3 hc (by rw [hN]; omega)
  rw [hN, hA, Int.toNat_natCast, hR] at h1 h2
  rw [ob_rest hk, h1, h2]
theorem sb_bad {N k : Nat} (hk : k < N) {O : List Sb} {p : Option ByteArray} {s : ByteArray} {A A1 E1 : Int} {X : Sb} {R : List Sb × Int × Int} (hR : R = liftS O (rSibs (N - k) p s A)) (hS : rSib s A = (X, A1, E1)) (h : E1 ≠ 0) : R = ([], A1, E1) := by
  obtain ⟨n, hn⟩ : ∃ n, N - k = n + 1 := ⟨N - k - 1, by omega⟩
  have e := sibT_a (s := s) (a := A) (p := p) (by rw [hS]; exact h)
  rw [hR, hn, sibs_bad O (by rw [e, hS]; exact h), e, hS]
theorem sb_down {N k : Nat} (hk : k < N) {O : List Sb} {p : Option ByteArray} {s : ByteArray} {A A1 : Int} {X : Sb} {R : List Sb × Int × Int} (hR : R = liftS O (rSibs (N - k) p s A)) (hS : rSib s A = (X, A1, 0)) (h : fTest p X = 6) : R = ([], A1, 6) := by
  obtain ⟨n, hn⟩ : ∃ n, N - k = n + 1 := ⟨N - k - 1, by omega⟩
  have e := sibT_b (s := s) (a := A) (p := p) (by rw [hS]) (by rw [hS, h]; decide)
  rw [hS] at e
  rw [hR, hn, sibs_bad O (by rw [e, h]; show (6 : Int) ≠ 0; decide), e, h]
theorem sb_up {N k : Nat} (hk : k < N) {O : List Sb} {p : Option ByteArray} {s : ByteArray} {A A1 : Int} {X : Sb} {R : List Sb × Int × Int} (hR : R = liftS O (rSibs (N - k) p s A)) (hS : rSib s A = (X, A1, 0)) (h : fTest p X = 0) : R = liftS (O ++ [X]) (rSibs (N - (k + 1)) (some (kb X)) s A1) := by
  obtain ⟨n, hn⟩ : ∃ n, N - k = n + 1 := ⟨N - k - 1, by omega⟩
  have hn2 : N - (k + 1) = n := by omega
  have e := sibT_c (s := s) (a := A) (p := p) (by rw [hS]) (by rw [hS]; exact h)
  rw [hS] at e
  rw [hR, hn, hn2, sibs_more O (by rw [e]), e]
  rfl
theorem fTest_none (X : Sb) : fTest none X = 0 := fTest_zero.2 (fun q e => by cases e)
theorem fTest_up {q : ByteArray} {X : Sb} (h : bl q (kb X) = true) : fTest (some q) X = 0 := fTest_zero.2 (fun q' e => by cases e; exact h)
theorem fTest_down {q : ByteArray} {X : Sb} (h : bl q (kb X) = false) : fTest (some q) X = 6 := by
  unfold fTest
  rw [falls_some]
  have e : bl q (eClk X.k) = false := h
  rw [e]
  rfl
theorem pvk_map {O : List Pl} {j : Nat} (h : j < O.length) : pvk (O.map Pl.x) (j + 1) = some (kb O[j].x) := by
  rw [pvk_succ (by rw [List.length_map]; exact h), List.getElem_map]
theorem pvk_last {O : List Pl} {p : Pl} {k : Nat} (h : O.length = k) : pvk ((O ++ [p]).map Pl.x) (k + 1) = some (kb p.x) := by
  subst h
  rw [pvk_map (by rw [List.length_append]; exact Nat.lt_succ_self _)]
  congr 2
  rw [List.getElem_append_right (Nat.le_refl _)]
  simp
def eSix (b : Bool) (E : Int) : Int := if b then 6 else E
def LoopO (s : ByteArray) (N k : Nat) (O : List Pl) (A E : Int) (R : List Sb × Int × Int) : Prop :=
  (E = 0 ∧ O.length = k ∧ R = liftS (O.map Pl.x) (rSibs (N - k) (pvk (O.map Pl.x) k) s A) ∧ ∀ p ∈ O, sCheck p.x = 0 ∧ FitsS p.x) ∨ (E ≠ 0 ∧ R = ([], A, E))
theorem LoopO.up {s : ByteArray} {N k : Nat} {O : List Pl} {A A1 : Int} {R : List Sb × Int × Int} {p : Pl} (hk : k < N) (h0 : O.length = k) (hR : R = liftS (O.map Pl.x) (rSibs (N - k) (pvk (O.map Pl.x) k) s A)) (ha : ∀ p ∈ O, sCheck p.x = 0 ∧ FitsS p.x) (hS : rSib s A = (p.x, A1, 0)) (hp : sCheck p.x = 0 ∧ FitsS p.x) (h : fTest (pvk (O.map Pl.x) k) p.x = 0) : LoopO s N (k + 1) (O ++ [p]) A1 0 R := by
  refine .inl ⟨rfl, by rw [List.length_append, h0]; rfl, ?_, ?_⟩
  · rw [sb_up hk hR hS h, pvk_last h0, List.map_append]
    rfl
  · intro q hq
    rcases List.mem_append.1 hq with hq | hq
    · exact ha q hq
    · rw [List.mem_singleton.1 hq]; exact hp
set_option maxRecDepth 100000 in
set_option maxHeartbeats 8000000 in
theorem rtake16 {w : World} {b : Nat} {s : ByteArray} {a x : Int} (h : Cur w b s a x) :
    Calls Tryz.prog 89 #[ptr b] w (RTakeO (rX zOb rOb s a x) s b w) := by
  have HE : Hid (∀ (W : World) (e : Ending) (A E : Int), rX zOb rOb s a x = (zOb, A, E) → e = .returned (.agg #[.string ⟨#[]⟩, .slice none 0 0]) → Cur W b s A E → Keep1 b w W → RTakeO (rX zOb rOb s a x) s b w e W) := fun _ _ _ _ h1 h2 h3 h4 => RTakeO.bare h1 h2 h3 h4
  have HM : Hid (∀ (W : World) (e : Ending) (A E : Int) (K : ByteArray) (L : List Pl) (ao : Option Addr) (cap : Nat), rX zOb rOb s a x = (⟨K, L.map Pl.x⟩, A, E) → e = .returned (.agg #[.string K, .slice ao L.length cap]) → Cur W b s A E → NewL w.heap.size W ao L → (L.length ≤ cap ∧ cap ≤ maxLen) → Keep1 b w W → RTakeO (rX zOb rOb s a x) s b w e W) := fun _ _ _ _ _ _ _ _ h1 h2 h3 h4 h4' h5 => RTakeO.mk h1 h2 h3 h4 h4' h5
  have HB : Hid (b < w.heap.size) := h.lt
  have kA : Keep0 w ((w.alloc (.cells #[.string ⟨#[]⟩, .slice none 0 0] 27)).alloc (.cells #[.string ⟨#[]⟩, .slice none 0 0] 27)) := ((Keep.refl _ w).alloc _).alloc _
  have q2 : DAt ((w.alloc (.cells #[.string ⟨#[]⟩, .slice none 0 0] 27)).alloc (.cells #[.string ⟨#[]⟩, .slice none 0 0] 27)) w.heap.size (.string ⟨#[]⟩) (.slice none 0 0) := (DAt.new w 27 (.string ⟨#[]⟩) (.slice none 0 0)).keep0 ((Keep.refl _ _).alloc _)
  have q3 : DAt ((w.alloc (.cells #[.string ⟨#[]⟩, .slice none 0 0] 27)).alloc (.cells #[.string ⟨#[]⟩, .slice none 0 0] 27)) (w.heap.size + 1) (.string ⟨#[]⟩) (.slice none 0 0) := by
    have := DAt.new (w.alloc (.cells #[.string ⟨#[]⟩, .slice none 0 0] 27)) 27 (.string ⟨#[]⟩) (.slice none 0 0)
    rw [World.size_alloc] at this
    exact this
  have hcl := h.lt
  have z1 : ((w.alloc (.cells #[.string ⟨#[]⟩, .slice none 0 0] 27)).alloc (.cells #[.string ⟨#[]⟩, .slice none 0 0] 27)).heap.size = w.heap.size + 2 := by rw [World.size_alloc, World.size_alloc]
  have yb := rblob_any 128 (by decide) (h.keep0 kA)
  have hKs := bTxt_le s a x 128
  have hsz : s.size ≤ maxLen := h.sz
  obtain ⟨KT, hKT⟩ : ∃ z, bTxt s a x 128 = z := ⟨_, rfl⟩
  obtain ⟨BA, hBA⟩ : ∃ z, bAt s a x 128 = z := ⟨_, rfl⟩
  obtain ⟨BE, hBE⟩ : ∃ z, bErr s a x 128 = z := ⟨_, rfl⟩
  rw [hKT, hBA, hBE] at yb
  rw [hKT] at hKs
  have i0 : (KT.size : Int) ≤ 9223372036854775807 := by unfold maxLen at hsz; omega
  clear hKs hsz
  have hx0 : BE = 0 → x = 0 := by
    intro e
    rw [e] at hBE
    exact (blob_zero hBE).1
  go_enter Tryz.func89, Tryz.ntmps89
  go_wp2_with fail
  generalize ((w.alloc (.cells #[.string ⟨#[]⟩, .slice none 0 0] 27)).alloc (.cells #[.string ⟨#[]⟩, .slice none 0 0] 27)) = WB at *
  obtain ⟨g2, hg2⟩ : ∃ g2, w.heap.size = g2 := ⟨_, rfl⟩
  rw [hg2] at q2 q3 z1 hcl ⊢
  obtain ⟨g3, hg3⟩ : ∃ g3, g2 + 1 = g3 := ⟨_, rfl⟩
  rw [hg3] at q3 ⊢
  have n2 : g2 ≠ b := by omega
  have n3 : g3 ≠ b := by omega
  have n23 : g2 ≠ g3 := by omega
  refine yb.mono ?_
  rintro e w1 ⟨rfl, c1, k1⟩
  have K1 : Keep1 b w w1 := (kA.any (R := fun i => i = b)).trans k1
  have q2a := q2.keep k1 n2
  have q3a := q3.keep k1 n3
  have HZ : Hid (g2 + 2 ≤ w1.heap.size) := by show _ ≤ _; have := k1.size; omega
  have HG2 : Hid (w.heap.size = g2) := hg2
  have HG3 : Hid (g2 + 1 = g3) := hg3
  clear yb kA k1 q2 q3 z1 hcl hg2 hg3
  have kS : Keep1 g3 w1 (w1.setCell ⟨g3, 0, none⟩ (.string KT)) := set_keep1 _ _ _ _
  have c2 := c1.keep kS (fun e => n3 e.symm)
  have q2b := q2a.keep kS n23
  have q3b := q3a.set0 (.string KT)
  have K2 := K1.step1 kS (by have := HG2.out; have := HG3.out; omega)
  have HZ2 : Hid (g2 + 2 ≤ (w1.setCell ⟨g3, 0, none⟩ (.string KT)).heap.size) := by show _ ≤ _; have := kS.size; have := HZ.out; omega
  obtain ⟨t0, t1, h0, h1⟩ := q3a.cells
  obtain ⟨ce0, ce1, ce2, ce3, ce4⟩ := c2.cells
  obtain ⟨s0, s1, r0, r1⟩ := q3b.cells
  clear kS c1 q2a K1 HZ
  by_cases hb : BE = 0
  case neg =>
    have HV : Hid (rX zOb rOb s a x = (zOb, BA, BE)) := by
      show _ = _
      by_cases hx : x = 0
      · subst hx
        rw [rX_yes, ob_1 (by rw [hBE]; exact hb), hBA, hBE]
      · obtain ⟨_, b2, b3⟩ := b_bad (s := s) (a := a) 128 hx
        rw [rX_no hx, ← hBA, ← hBE, b2, b3]
    have e0 : (BE == 0) = false := beq_eq_false_iff_ne.2 hb
    have e1 : (BE != 0) = true := by simpa using hb
    obtain ⟨kk1, kk2, kk3⟩ := key_err (s := s) (a := BA) hb
    have yk := rcount_any 16 (by decide) c2
    rw [kk1, kk2, kk3] at yk
    clear kk1 kk2 kk3 HM
    go_wp2_with fail
    clear t0 t1 h0 h1 ce0 ce1 ce2 ce3 ce4 s0 s1 r0 r1 q3a q3b
    generalize (w1.setCell ⟨g3, 0, none⟩ (.string KT)) = V1x at *
    refine (yk).mono ?_
    rintro e w3 ⟨rfl, c3, k3⟩
    have q2c := q2b.keep k3 n2
    have K3 := K2.trans k3
    obtain ⟨ce0, ce1, ce2, ce3, ce4⟩ := c3.cells
    obtain ⟨u0, u1, f0, f1⟩ := q2c.cells
    clear k3 q2b K2 c2
    go_wp2_with fail
    refine wp_loop_rounds 1 ?_
    rw [rounds_succ]
    go_wp2
    refine bodyPost_ret (retOb rfl _ _ _ rfl (q2c.put (.string ⟨#[]⟩) (.slice none 0 0))) rfl ?_
    exact HE.out _ _ _ _ HV.out rfl (c3.keep (put2_keep _ _ _ _) (fun e => n2 e.symm)) (K3.step1 (put2_keep _ _ _ _) (by have := HG2.out; omega))
  subst hb
  have hx := hx0 rfl
  subst hx
  clear hx0
  by_cases hk : KT.size = 0
  · have HV : Hid (rX zOb rOb s a 0 = (zOb, BA, 14)) := by
      show _ = _
      rw [rX_yes, ob_2 hBE (by rw [hKT]; exact hk), hBA]
    have j1 : (KT.size : Int) = 0 := by omega
    have kX : Keep1 b (w1.setCell ⟨g3, 0, none⟩ (.string KT)) ((w1.setCell ⟨g3, 0, none⟩ (.string KT)).setCell ⟨b, 2, none⟩ (.int .i64 14)) := set_keep1 _ _ _ _
    have cX := c2.setErr 14
    have q2X := q2b.keep kX n2
    have KX := K2.trans kX
    have h14 : (14 : Int) ≠ 0 := by decide
    obtain ⟨kk1, kk2, kk3⟩ := key_err (s := s) (a := BA) h14
    have yk := rcount_any 16 (by decide) cX
    rw [kk1, kk2, kk3] at yk
    clear kk1 kk2 kk3 HM kX h14
    go_wp2_with fail
    clear t0 t1 h0 h1 ce0 ce1 ce2 ce3 ce4 s0 s1 r0 r1 q3a q3b c2 q2b K2 HZ2
    generalize (w1.setCell ⟨g3, 0, none⟩ (.string KT)).setCell ⟨b, 2, none⟩ (.int .i64 14) = V2x at *
    refine (yk).mono ?_
    rintro e w3 ⟨rfl, c3, k3⟩
    have q2c := q2X.keep k3 n2
    have K3 := KX.trans k3
    obtain ⟨ce0, ce1, ce2, ce3, ce4⟩ := c3.cells
    obtain ⟨u0, u1, f0, f1⟩ := q2c.cells
    clear k3 q2X KX cX
    go_wp2_with fail
    refine wp_loop_rounds 1 ?_
    rw [rounds_succ]
    go_wp2
    refine bodyPost_ret (retOb rfl _ _ _ rfl (q2c.put (.string ⟨#[]⟩) (.slice none 0 0))) rfl ?_
    exact HE.out _ _ _ _ HV.out rfl (c3.keep (put2_keep _ _ _ _) (fun e => n2 e.symm)) (K3.step1 (put2_keep _ _ _ _) (by have := HG2.out; omega))
  have hkey := key_yes hBE (by rw [hKT]; exact hk)
  rw [hKT, hBA] at hkey
  have j1 : ((KT.size : Int) == 0) = false := beq_eq_false_iff_ne.2 (by omega)
  have j1' : ¬ (KT.size : Int) = 0 := by omega
  have yk := rcount_any 16 (by decide) c2
  have hkb := kNum_bd s BA 0 16
  have hnb := keyNum_bad (s := s) (a := BA) (x := 0)
  obtain ⟨N, hN⟩ : ∃ N : Nat, kNum s BA 0 16 = (N : Int) := ⟨(kNum s BA 0 16).toNat, by omega⟩
  obtain ⟨CA, hCA⟩ : ∃ z, tAt s BA 0 = z := ⟨_, rfl⟩
  obtain ⟨CE, hCE⟩ : ∃ z, kErr s BA 0 16 = z := ⟨_, rfl⟩
  rw [hN, hCA, hCE] at yk
  rw [hN, hCE] at hnb
  by_cases hc : CE = 0
  case neg =>
    have HV : Hid (rX zOb rOb s a 0 = (zOb, CA, CE)) := by
      show _ = _
      rw [rX_yes, ob_rest hkey, obT_1 (by rw [hCE]; exact hc), if_neg (by show kErr s BA 0 16 ≠ 0; rw [hCE]; exact hc), hCA, hCE]
    have hN0 := hnb hc
    rw [hN0] at yk
    have e0 : (CE == 0) = false := beq_eq_false_iff_ne.2 hc
    have e1 : (CE != 0) = true := by simpa using hc
    clear HM hkb hnb
    go_wp2_with fail
    clear t0 t1 h0 h1 ce0 ce1 ce2 ce3 ce4 s0 s1 r0 r1 q3a q3b
    generalize (w1.setCell ⟨g3, 0, none⟩ (.string KT)) = V1x at *
    refine (yk).mono ?_
    rintro e w3 ⟨rfl, c3, k3⟩
    have q2c := q2b.keep k3 n2
    have K3 := K2.trans k3
    obtain ⟨ce0, ce1, ce2, ce3, ce4⟩ := c3.cells
    obtain ⟨u0, u1, f0, f1⟩ := q2c.cells
    clear k3 q2b K2 c2
    go_wp2_with fail
    refine wp_loop_rounds 1 ?_
    rw [rounds_succ]
    go_wp2
    refine bodyPost_ret (retOb rfl _ _ _ rfl (q2c.put (.string ⟨#[]⟩) (.slice none 0 0))) rfl ?_
    exact HE.out _ _ _ _ HV.out rfl (c3.keep (put2_keep _ _ _ _) (fun e => n2 e.symm)) (K3.step1 (put2_keep _ _ _ _) (by have := HG2.out; omega))
  subst hc
  by_cases hn0 : N = 0
  · subst hn0
    have HV : Hid (rX zOb rOb s a 0 = (zOb, CA, 7)) := by
      show _ = _
      have e := obT_2 hCE hN
      rw [rX_yes, ob_rest hkey, e, hCA]
      exact if_neg (show ¬ (7 : Int) = 0 by decide)
    have e7 : ((0 : Nat) : Int) = 0 := rfl
    rw [e7] at yk
    clear HM hkb hnb hN e7
    go_wp2_with fail
    clear t0 t1 h0 h1 ce0 ce1 ce2 ce3 ce4 s0 s1 r0 r1 q3a q3b
    generalize (w1.setCell ⟨g3, 0, none⟩ (.string KT)) = V1x at *
    refine yk.mono ?_
    rintro e w3 ⟨rfl, c3, k3⟩
    have q2c := q2b.keep k3 n2
    have K3 := K2.trans k3
    have kX : Keep1 b w3 (w3.setCell ⟨b, 2, none⟩ (.int .i64 7)) := set_keep1 _ _ _ _
    have cX := c3.setErr 7
    have q2X := q2c.keep kX n2
    have KX := K3.trans kX
    obtain ⟨ce0, ce1, ce2, ce3, ce4⟩ := c3.cells
    obtain ⟨u0, u1, f0, f1⟩ := q2c.cells
    obtain ⟨xe0, xe1, xe2, xe3, xe4⟩ := cX.cells
    obtain ⟨xu0, xu1, xf0, xf1⟩ := q2X.cells
    clear k3 q2b K2 c2 q2c K3 c3 kX yk
    go_wp2_with fail
    refine wp_loop_rounds 1 ?_
    rw [rounds_succ]
    go_wp2
    refine bodyPost_ret (retOb rfl _ _ _ rfl (q2X.put (.string ⟨#[]⟩) (.slice none 0 0))) rfl ?_
    exact HE.out _ _ _ _ HV.out rfl (cX.keep (put2_keep _ _ _ _) (fun e => n2 e.symm)) (KX.step1 (put2_keep _ _ _ _) (by have := HG2.out; omega))
  obtain ⟨R, hR⟩ : ∃ z, liftS [] (rSibs N none s CA) = z := ⟨_, rfl⟩
  have HOb : Hid (rOb s a = if R.2.2 = 0 then ((⟨KT, R.1⟩ : Ob), R.2) else (zOb, R.2)) := ob_end hkey hCE hN hn0 hCA hR
  have HN16 : Hid (N ≤ 16) := by show N ≤ 16; have := kNum16 hCE; omega
  have HL0 : Hid (LoopO s N 0 [] CA 0 R) := .inl ⟨rfl, rfl, by rw [Nat.sub_zero]; exact hR.symm, (fun p hp => by cases hp)⟩
  have i0n : ((N : Int) == 0) = false := beq_eq_false_iff_ne.2 (by omega)
  have i0n' : ¬ (N : Int) = 0 := by omega
  have hN' : (N : Int) ≤ 9223372036854775807 := by have := HN16.out; omega
  clear hkb hnb hN hkey hR hn0 hCE hCA hBA hBE hKT
  go_wp2_with fail
  clear t0 t1 h0 h1 ce0 ce1 ce2 ce3 ce4 s0 s1 r0 r1 q3a
  generalize (w1.setCell ⟨g3, 0, none⟩ (.string KT)) = V1x at *
  refine yk.mono ?_
  rintro e w3 ⟨rfl, c3, k3⟩
  have HQ2a : Hid (DAt w3 g2 (.string ⟨#[]⟩) (.slice none 0 0)) := q2b.keep k3 n2
  have HQ3a : Hid (DAt w3 g3 (.string KT) (.slice none 0 0)) := q3b.keep k3 n3
  have HK3 : Hid (Keep1 b w w3) := K2.trans k3
  have HZ3 : Hid (g2 + 2 ≤ w3.heap.size) := by show _ ≤ _; have := k3.size; have := HZ2.out; omega
  have HC3 : Hid (Cur w3 b s CA 0) := c3
  obtain ⟨ce0, ce1, ce2, ce3, ce4⟩ := c3.cells
  clear k3 q2b K2 c2 c3 q3b yk HZ2
  go_wp2_with fail
  clear ce0 ce1 ce2 ce3 ce4
  go_loopw [5] (fun i wr => ∃ (k : Nat) (O : List Pl) (A E : Int) (v : Value), i = .int .i64 (k : Int) ∧ k ≤ N ∧ Hid (Cur wr b s A E) ∧ Hid (DAt wr g2 (.string ⟨#[]⟩) (.slice none 0 0)) ∧ Hid (DAt wr g3 (.string KT) v) ∧ Hid (OwnP (g2 + 2) wr v O) ∧ O.length ≤ k ∧ Hid (Keep1 b w wr) ∧ Hid (g2 + 2 ≤ wr.heap.size) ∧ Hid (LoopO s N k O A E R)) (fun i _ => N - (intOf i).toNat)
  case atStart => exact ⟨0, [], CA, 0, _, rfl, Nat.zero_le _, HC3, HQ2a, HQ3a, OwnP.nil _ _, Nat.le_refl _, HK3, HZ3, HL0⟩
  case round =>
    obtain ⟨k, O, A, E, v, rfl, hk, HCu, HQ2, HQ3, HO, hOl, HKw, HZw, HRel⟩ := hrel
    clear HC3 HQ2a HQ3a HK3 HZ3 HL0
    obtain ⟨ao, cap, ev, hRow, hOwn, hcap, hcap2⟩ := row_of_own plT.len plT.pos HO.out.row
    subst ev
    have HRow : Hid (RowAt Pl.cells 7 wr ao O) := hRow
    clear hRow hOwn
    obtain ⟨ce0, ce1, ce2, ce3, ce4⟩ := HCu.out.cells
    by_cases hE : E = 0
    case neg =>
      have HV : Hid (rX zOb rOb s a 0 = (zOb, A, E)) := by
        show _ = _
        rcases HRel.out with ⟨h, _⟩ | ⟨_, h⟩
        · exact absurd h hE
        · rw [rX_yes, HOb.out, h]; exact if_neg hE
      have e0 : (E == 0) = false := beq_eq_false_iff_ne.2 hE
      have e1 : (E != 0) = true := by simpa using hE
      obtain ⟨u0, u1, f0, f1⟩ := HQ2.out.cells
      clear hcap hcap2 HRow hE
      by_cases hlt : k < N
      · have i1 : (k : Int) < N := by omega
        go_wp2
        refine bodyPost_ret (retOb rfl _ _ _ rfl (HQ2.out.put (.string ⟨#[]⟩) (.slice none 0 0))) rfl ?_
        exact HE.out _ _ _ _ HV.out rfl (HCu.out.keep (put2_keep _ _ _ _) (fun e => n2 e.symm)) (HKw.out.step1 (put2_keep _ _ _ _) (by have := HG2.out; omega))
      · have i1 : ¬ (k : Int) < N := by omega
        go_wp2
        refine bodyPost_ret (retOb rfl _ _ _ rfl (HQ2.out.put (.string ⟨#[]⟩) (.slice none 0 0))) rfl ?_
        exact HE.out _ _ _ _ HV.out rfl (HCu.out.keep (put2_keep _ _ _ _) (fun e => n2 e.symm)) (HKw.out.step1 (put2_keep _ _ _ _) (by have := HG2.out; omega))
    subst hE
    obtain ⟨hl, hR2, hOk⟩ : O.length = k ∧ R = liftS (O.map Pl.x) (rSibs (N - k) (pvk (O.map Pl.x) k) s A) ∧ ∀ p ∈ O, sCheck p.x = 0 ∧ FitsS p.x := by
      rcases HRel.out with ⟨_, h⟩ | ⟨h, _⟩
      · exact h
      · exact absurd rfl h
    by_cases hlt : k < N
    case neg =>
      have ek : k = N := by omega
      have HV : Hid (rX zOb rOb s a 0 = (⟨KT, O.map Pl.x⟩, A, 0)) := by
        show _ = _
        rw [ek, Nat.sub_self, sibs_zero] at hR2
        rw [rX_yes, HOb.out, hR2]
        exact if_pos rfl
      obtain ⟨ao', cap', e3, hNL, _, _⟩ := HO.out.newL
      cases e3
      have HNL : Hid (NewL (g2 + 2) wr ao O) := hNL
      have i1 : ¬ (k : Int) < N := by omega
      obtain ⟨u0, u1, f0, f1⟩ := HQ2.out.cells
      obtain ⟨t0, t1, h0, h1⟩ := HQ3.out.cells
      have HCP : Hid (O.length ≤ cap ∧ cap ≤ maxLen) := ⟨hcap, hcap2⟩
      clear hcap hcap2 HRow hl hR2 hOk hNL ek
      go_wp2
      refine bodyPost_ret (retOb rfl _ _ _ rfl (HQ2.out.put (.string KT) (.slice ao O.length cap))) rfl ?_
      refine HM.out _ _ _ _ _ O ao cap HV.out rfl (HCu.out.keep (put2_keep _ _ _ _) (fun e => n2 e.symm)) ?_ HCP.out (HKw.out.step1 (put2_keep _ _ _ _) (by have := HG2.out; omega))
      exact (HNL.out.keep (put2_keep _ _ _ _) (fun g hg e => by omega)).lower (by have := HG2.out; omega)
    have hcur := HCu.out
    have yt := rtake15 hcur
    rw [rX_yes] at yt
    obtain ⟨⟨X, A1, E1⟩, hRS⟩ : ∃ z, rSib s A = z := ⟨_, rfl⟩
    rw [hRS] at yt
    have hok : E1 = 0 → sCheck X = 0 ∧ FitsS X := by
      intro e
      have h := (sib_codec.read hcur.lo hcur.hi (by rw [hRS]; exact e)).1
      rw [hRS] at h
      exact ⟨(okSib_U.1 h).1, okSib_fit h⟩
    have i1 : (k : Int) < N := by omega
    have HRS : Hid (rSib s A = (X, A1, E1)) := hRS
    have HR2 : Hid (R = liftS (O.map Pl.x) (rSibs (N - k) (pvk (O.map Pl.x) k) s A)) := hR2
    have HOk : Hid (∀ p ∈ O, sCheck p.x = 0 ∧ FitsS p.x) := hOk
    have Hok : Hid (E1 = 0 → sCheck X = 0 ∧ FitsS X) := hok
    have Hl : Hid (O.length = k) := hl
    clear hcur hRS hR2 hOk hok HRel hl
    go_wp2_with fail
    refine yt.mono ?_
    rintro e w1 ⟨vo, vc, po, pc, rfl, c1, hI, hF1, hF2, k1⟩
    replace c1 : Cur w1 b s A1 E1 := c1
    replace hI : SibIn w1 vo po pc X := hI
    dsimp only
    have K1 := HKw.out.trans k1
    have hg6 : ¬ w1.heap.size = b := by have := c1.lt; omega
    have kA : Keep0 w1 (w1.alloc (.cells #[.slice vo X.k.c.length vc, .bool X.k.d, .string X.k.x.a, .int .u64 (X.k.x.n : Int), .slice po X.m.length pc, .bool X.d, .string X.v] 61)) := (Keep.refl _ w1).alloc _
    have hx6 := sib_new w1 61 X vo vc po pc
    have c2 := c1.keep0 kA
    have HQ2b : Hid (DAt (w1.alloc (.cells #[.slice vo X.k.c.length vc, .bool X.k.d, .string X.k.x.a, .int .u64 (X.k.x.n : Int), .slice po X.m.length pc, .bool X.d, .string X.v] 61)) g2 (.string ⟨#[]⟩) (.slice none 0 0)) := (HQ2.out.keep k1 n2).keep0 kA
    have HQ3b : Hid (DAt (w1.alloc (.cells #[.slice vo X.k.c.length vc, .bool X.k.d, .string X.k.x.a, .int .u64 (X.k.x.n : Int), .slice po X.m.length pc, .bool X.d, .string X.v] 61)) g3 (.string KT) (.slice ao O.length cap)) := (HQ3.out.keep k1 n3).keep0 kA
    have HOb2 : Hid (OwnP (g2 + 2) (w1.alloc (.cells #[.slice vo X.k.c.length vc, .bool X.k.d, .string X.k.x.a, .int .u64 (X.k.x.n : Int), .slice po X.m.length pc, .bool X.d, .string X.v] 61)) (.slice ao O.length cap) O) := (HO.out.keep k1 (fun g hg e => by have := HB.out; have := HG2.out; omega)).keep0 kA
    have HI2 : Hid (SibIn (w1.alloc (.cells #[.slice vo X.k.c.length vc, .bool X.k.d, .string X.k.x.a, .int .u64 (X.k.x.n : Int), .slice po X.m.length pc, .bool X.d, .string X.v] 61)) vo po pc X) := hI.keep0 kA
    have HK2 : Hid (Keep1 b w (w1.alloc (.cells #[.slice vo X.k.c.length vc, .bool X.k.d, .string X.k.x.a, .int .u64 (X.k.x.n : Int), .slice po X.m.length pc, .bool X.d, .string X.v] 61))) := K1.step0 kA
    have HZ2 : Hid (g2 + 2 ≤ (w1.alloc (.cells #[.slice vo X.k.c.length vc, .bool X.k.d, .string X.k.x.a, .int .u64 (X.k.x.n : Int), .slice po X.m.length pc, .bool X.d, .string X.v] 61)).heap.size) := by show _ ≤ _; have := kA.size; have := k1.size; have := HZw.out; omega
    have HFv : Hid (∀ g off m, vo = some ⟨g, off, m⟩ → g2 + 2 ≤ g ∧ (X.k.c.length = 0 ∨ Value.ownBlock (.slice ao O.length cap) ≠ some g)) := fun g off m e => ⟨by have := hF1 g off m e; have := HZw.out; omega, .inr (fun e2 => by have := (HO.out.lt g e2).2; have := hF1 g off m e; omega)⟩
    have HFp : Hid (∀ g off m, po = some ⟨g, off, m⟩ → g2 + 2 ≤ g ∧ (X.m.length = 0 ∨ Value.ownBlock (.slice ao O.length cap) ≠ some g)) := fun g off m e => ⟨by have := hF2 g off m e; have := HZw.out; omega, .inr (fun e2 => by have := (HO.out.lt g e2).2; have := hF2 g off m e; omega)⟩
    have HRow2 : Hid (RowAt Pl.cells 7 (w1.alloc (.cells #[.slice vo X.k.c.length vc, .bool X.k.d, .string X.k.x.a, .int .u64 (X.k.x.n : Int), .slice po X.m.length pc, .bool X.d, .string X.v] 61)) ao O) := (HRow.out.keep k1 (fun g off m e h => by
      have := (HO.out.newL).choose_spec
      obtain ⟨ao', cap', e3, hNL, _, _⟩ := HO.out.newL
      cases e3
      have := hNL.own g off m e
      have := HB.out
      have := HG2.out
      omega)).keep0 kA
    obtain ⟨x0, x1, x2, x3, x4, x5, x6⟩ := hx6
    obtain ⟨xe0, xe1, xe2, xe3, xe4⟩ := c2.cells
    have HC2 : Hid (Cur (w1.alloc (.cells #[.slice vo X.k.c.length vc, .bool X.k.d, .string X.k.x.a, .int .u64 (X.k.x.n : Int), .slice po X.m.length pc, .bool X.d, .string X.v] 61)) b s A1 E1) := c2
    obtain ⟨t0, t1, h0, h1⟩ := HQ3b.out.cells
    clear yt k1 hF1 hF2 hI K1 kA c1 c2 HQ2 HQ3 HO HKw HZw HRow HCu ce0 ce1 ce2 ce3 ce4
    go_wp2_with fail
    generalize (w1.alloc (.cells #[.slice vo X.k.c.length vc, .bool X.k.d, .string X.k.x.a, .int .u64 (X.k.x.n : Int), .slice po X.m.length pc, .bool X.d, .string X.v] 61)) = W2 at *
    generalize w1.heap.size = g6 at *
    go_cut [5, 73] from 38 to 82 (fun i v wx => ∃ B : Bool, i = .int .i64 (k : Int) ∧ v = .bool B ∧ Hid (Keep0 W2 wx) ∧ Hid (LoopO s N (k + 1) (O ++ [⟨X, vo, vc, po, pc⟩]) A1 (eSix B E1) R))
    case first =>
      by_cases hE1 : E1 = 0
      case neg =>
        have HD : Hid (LoopO s N (k + 1) (O ++ [⟨X, vo, vc, po, pc⟩]) A1 E1 R) := .inr ⟨hE1, sb_bad hlt HR2.out HRS.out hE1⟩
        have e0 : (E1 == 0) = false := beq_eq_false_iff_ne.2 hE1
        clear Hok HR2 HRS HOk HRow2
        refine wp_region_held_drew (S := (fun W => W.cell? ⟨b, 2, none⟩ = some (.int .i64 E1))) (by kernel_rfl) xe2 (fun hHeld => ?_)
        refine wpAnyH_take (i := 0) (v := ?A0v) (by simp only [List.getElem?_toArray, List.getElem?_cons_zero] <;> rfl) (by kernel_rfl) (by kernel_rfl) (by kernel_rfl) (by exact fun _ _ _ h => h) (Or.inl ⟨by rfl, ?A0y⟩) hHeld ?A0r
        case A0y => intro w hSw; (try dsimp only at hSw); go_simp <;> rfl
        simp only [Act.put, List.setIfInBounds_toArray, List.set_cons_zero, List.set_cons_succ]
        refine wpAnyH_take (i := 1) (v := ?A1v) (by simp only [List.getElem?_toArray, List.getElem?_cons_succ, List.getElem?_cons_zero] <;> rfl) (by kernel_rfl) (by kernel_rfl) (by kernel_rfl) (by exact fun _ _ _ h => h) (Or.inl ⟨by rfl, ?A1y⟩) hHeld ?A1r
        case A1y => intro w hSw; (try dsimp only at hSw); go_simp <;> rfl
        simp only [Act.put, List.setIfInBounds_toArray, List.set_cons_zero, List.set_cons_succ]
        refine wpAnyH_take (i := 2) (v := ?A2v) (by simp only [List.getElem?_toArray, List.getElem?_cons_succ, List.getElem?_cons_zero] <;> rfl) (by kernel_rfl) (by kernel_rfl) (by kernel_rfl) (by exact fun _ _ _ h => h) (Or.inl ⟨by rfl, ?A2y⟩) hHeld ?A2r
        case A2y => intro w hSw; (try dsimp only at hSw); go_simp <;> rfl
        simp only [Act.put, List.setIfInBounds_toArray, List.set_cons_zero, List.set_cons_succ]
        refine wpAnyH_take (i := 3) (v := ?A3v) (by simp only [List.getElem?_toArray, List.getElem?_cons_succ, List.getElem?_cons_zero] <;> rfl) (by kernel_rfl) (by kernel_rfl) (by kernel_rfl) (by exact fun _ _ _ h => h) (Or.inl ⟨by rfl, ?A3y⟩) hHeld ?A3r
        case A3y => intro w hSw; (try dsimp only at hSw); go_simp <;> rfl
        simp only [Act.put, List.setIfInBounds_toArray, List.set_cons_zero, List.set_cons_succ]
        refine wpAnyH_take (i := 4) (v := ?A4v) (by simp only [List.getElem?_toArray, List.getElem?_cons_succ, List.getElem?_cons_zero] <;> rfl) (by kernel_rfl) (by kernel_rfl) (by kernel_rfl) (by exact fun _ _ _ h => h) (Or.inl ⟨by rfl, ?A4y⟩) hHeld ?A4r
        case A4y => intro w hSw; (try dsimp only at hSw); go_simp <;> rfl
        simp only [Act.put, List.setIfInBounds_toArray, List.set_cons_zero, List.set_cons_succ]
        refine wpAnyH_take (i := 5) (v := ?A5v) (by simp only [List.getElem?_toArray, List.getElem?_cons_succ, List.getElem?_cons_zero] <;> rfl) (by kernel_rfl) (by kernel_rfl) (by kernel_rfl) (by exact fun _ _ _ h => h) (Or.inl ⟨by rfl, ?A5y⟩) hHeld ?A5r
        case A5y => intro w hSw; (try dsimp only at hSw); go_simp <;> rfl
        simp only [Act.put, List.setIfInBounds_toArray, List.set_cons_zero, List.set_cons_succ]
        refine wpAnyH_take (i := 6) (v := undef) (by simp only [List.getElem?_toArray, List.getElem?_cons_succ, List.getElem?_cons_zero] <;> rfl) (by kernel_rfl) (by kernel_rfl) (by kernel_rfl) (by exact fun _ _ _ h => h) (Or.inr ⟨by rfl, rfl⟩) hHeld ?A6r
        simp only [Act.put, List.setIfInBounds_toArray, List.set_cons_zero, List.set_cons_succ]
        refine wpAnyH_take (i := 7) (v := undef) (by simp only [List.getElem?_toArray, List.getElem?_cons_succ, List.getElem?_cons_zero] <;> rfl) (by kernel_rfl) (by kernel_rfl) (by kernel_rfl) (by exact fun _ _ _ h => h) (Or.inr ⟨by rfl, rfl⟩) hHeld ?A7r
        simp only [Act.put, List.setIfInBounds_toArray, List.set_cons_zero, List.set_cons_succ]
        refine wpAnyH_take (i := 8) (v := ?A8v) (by simp only [List.getElem?_toArray, List.getElem?_cons_succ, List.getElem?_cons_zero] <;> rfl) (by kernel_rfl) (by kernel_rfl) (by kernel_rfl) (by exact fun _ _ _ h => h) (Or.inl ⟨by rfl, ?A8y⟩) hHeld ?A8r
        case A8y => intro w hSw; (try dsimp only at hSw); go_simp <;> rfl
        simp only [Act.put, List.setIfInBounds_toArray, List.set_cons_zero, List.set_cons_succ]
        refine wpAnyH_take (i := 9) (v := ?A9v) (by simp only [List.getElem?_toArray, List.getElem?_cons_succ, List.getElem?_cons_zero] <;> rfl) (by kernel_rfl) (by kernel_rfl) (by kernel_rfl) (by exact fun _ _ _ h => h) (Or.inl ⟨by rfl, ?A9y⟩) hHeld ?A9r
        case A9y => intro w hSw; (try dsimp only at hSw); go_simp <;> rfl
        simp only [Act.put, List.setIfInBounds_toArray, List.set_cons_zero, List.set_cons_succ]
        refine wpAnyH_take (i := 10) (v := undef) (by simp only [List.getElem?_toArray, List.getElem?_cons_succ, List.getElem?_cons_zero] <;> rfl) (by kernel_rfl) (by kernel_rfl) (by kernel_rfl) (by exact fun _ _ _ h => h) (Or.inr ⟨by rfl, rfl⟩) hHeld ?A10r
        simp only [Act.put, List.setIfInBounds_toArray, List.set_cons_zero, List.set_cons_succ]
        refine wpAnyH_take (i := 11) (v := undef) (by simp only [List.getElem?_toArray, List.getElem?_cons_succ, List.getElem?_cons_zero] <;> rfl) (by kernel_rfl) (by kernel_rfl) (by kernel_rfl) (by exact fun _ _ _ h => h) (Or.inr ⟨by rfl, rfl⟩) hHeld ?A11r
        simp only [Act.put, List.setIfInBounds_toArray, List.set_cons_zero, List.set_cons_succ]
        refine wpAnyH_take (i := 12) (v := undef) (by simp only [List.getElem?_toArray, List.getElem?_cons_succ, List.getElem?_cons_zero] <;> rfl) (by kernel_rfl) (by kernel_rfl) (by kernel_rfl) (by exact fun _ _ _ h => h) (Or.inr ⟨by rfl, rfl⟩) hHeld ?A12r
        simp only [Act.put, List.setIfInBounds_toArray, List.set_cons_zero, List.set_cons_succ]
        refine wpAnyH_take (i := 13) (v := undef) (by simp only [List.getElem?_toArray, List.getElem?_cons_succ, List.getElem?_cons_zero] <;> rfl) (by kernel_rfl) (by kernel_rfl) (by kernel_rfl) (by exact fun _ _ _ h => h) (Or.inr ⟨by rfl, rfl⟩) hHeld ?A13r
        simp only [Act.put, List.setIfInBounds_toArray, List.set_cons_zero, List.set_cons_succ]
        refine wpAnyH_take (i := 14) (v := undef) (by simp only [List.getElem?_toArray, List.getElem?_cons_succ, List.getElem?_cons_zero] <;> rfl) (by kernel_rfl) (by kernel_rfl) (by kernel_rfl) (by exact fun _ _ _ h => h) (Or.inr ⟨by rfl, rfl⟩) hHeld ?A14r
        simp only [Act.put, List.setIfInBounds_toArray, List.set_cons_zero, List.set_cons_succ]
        refine wpAnyH_take (i := 15) (v := undef) (by simp only [List.getElem?_toArray, List.getElem?_cons_succ, List.getElem?_cons_zero] <;> rfl) (by kernel_rfl) (by kernel_rfl) (by kernel_rfl) (by exact fun _ _ _ h => h) (Or.inr ⟨by rfl, rfl⟩) hHeld ?A15r
        simp only [Act.put, List.setIfInBounds_toArray, List.set_cons_zero, List.set_cons_succ]
        refine wpAnyH_take (i := 17) (v := undef) (by simp only [List.getElem?_toArray, List.getElem?_cons_succ, List.getElem?_cons_zero] <;> rfl) (by kernel_rfl) (by kernel_rfl) (by kernel_rfl) (by exact fun _ _ _ h => h) (Or.inr ⟨by rfl, rfl⟩) hHeld ?A16r
        simp only [Act.put, List.setIfInBounds_toArray, List.set_cons_zero, List.set_cons_succ]
        refine wpAnyH_ready (rs := [16]) (by kernel_rfl) (by simp) ?_
        refine AllReadyH.cons (by simp only [List.getElem?_toArray, List.getElem?_cons_succ, List.getElem?_cons_zero] <;> rfl) (fun K hK => ?_) AllReadyH.nil
        go_simp
        refine hK.out _ _ hHeld (fun hHeld => ?_)
        clear hK K
        refine wpAnyH_ready (rs := [18]) (by kernel_rfl) (by simp) ?_
        refine AllReadyH.cons (by simp only [List.getElem?_toArray, List.getElem?_cons_succ, List.getElem?_cons_zero] <;> rfl) (fun K hK => ?_) AllReadyH.nil
        go_simp
        refine hK.out _ _ hHeld (fun hHeld => ?_)
        clear hK K
        refine wpAnyH_take (i := 19) (v := undef) (by simp only [List.getElem?_toArray, List.getElem?_cons_succ, List.getElem?_cons_zero] <;> rfl) (by kernel_rfl) (by kernel_rfl) (by kernel_rfl) (by exact fun _ _ _ h => h) (Or.inr ⟨by rfl, rfl⟩) hHeld ?A17r
        simp only [Act.put, List.setIfInBounds_toArray, List.set_cons_zero, List.set_cons_succ]
        refine wpAnyH_take (i := 20) (v := undef) (by simp only [List.getElem?_toArray, List.getElem?_cons_succ, List.getElem?_cons_zero] <;> rfl) (by kernel_rfl) (by kernel_rfl) (by kernel_rfl) (by exact fun _ _ _ h => h) (Or.inr ⟨by rfl, rfl⟩) hHeld ?A18r
        simp only [Act.put, List.setIfInBounds_toArray, List.set_cons_zero, List.set_cons_succ]
        refine wpAnyH_take (i := 21) (v := ?A19v) (by simp only [List.getElem?_toArray, List.getElem?_cons_succ, List.getElem?_cons_zero] <;> rfl) (by kernel_rfl) (by kernel_rfl) (by kernel_rfl) (by exact fun _ _ _ h => h) (Or.inl ⟨by rfl, ?A19y⟩) hHeld ?A19r
        case A19y => intro w hSw; (try dsimp only at hSw); go_simp <;> rfl
        simp only [Act.put, List.setIfInBounds_toArray, List.set_cons_zero, List.set_cons_succ]
        refine wpAnyH_done (by kernel_rfl) ?_ _
        clear hHeld
        have kd3 : Keep0 W2 W2.drew := (Keep.refl _ W2).drew
        go_wp2_with fail
        go_meet
        exact ⟨false, rfl, rfl, kd3, HD⟩
      subst hE1
      have hXok := Hok.out rfl
      by_cases hk0 : k = 0
      · have HD : Hid (LoopO s N (k + 1) (O ++ [⟨X, vo, vc, po, pc⟩]) A1 0 R) := LoopO.up (p := ⟨X, vo, vc, po, pc⟩) hlt Hl.out HR2.out HOk.out HRS.out hXok (by rw [hk0]; exact fTest_none X)
        have i8 : decide (0 < k) = false := decide_eq_false (by omega)
        have i8' : ¬ 0 < k := by omega
        have HK0 : Hid (k = 0) := hk0
        clear Hok HR2 HRS HOk HRow2 hXok hk0
        refine wp_region_held_drew (S := (fun W => W.cell? ⟨b, 2, none⟩ = some (.int .i64 0))) (by kernel_rfl) xe2 (fun hHeld => ?_)
        refine wpAnyH_take (i := 0) (v := ?B0v) (by simp only [List.getElem?_toArray, List.getElem?_cons_zero] <;> rfl) (by kernel_rfl) (by kernel_rfl) (by kernel_rfl) (by exact fun _ _ _ h => h) (Or.inl ⟨by rfl, ?B0y⟩) hHeld ?B0r
        case B0y => intro w hSw; (try dsimp only at hSw); go_simp <;> rfl
        simp only [Act.put, List.setIfInBounds_toArray, List.set_cons_zero, List.set_cons_succ]
        refine wpAnyH_take (i := 1) (v := ?B1v) (by simp only [List.getElem?_toArray, List.getElem?_cons_succ, List.getElem?_cons_zero] <;> rfl) (by kernel_rfl) (by kernel_rfl) (by kernel_rfl) (by exact fun _ _ _ h => h) (Or.inl ⟨by rfl, ?B1y⟩) hHeld ?B1r
        case B1y => intro w hSw; (try dsimp only at hSw); go_simp <;> rfl
        simp only [Act.put, List.setIfInBounds_toArray, List.set_cons_zero, List.set_cons_succ]
        refine wpAnyH_take (i := 2) (v := ?B2v) (by simp only [List.getElem?_toArray, List.getElem?_cons_succ, List.getElem?_cons_zero] <;> rfl) (by kernel_rfl) (by kernel_rfl) (by kernel_rfl) (by exact fun _ _ _ h => h) (Or.inl ⟨by rfl, ?B2y⟩) hHeld ?B2r
        case B2y => intro w hSw; (try dsimp only at hSw); go_simp <;> rfl
        simp only [Act.put, List.setIfInBounds_toArray, List.set_cons_zero, List.set_cons_succ]
        refine wpAnyH_take (i := 3) (v := ?B3v) (by simp only [List.getElem?_toArray, List.getElem?_cons_succ, List.getElem?_cons_zero] <;> rfl) (by kernel_rfl) (by kernel_rfl) (by kernel_rfl) (by exact fun _ _ _ h => h) (Or.inl ⟨by rfl, ?B3y⟩) hHeld ?B3r
        case B3y => intro w hSw; (try dsimp only at hSw); go_simp <;> rfl
        simp only [Act.put, List.setIfInBounds_toArray, List.set_cons_zero, List.set_cons_succ]
        refine wpAnyH_take (i := 4) (v := ?B4v) (by simp only [List.getElem?_toArray, List.getElem?_cons_succ, List.getElem?_cons_zero] <;> rfl) (by kernel_rfl) (by kernel_rfl) (by kernel_rfl) (by exact fun _ _ _ h => h) (Or.inl ⟨by rfl, ?B4y⟩) hHeld ?B4r
        case B4y => intro w hSw; (try dsimp only at hSw); go_simp <;> rfl
        simp only [Act.put, List.setIfInBounds_toArray, List.set_cons_zero, List.set_cons_succ]
        refine wpAnyH_take (i := 5) (v := ?B5v) (by simp only [List.getElem?_toArray, List.getElem?_cons_succ, List.getElem?_cons_zero] <;> rfl) (by kernel_rfl) (by kernel_rfl) (by kernel_rfl) (by exact fun _ _ _ h => h) (Or.inl ⟨by rfl, ?B5y⟩) hHeld ?B5r
        case B5y => intro w hSw; (try dsimp only at hSw); go_simp <;> rfl
        simp only [Act.put, List.setIfInBounds_toArray, List.set_cons_zero, List.set_cons_succ]
        refine wpAnyH_take (i := 6) (v := ?B6v) (by simp only [List.getElem?_toArray, List.getElem?_cons_succ, List.getElem?_cons_zero] <;> rfl) (by kernel_rfl) (by kernel_rfl) (by kernel_rfl) (by exact fun _ _ _ h => h) (Or.inl ⟨by rfl, ?B6y⟩) hHeld ?B6r
        case B6y => intro w hSw; (try dsimp only at hSw); go_simp <;> rfl
        simp only [Act.put, List.setIfInBounds_toArray, List.set_cons_zero, List.set_cons_succ]
        refine wpAnyH_take (i := 7) (v := ?B7v) (by simp only [List.getElem?_toArray, List.getElem?_cons_succ, List.getElem?_cons_zero] <;> rfl) (by kernel_rfl) (by kernel_rfl) (by kernel_rfl) (by exact fun _ _ _ h => h) (Or.inl ⟨by rfl, ?B7y⟩) hHeld ?B7r
        case B7y => intro w hSw; (try dsimp only at hSw); go_simp <;> rfl
        simp only [Act.put, List.setIfInBounds_toArray, List.set_cons_zero, List.set_cons_succ]
        refine wpAnyH_take (i := 8) (v := ?B8v) (by simp only [List.getElem?_toArray, List.getElem?_cons_succ, List.getElem?_cons_zero] <;> rfl) (by kernel_rfl) (by kernel_rfl) (by kernel_rfl) (by exact fun _ _ _ h => h) (Or.inl ⟨by rfl, ?B8y⟩) hHeld ?B8r
        case B8y => intro w hSw; (try dsimp only at hSw); go_simp <;> rfl
        simp only [Act.put, List.setIfInBounds_toArray, List.set_cons_zero, List.set_cons_succ]
        refine wpAnyH_take (i := 9) (v := ?B9v) (by simp only [List.getElem?_toArray, List.getElem?_cons_succ, List.getElem?_cons_zero] <;> rfl) (by kernel_rfl) (by kernel_rfl) (by kernel_rfl) (by exact fun _ _ _ h => h) (Or.inl ⟨by rfl, ?B9y⟩) hHeld ?B9r
        case B9y => intro w hSw; (try dsimp only at hSw); go_simp <;> rfl
        simp only [Act.put, List.setIfInBounds_toArray, List.set_cons_zero, List.set_cons_succ]
        refine wpAnyH_take (i := 10) (v := undef) (by simp only [List.getElem?_toArray, List.getElem?_cons_succ, List.getElem?_cons_zero] <;> rfl) (by kernel_rfl) (by kernel_rfl) (by kernel_rfl) (by exact fun _ _ _ h => h) (Or.inr ⟨by rfl, rfl⟩) hHeld ?B10r
        simp only [Act.put, List.setIfInBounds_toArray, List.set_cons_zero, List.set_cons_succ]
        refine wpAnyH_take (i := 11) (v := undef) (by simp only [List.getElem?_toArray, List.getElem?_cons_succ, List.getElem?_cons_zero] <;> rfl) (by kernel_rfl) (by kernel_rfl) (by kernel_rfl) (by exact fun _ _ _ h => h) (Or.inr ⟨by rfl, rfl⟩) hHeld ?B11r
        simp only [Act.put, List.setIfInBounds_toArray, List.set_cons_zero, List.set_cons_succ]
        refine wpAnyH_take (i := 12) (v := undef) (by simp only [List.getElem?_toArray, List.getElem?_cons_succ, List.getElem?_cons_zero] <;> rfl) (by kernel_rfl) (by kernel_rfl) (by kernel_rfl) (by exact fun _ _ _ h => h) (Or.inr ⟨by rfl, rfl⟩) hHeld ?B12r
        simp only [Act.put, List.setIfInBounds_toArray, List.set_cons_zero, List.set_cons_succ]
        refine wpAnyH_take (i := 13) (v := undef) (by simp only [List.getElem?_toArray, List.getElem?_cons_succ, List.getElem?_cons_zero] <;> rfl) (by kernel_rfl) (by kernel_rfl) (by kernel_rfl) (by exact fun _ _ _ h => h) (Or.inr ⟨by rfl, rfl⟩) hHeld ?B13r
        simp only [Act.put, List.setIfInBounds_toArray, List.set_cons_zero, List.set_cons_succ]
        refine wpAnyH_take (i := 14) (v := undef) (by simp only [List.getElem?_toArray, List.getElem?_cons_succ, List.getElem?_cons_zero] <;> rfl) (by kernel_rfl) (by kernel_rfl) (by kernel_rfl) (by exact fun _ _ _ h => h) (Or.inr ⟨by rfl, rfl⟩) hHeld ?B14r
        simp only [Act.put, List.setIfInBounds_toArray, List.set_cons_zero, List.set_cons_succ]
        refine wpAnyH_take (i := 15) (v := undef) (by simp only [List.getElem?_toArray, List.getElem?_cons_succ, List.getElem?_cons_zero] <;> rfl) (by kernel_rfl) (by kernel_rfl) (by kernel_rfl) (by exact fun _ _ _ h => h) (Or.inr ⟨by rfl, rfl⟩) hHeld ?B15r
        simp only [Act.put, List.setIfInBounds_toArray, List.set_cons_zero, List.set_cons_succ]
        refine wpAnyH_take (i := 17) (v := undef) (by simp only [List.getElem?_toArray, List.getElem?_cons_succ, List.getElem?_cons_zero] <;> rfl) (by kernel_rfl) (by kernel_rfl) (by kernel_rfl) (by exact fun _ _ _ h => h) (Or.inr ⟨by rfl, rfl⟩) hHeld ?B16r
        simp only [Act.put, List.setIfInBounds_toArray, List.set_cons_zero, List.set_cons_succ]
        refine wpAnyH_ready (rs := [16]) (by kernel_rfl) (by simp) ?_
        refine AllReadyH.cons (by simp only [List.getElem?_toArray, List.getElem?_cons_succ, List.getElem?_cons_zero] <;> rfl) (fun K hK => ?_) AllReadyH.nil
        go_simp
        refine hK.out _ _ hHeld (fun hHeld => ?_)
        clear hK K
        refine wpAnyH_ready (rs := [18]) (by kernel_rfl) (by simp) ?_
        refine AllReadyH.cons (by simp only [List.getElem?_toArray, List.getElem?_cons_succ, List.getElem?_cons_zero] <;> rfl) (fun K hK => ?_) AllReadyH.nil
        go_simp
        refine hK.out _ _ hHeld (fun hHeld => ?_)
        clear hK K
        refine wpAnyH_take (i := 19) (v := undef) (by simp only [List.getElem?_toArray, List.getElem?_cons_succ, List.getElem?_cons_zero] <;> rfl) (by kernel_rfl) (by kernel_rfl) (by kernel_rfl) (by exact fun _ _ _ h => h) (Or.inr ⟨by rfl, rfl⟩) hHeld ?B17r
        simp only [Act.put, List.setIfInBounds_toArray, List.set_cons_zero, List.set_cons_succ]
        refine wpAnyH_take (i := 20) (v := undef) (by simp only [List.getElem?_toArray, List.getElem?_cons_succ, List.getElem?_cons_zero] <;> rfl) (by kernel_rfl) (by kernel_rfl) (by kernel_rfl) (by exact fun _ _ _ h => h) (Or.inr ⟨by rfl, rfl⟩) hHeld ?B18r
        simp only [Act.put, List.setIfInBounds_toArray, List.set_cons_zero, List.set_cons_succ]
        refine wpAnyH_take (i := 21) (v := ?B19v) (by simp only [List.getElem?_toArray, List.getElem?_cons_succ, List.getElem?_cons_zero] <;> rfl) (by kernel_rfl) (by kernel_rfl) (by kernel_rfl) (by exact fun _ _ _ h => h) (Or.inl ⟨by rfl, ?B19y⟩) hHeld ?B19r
        case B19y => intro w hSw; (try dsimp only at hSw); go_simp <;> rfl
        simp only [Act.put, List.setIfInBounds_toArray, List.set_cons_zero, List.set_cons_succ]
        refine wpAnyH_done (by kernel_rfl) ?_ _
        clear hHeld
        have kd3 : Keep0 W2 W2.drew := (Keep.refl _ W2).drew
        go_wp2_with fail
        go_meet
        exact ⟨false, (by rw [HK0.out]), rfl, kd3, HD⟩
      obtain ⟨j, hj⟩ : ∃ j, j + 1 = k := ⟨k - 1, by omega⟩
      have hjl : j < O.length := by have := Hl.out; omega
      have hPA : PlsAt W2 ao O := ⟨HRow2.out, HOb2.out.ins⟩
      obtain ⟨bb, off, eao, s3, s4⟩ := hPA.at_ j hjl
      subst eao
      have hfj := HOk.out _ (List.getElem_mem hjl)
      obtain ⟨cj, hcj⟩ := clock_ok hfj.2 hfj.1
      obtain ⟨ck, hck⟩ := clock_ok hXok.2 hXok.1
      obtain ⟨b0, b1, b2, b3, b4, b5, b6⟩ := s3
      have HS4 : Hid (SibIn W2 O[j].vo O[j].po O[j].pc O[j].x) := s4
      have yj := fun W (K : Keep0 W2 W) => rclock16 W O[j].vo O[j].vc O[j].po O[j].pc O[j].x hfj.2 (HS4.out.keep0 K)
      have yk := fun W (K : Keep0 W2 W) => rclock16 W vo vc po pc X hXok.2 (HI2.out.keep0 K)
      rw [cj] at yj
      rw [ck] at yk
      have yb := fun W => rbelow_any W (kb O[j].x) (kb X) hcj hck
      have hbl : lBelow (kb O[j].x).data.toList (kb X).data.toList = bl (kb O[j].x) (kb X) := rfl
      rw [hbl] at yb
      have i6 : (k : Int) - 1 = (j : Int) := by omega
      have i7 : IntKind.i64.wrap (j : Int) = (j : Int) := by rw [IntKind.wrap_i64]; omega
      have i8 : decide (0 < k) = true := decide_eq_true (by omega)
      have i8' : 0 < k := by omega
      have i9 : (j : Int) < O.length := by omega
      have hp1 : pvk (O.map Pl.x) k = some (kb O[j].x) := by rw [← hj]; exact pvk_map hjl
      have HD1 : Hid (bl (kb O[j].x) (kb X) = true → LoopO s N (k + 1) (O ++ [⟨X, vo, vc, po, pc⟩]) A1 0 R) := fun hb => LoopO.up (p := ⟨X, vo, vc, po, pc⟩) hlt Hl.out HR2.out HOk.out HRS.out hXok (by rw [hp1]; exact fTest_up hb)
      have HD2 : Hid (bl (kb O[j].x) (kb X) = false → LoopO s N (k + 1) (O ++ [⟨X, vo, vc, po, pc⟩]) A1 6 R) := fun hb => .inr ⟨by decide, sb_down hlt HR2.out HRS.out (by rw [hp1]; exact fTest_down hb)⟩
      clear Hok HR2 HRS HOk HRow2 hXok hp1 hbl cj ck hcj hck s4 hfj hPA HS4 hj hk0
      generalize bl (kb O[j].x) (kb X) = BL at *
      generalize kb O[j].x = KA at *
      generalize kb X = KB at *
      generalize O[j] = PJ at *
      have KD : Keep0 W2 W2.drew := (Keep.refl _ W2).drew
      have z0 : W2.drew.cell? ⟨b, 2, none⟩ = some (.int .i64 0) := KD.cell xe2 (fun f => f)
      have z1 : W2.drew.cell? ⟨g3, 1, none⟩ = some (.slice (some ⟨bb, off, none⟩) O.length cap) := KD.cell t1 (fun f => f)
      have z2 : W2.drew.cell? ⟨bb, off + j * 7, none⟩ = some (.slice PJ.vo PJ.x.k.c.length PJ.vc) := KD.cell b0 (fun f => f)
      have z3 : W2.drew.cell? ⟨bb, off + j * 7 + 1, none⟩ = some (.bool PJ.x.k.d) := KD.cell b1 (fun f => f)
      have z4 : W2.drew.cell? ⟨bb, off + j * 7 + 2, none⟩ = some (.string PJ.x.k.x.a) := KD.cell b2 (fun f => f)
      have z5 : W2.drew.cell? ⟨bb, off + j * 7 + 3, none⟩ = some (.int .u64 (PJ.x.k.x.n : Int)) := KD.cell b3 (fun f => f)
      have z6 : W2.drew.cell? ⟨bb, off + j * 7 + 4, none⟩ = some (.slice PJ.po PJ.x.m.length PJ.pc) := KD.cell b4 (fun f => f)
      have z7 : W2.drew.cell? ⟨bb, off + j * 7 + 5, none⟩ = some (.bool PJ.x.d) := KD.cell b5 (fun f => f)
      have z8 : W2.drew.cell? ⟨bb, off + j * 7 + 6, none⟩ = some (.string PJ.x.v) := KD.cell b6 (fun f => f)
      have z9 : W2.drew.cell? ⟨g6, 0, none⟩ = some (.slice vo X.k.c.length vc) := KD.cell x0 (fun f => f)
      have z10 : W2.drew.cell? ⟨g6, 0 + 1, none⟩ = some (.bool X.k.d) := KD.cell x1 (fun f => f)
      have z11 : W2.drew.cell? ⟨g6, 0 + 2, none⟩ = some (.string X.k.x.a) := KD.cell x2 (fun f => f)
      have z12 : W2.drew.cell? ⟨g6, 0 + 3, none⟩ = some (.int .u64 (X.k.x.n : Int)) := KD.cell x3 (fun f => f)
      have z13 : W2.drew.cell? ⟨g6, 0 + 4, none⟩ = some (.slice po X.m.length pc) := KD.cell x4 (fun f => f)
      have z14 : W2.drew.cell? ⟨g6, 0 + 5, none⟩ = some (.bool X.d) := KD.cell x5 (fun f => f)
      have z15 : W2.drew.cell? ⟨g6, 0 + 6, none⟩ = some (.string X.v) := KD.cell x6 (fun f => f)
      have yj := fun W (K : Keep0 W2.drew W) => yj W (KD.trans K)
      have yk := fun W (K : Keep0 W2.drew W) => yk W (KD.trans K)
      refine wp_region_held_drew (S := (fun W => W.cell? ⟨b, 2, none⟩ = some (.int .i64 0) ∧ W.cell? ⟨g3, 1, none⟩ = some (.slice (some ⟨bb, off, none⟩) O.length cap) ∧ W.cell? ⟨bb, off + j * 7, none⟩ = some (.slice PJ.vo PJ.x.k.c.length PJ.vc) ∧ W.cell? ⟨bb, off + j * 7 + 1, none⟩ = some (.bool PJ.x.k.d) ∧ W.cell? ⟨bb, off + j * 7 + 2, none⟩ = some (.string PJ.x.k.x.a) ∧ W.cell? ⟨bb, off + j * 7 + 3, none⟩ = some (.int .u64 (PJ.x.k.x.n : Int)) ∧ W.cell? ⟨bb, off + j * 7 + 4, none⟩ = some (.slice PJ.po PJ.x.m.length PJ.pc) ∧ W.cell? ⟨bb, off + j * 7 + 5, none⟩ = some (.bool PJ.x.d) ∧ W.cell? ⟨bb, off + j * 7 + 6, none⟩ = some (.string PJ.x.v) ∧ W.cell? ⟨g6, 0, none⟩ = some (.slice vo X.k.c.length vc) ∧ W.cell? ⟨g6, 0 + 1, none⟩ = some (.bool X.k.d) ∧ W.cell? ⟨g6, 0 + 2, none⟩ = some (.string X.k.x.a) ∧ W.cell? ⟨g6, 0 + 3, none⟩ = some (.int .u64 (X.k.x.n : Int)) ∧ W.cell? ⟨g6, 0 + 4, none⟩ = some (.slice po X.m.length pc) ∧ W.cell? ⟨g6, 0 + 5, none⟩ = some (.bool X.d) ∧ W.cell? ⟨g6, 0 + 6, none⟩ = some (.string X.v))) (by kernel_rfl) ⟨z0, z1, z2, z3, z4, z5, z6, z7, z8, z9, z10, z11, z12, z13, z14, z15⟩ (fun hHeld => ?_)
      generalize W2.drew = WD at *
      refine wpAnyH_take (i := 0) (v := ?C0v) (by simp only [List.getElem?_toArray, List.getElem?_cons_zero] <;> rfl) (by kernel_rfl) (by kernel_rfl) (by kernel_rfl) (by exact fun _ _ _ h => h) (Or.inl ⟨by rfl, ?C0y⟩) hHeld ?C0r
      case C0y => intro w hSw; (try dsimp only at hSw); go_simp <;> rfl
      simp only [Act.put, List.setIfInBounds_toArray, List.set_cons_zero, List.set_cons_succ]
      refine wpAnyH_take (i := 1) (v := ?C1v) (by simp only [List.getElem?_toArray, List.getElem?_cons_succ, List.getElem?_cons_zero] <;> rfl) (by kernel_rfl) (by kernel_rfl) (by kernel_rfl) (by exact fun _ _ _ h => h) (Or.inl ⟨by rfl, ?C1y⟩) hHeld ?C1r
      case C1y => intro w hSw; (try dsimp only at hSw); go_simp <;> rfl
      simp only [Act.put, List.setIfInBounds_toArray, List.set_cons_zero, List.set_cons_succ]
      refine wpAnyH_take (i := 2) (v := ?C2v) (by simp only [List.getElem?_toArray, List.getElem?_cons_succ, List.getElem?_cons_zero] <;> rfl) (by kernel_rfl) (by kernel_rfl) (by kernel_rfl) (by exact fun _ _ _ h => h) (Or.inl ⟨by rfl, ?C2y⟩) hHeld ?C2r
      case C2y => intro w hSw; (try dsimp only at hSw); go_simp <;> rfl
      simp only [Act.put, List.setIfInBounds_toArray, List.set_cons_zero, List.set_cons_succ]
      refine wpAnyH_take (i := 3) (v := ?C3v) (by simp only [List.getElem?_toArray, List.getElem?_cons_succ, List.getElem?_cons_zero] <;> rfl) (by kernel_rfl) (by kernel_rfl) (by kernel_rfl) (by exact fun _ _ _ h => h) (Or.inl ⟨by rfl, ?C3y⟩) hHeld ?C3r
      case C3y => intro w hSw; (try dsimp only at hSw); go_simp <;> rfl
      simp only [Act.put, List.setIfInBounds_toArray, List.set_cons_zero, List.set_cons_succ]
      refine wpAnyH_take (i := 4) (v := ?C4v) (by simp only [List.getElem?_toArray, List.getElem?_cons_succ, List.getElem?_cons_zero] <;> rfl) (by kernel_rfl) (by kernel_rfl) (by kernel_rfl) (by exact fun _ _ _ h => h) (Or.inl ⟨by rfl, ?C4y⟩) hHeld ?C4r
      case C4y => intro w hSw; (try dsimp only at hSw); go_simp <;> rfl
      simp only [Act.put, List.setIfInBounds_toArray, List.set_cons_zero, List.set_cons_succ]
      refine wpAnyH_take (i := 5) (v := ?C5v) (by simp only [List.getElem?_toArray, List.getElem?_cons_succ, List.getElem?_cons_zero] <;> rfl) (by kernel_rfl) (by kernel_rfl) (by kernel_rfl) (by exact fun _ _ _ h => h) (Or.inl ⟨by rfl, ?C5y⟩) hHeld ?C5r
      case C5y => intro w hSw; (try dsimp only at hSw); go_simp <;> rfl
      simp only [Act.put, List.setIfInBounds_toArray, List.set_cons_zero, List.set_cons_succ]
      refine wpAnyH_take (i := 6) (v := ?C6v) (by simp only [List.getElem?_toArray, List.getElem?_cons_succ, List.getElem?_cons_zero] <;> rfl) (by kernel_rfl) (by kernel_rfl) (by kernel_rfl) (by exact fun _ _ _ h => h) (Or.inl ⟨by rfl, ?C6y⟩) hHeld ?C6r
      case C6y => intro w hSw; (try dsimp only at hSw); go_simp <;> rfl
      simp only [Act.put, List.setIfInBounds_toArray, List.set_cons_zero, List.set_cons_succ]
      refine wpAnyH_take (i := 7) (v := ?C7v) (by simp only [List.getElem?_toArray, List.getElem?_cons_succ, List.getElem?_cons_zero] <;> rfl) (by kernel_rfl) (by kernel_rfl) (by kernel_rfl) (by exact fun _ _ _ h => h) (Or.inl ⟨by rfl, ?C7y⟩) hHeld ?C7r
      case C7y => intro w hSw; (try dsimp only at hSw); go_simp <;> rfl
      simp only [Act.put, List.setIfInBounds_toArray, List.set_cons_zero, List.set_cons_succ]
      refine wpAnyH_take (i := 8) (v := ?C8v) (by simp only [List.getElem?_toArray, List.getElem?_cons_succ, List.getElem?_cons_zero] <;> rfl) (by kernel_rfl) (by kernel_rfl) (by kernel_rfl) (by exact fun _ _ _ h => h) (Or.inl ⟨by rfl, ?C8y⟩) hHeld ?C8r
      case C8y => intro w hSw; (try dsimp only at hSw); go_simp <;> rfl
      simp only [Act.put, List.setIfInBounds_toArray, List.set_cons_zero, List.set_cons_succ]
      refine wpAnyH_take (i := 9) (v := ?C9v) (by simp only [List.getElem?_toArray, List.getElem?_cons_succ, List.getElem?_cons_zero] <;> rfl) (by kernel_rfl) (by kernel_rfl) (by kernel_rfl) (by exact fun _ _ _ h => h) (Or.inl ⟨by rfl, ?C9y⟩) hHeld ?C9r
      case C9y => intro w hSw; (try dsimp only at hSw); go_simp <;> rfl
      simp only [Act.put, List.setIfInBounds_toArray, List.set_cons_zero, List.set_cons_succ]
      refine wpAnyH_take (i := 10) (v := ?C10v) (by simp only [List.getElem?_toArray, List.getElem?_cons_succ, List.getElem?_cons_zero] <;> rfl) (by kernel_rfl) (by kernel_rfl) (by kernel_rfl) (by exact fun _ _ _ h => h) (Or.inl ⟨by rfl, ?C10y⟩) hHeld ?C10r
      case C10y => intro w hSw; (try dsimp only at hSw); go_simp <;> rfl
      simp only [Act.put, List.setIfInBounds_toArray, List.set_cons_zero, List.set_cons_succ]
      refine wpAnyH_take (i := 11) (v := ?C11v) (by simp only [List.getElem?_toArray, List.getElem?_cons_succ, List.getElem?_cons_zero] <;> rfl) (by kernel_rfl) (by kernel_rfl) (by kernel_rfl) (by exact fun _ _ _ h => h) (Or.inl ⟨by rfl, ?C11y⟩) hHeld ?C11r
      case C11y => intro w hSw; (try dsimp only at hSw); go_simp <;> rfl
      simp only [Act.put, List.setIfInBounds_toArray, List.set_cons_zero, List.set_cons_succ]
      refine wpAnyH_take (i := 12) (v := ?C12v) (by simp only [List.getElem?_toArray, List.getElem?_cons_succ, List.getElem?_cons_zero] <;> rfl) (by kernel_rfl) (by kernel_rfl) (by kernel_rfl) (by exact fun _ _ _ h => h) (Or.inl ⟨by rfl, ?C12y⟩) hHeld ?C12r
      case C12y => intro w hSw; (try dsimp only at hSw); go_simp <;> rfl
      simp only [Act.put, List.setIfInBounds_toArray, List.set_cons_zero, List.set_cons_succ]
      refine wpAnyH_take (i := 13) (v := ?C13v) (by simp only [List.getElem?_toArray, List.getElem?_cons_succ, List.getElem?_cons_zero] <;> rfl) (by kernel_rfl) (by kernel_rfl) (by kernel_rfl) (by exact fun _ _ _ h => h) (Or.inl ⟨by rfl, ?C13y⟩) hHeld ?C13r
      case C13y => intro w hSw; (try dsimp only at hSw); go_simp <;> rfl
      simp only [Act.put, List.setIfInBounds_toArray, List.set_cons_zero, List.set_cons_succ]
      refine wpAnyH_take (i := 14) (v := ?C14v) (by simp only [List.getElem?_toArray, List.getElem?_cons_succ, List.getElem?_cons_zero] <;> rfl) (by kernel_rfl) (by kernel_rfl) (by kernel_rfl) (by exact fun _ _ _ h => h) (Or.inl ⟨by rfl, ?C14y⟩) hHeld ?C14r
      case C14y => intro w hSw; (try dsimp only at hSw); go_simp <;> rfl
      simp only [Act.put, List.setIfInBounds_toArray, List.set_cons_zero, List.set_cons_succ]
      refine wpAnyH_take (i := 15) (v := ?C15v) (by simp only [List.getElem?_toArray, List.getElem?_cons_succ, List.getElem?_cons_zero] <;> rfl) (by kernel_rfl) (by kernel_rfl) (by kernel_rfl) (by exact fun _ _ _ h => h) (Or.inl ⟨by rfl, ?C15y⟩) hHeld ?C15r
      case C15y => intro w hSw; (try dsimp only at hSw); go_simp <;> rfl
      simp only [Act.put, List.setIfInBounds_toArray, List.set_cons_zero, List.set_cons_succ]
      refine wpAnyH_take (i := 17) (v := ?C16v) (by simp only [List.getElem?_toArray, List.getElem?_cons_succ, List.getElem?_cons_zero] <;> rfl) (by kernel_rfl) (by kernel_rfl) (by kernel_rfl) (by exact fun _ _ _ h => h) (Or.inl ⟨by rfl, ?C16y⟩) hHeld ?C16r
      case C16y => intro w hSw; (try dsimp only at hSw); go_simp <;> rfl
      simp only [Act.put, List.setIfInBounds_toArray, List.set_cons_zero, List.set_cons_succ]
      refine wpAnyH_ready (rs := [16]) (by kernel_rfl) (by simp) ?_
      refine AllReadyH.cons (by simp only [List.getElem?_toArray, List.getElem?_cons_succ, List.getElem?_cons_zero] <;> rfl) (fun K hK => ?_) AllReadyH.nil
      go_simp
      refine (yj WD (Keep.refl _ _)).mono ?_
      rintro e u1 ⟨rfl, k1⟩
      go_wp2_with fail
      refine hK.out _ _ ⟨k1.cell z0 (fun f => f), k1.cell z1 (fun f => f), k1.cell z2 (fun f => f), k1.cell z3 (fun f => f), k1.cell z4 (fun f => f), k1.cell z5 (fun f => f), k1.cell z6 (fun f => f), k1.cell z7 (fun f => f), k1.cell z8 (fun f => f), k1.cell z9 (fun f => f), k1.cell z10 (fun f => f), k1.cell z11 (fun f => f), k1.cell z12 (fun f => f), k1.cell z13 (fun f => f), k1.cell z14 (fun f => f), k1.cell z15 (fun f => f)⟩ (fun hHeld => ?_)
      clear hK K
      refine wpAnyH_ready (rs := [18]) (by kernel_rfl) (by simp) ?_
      refine AllReadyH.cons (by simp only [List.getElem?_toArray, List.getElem?_cons_succ, List.getElem?_cons_zero] <;> rfl) (fun K hK => ?_) AllReadyH.nil
      go_simp
      refine (yk u1 k1).mono ?_
      rintro e u2 ⟨rfl, k2x⟩
      have k2 := k1.trans k2x
      clear k2x
      go_wp2_with fail
      refine hK.out _ _ ⟨k2.cell z0 (fun f => f), k2.cell z1 (fun f => f), k2.cell z2 (fun f => f), k2.cell z3 (fun f => f), k2.cell z4 (fun f => f), k2.cell z5 (fun f => f), k2.cell z6 (fun f => f), k2.cell z7 (fun f => f), k2.cell z8 (fun f => f), k2.cell z9 (fun f => f), k2.cell z10 (fun f => f), k2.cell z11 (fun f => f), k2.cell z12 (fun f => f), k2.cell z13 (fun f => f), k2.cell z14 (fun f => f), k2.cell z15 (fun f => f)⟩ (fun hHeld => ?_)
      clear hK K
      refine wpAnyH_ready (rs := [19]) (by kernel_rfl) (by simp) ?_
      refine AllReadyH.cons (by simp only [List.getElem?_toArray, List.getElem?_cons_succ, List.getElem?_cons_zero] <;> rfl) (fun K hK => ?_) AllReadyH.nil
      go_simp
      refine (yb u2).mono ?_
      rintro e W3 ⟨rfl, hu3⟩
      have k3 := k2.trans (keepN hu3)
      clear hu3
      go_wp2_with fail
      refine hK.out _ _ ⟨k3.cell z0 (fun f => f), k3.cell z1 (fun f => f), k3.cell z2 (fun f => f), k3.cell z3 (fun f => f), k3.cell z4 (fun f => f), k3.cell z5 (fun f => f), k3.cell z6 (fun f => f), k3.cell z7 (fun f => f), k3.cell z8 (fun f => f), k3.cell z9 (fun f => f), k3.cell z10 (fun f => f), k3.cell z11 (fun f => f), k3.cell z12 (fun f => f), k3.cell z13 (fun f => f), k3.cell z14 (fun f => f), k3.cell z15 (fun f => f)⟩ (fun hHeld => ?_)
      clear hK K
      refine wpAnyH_take (i := 20) (v := ?C17v) (by simp only [List.getElem?_toArray, List.getElem?_cons_succ, List.getElem?_cons_zero] <;> rfl) (by kernel_rfl) (by kernel_rfl) (by kernel_rfl) (by exact fun _ _ _ h => h) (Or.inl ⟨by rfl, ?C17y⟩) hHeld ?C17r
      case C17y => intro w hSw; (try dsimp only at hSw); go_simp <;> rfl
      simp only [Act.put, List.setIfInBounds_toArray, List.set_cons_zero, List.set_cons_succ]
      refine wpAnyH_take (i := 21) (v := ?C18v) (by simp only [List.getElem?_toArray, List.getElem?_cons_succ, List.getElem?_cons_zero] <;> rfl) (by kernel_rfl) (by kernel_rfl) (by kernel_rfl) (by exact fun _ _ _ h => h) (Or.inl ⟨by rfl, ?C18y⟩) hHeld ?C18r
      case C18y => intro w hSw; (try dsimp only at hSw); go_simp <;> rfl
      simp only [Act.put, List.setIfInBounds_toArray, List.set_cons_zero, List.set_cons_succ]
      refine wpAnyH_done (by kernel_rfl) ?_ _
      clear hHeld
      have kd3 : Keep0 W2 W3 := KD.trans k3
      go_wp2_with fail
      cases BL with
      | true =>
        go_meet
        exact ⟨false, rfl, rfl, kd3, HD1.out rfl⟩
      | false =>
        go_meet
        exact ⟨true, rfl, rfl, kd3, HD2.out rfl⟩
    case rest =>
      obtain ⟨B, rfl, rfl, Hk3, HD⟩ := hcut
      obtain ⟨W3, hW3⟩ : ∃ z : World, z = wc := ⟨_, rfl⟩
      subst hW3
      clear Hok HR2 HRS HOk HRow2
      go_upto_if 73 with fail
      go_cut [] from 38 to 82 (fun wx => ∃ E3 : Int, Hid (Keep1 b W2 wx) ∧ Hid (Cur wx b s A1 E3) ∧ Hid (LoopO s N (k + 1) (O ++ [⟨X, vo, vc, po, pc⟩]) A1 E3 R))
      case first =>
        cases B with
        | true =>
          have HkV : Hid (Keep1 b W2 (W3.setCell ⟨b, 2, none⟩ (.int .i64 6))) := (Hk3.out.any (R := fun i => i = b)).trans (set_keep1 _ _ _ _)
          have HcV : Hid (Cur (W3.setCell ⟨b, 2, none⟩ (.int .i64 6)) b s A1 6) := (HC2.out.keep0 Hk3.out).setErr 6
          obtain ⟨ye0, ye1, ye2, ye3, ye4⟩ := (HC2.out.keep0 Hk3.out).cells
          go_wp2_with fail
          go_meet
          exact ⟨6, HkV, HcV, HD⟩
        | false =>
          have HkV : Hid (Keep1 b W2 W3) := Hk3.out.any
          have HcV : Hid (Cur W3 b s A1 E1) := HC2.out.keep0 Hk3.out
          go_wp2_with fail
          go_meet
          exact ⟨E1, HkV, HcV, HD⟩
      case rest =>
        obtain ⟨E3, HkV, HcV0, HD⟩ := hcut
        have kV := HkV.out
        have cV := HcV0.out
        have nB : ∀ g, g2 + 2 ≤ g → ¬ g = b := fun g hg e => by have := HB.out; have := HG2.out; omega
        have q2V := HQ2b.out.keep kV n2
        have q3V := HQ3b.out.keep kV n3
        have oV := HOb2.out.keep kV nB
        have iV : SibIn wc vo po pc X := ⟨HI2.out.ens.keep kV (fun g off m e => nB g (HFv.out g off m e).1), HI2.out.prs.keep kV (fun g off m e => nB g (HFp.out g off m e).1), HI2.out.room⟩
        have KV := HK2.out.trans kV
        have hzV : g2 + 2 ≤ wc.heap.size := by have := kV.size; have := HZ2.out; omega
        have y0 := kV.cell x0 hg6
        have y1 := kV.cell x1 hg6
        have y2 := kV.cell x2 hg6
        have y3 := kV.cell x3 hg6
        have y4 := kV.cell x4 hg6
        have y5 := kV.cell x5 hg6
        have y6 := kV.cell x6 hg6
        obtain ⟨p0, p1, ph0, ph1⟩ := q3V.cells
        have kS : Keep0 wc (wc.alloc (.cells #[.slice vo X.k.c.length vc, .bool X.k.d, .string X.k.x.a, .int .u64 (X.k.x.n : Int), .slice po X.m.length pc, .bool X.d, .string X.v] 61)) := (Keep.refl _ wc).alloc _
        have hsrc := pl_new wc 61 ⟨X, vo, vc, po, pc⟩
        have oVA := oV.keep0 kS
        have hrow := oVA.row
        have hB2 : g2 + 2 ≤ (wc.alloc (.cells #[.slice vo X.k.c.length vc, .bool X.k.d, .string X.k.x.a, .int .u64 (X.k.x.n : Int), .slice po X.m.length pc, .bool X.d, .string X.v] 61)).heap.size := by have := kS.size; omega
        have hlen : O.length + [(⟨X, vo, vc, po, pc⟩ : Pl)].length ≤ 1000000 := by show _ + 1 ≤ _; have := HN16.out; omega
        have HcV : Hid (Cur (wc.alloc (.cells #[.slice vo X.k.c.length vc, .bool X.k.d, .string X.k.x.a, .int .u64 (X.k.x.n : Int), .slice po X.m.length pc, .bool X.d, .string X.v] 61)) b s A1 E3) := cV.keep0 kS
        have HqV : Hid (DAt (wc.alloc (.cells #[.slice vo X.k.c.length vc, .bool X.k.d, .string X.k.x.a, .int .u64 (X.k.x.n : Int), .slice po X.m.length pc, .bool X.d, .string X.v] 61)) g2 (.string ⟨#[]⟩) (.slice none 0 0)) := q2V.keep0 kS
        have HrV : Hid (DAt (wc.alloc (.cells #[.slice vo X.k.c.length vc, .bool X.k.d, .string X.k.x.a, .int .u64 (X.k.x.n : Int), .slice po X.m.length pc, .bool X.d, .string X.v] 61)) g3 (.string KT) (.slice ao O.length cap)) := q3V.keep0 kS
        have HoV : Hid (OwnP (g2 + 2) (wc.alloc (.cells #[.slice vo X.k.c.length vc, .bool X.k.d, .string X.k.x.a, .int .u64 (X.k.x.n : Int), .slice po X.m.length pc, .bool X.d, .string X.v] 61)) (.slice ao O.length cap) O) := oVA
        have HiV : Hid (SibIn (wc.alloc (.cells #[.slice vo X.k.c.length vc, .bool X.k.d, .string X.k.x.a, .int .u64 (X.k.x.n : Int), .slice po X.m.length pc, .bool X.d, .string X.v] 61)) vo po pc X) := iV.keep0 kS
        have HKV : Hid (Keep1 b w (wc.alloc (.cells #[.slice vo X.k.c.length vc, .bool X.k.d, .string X.k.x.a, .int .u64 (X.k.x.n : Int), .slice po X.m.length pc, .bool X.d, .string X.v] 61))) := KV.step0 kS
        have HzV : Hid (g2 + 2 ≤ (wc.alloc (.cells #[.slice vo X.k.c.length vc, .bool X.k.d, .string X.k.x.a, .int .u64 (X.k.x.n : Int), .slice po X.m.length pc, .bool X.d, .string X.v] 61)).heap.size) := hB2
        clear cV q2V q3V oV iV KV hzV kV HkV HcV0 nB Hk3 oVA kS x0 x1 x2 x3 x4 x5 x6 xe0 xe1 xe2 xe3 xe4 t0 t1 h0 h1 HC2 HQ2b HQ3b HOb2 HI2 HK2 HZ2
        go_wp2_with (at_builtin; refine wpList_append_row_at plT rfl _ _ rfl rfl rfl hrow hsrc hB2 hlen ?_)
        intro v' w4 g1 g4 g5
        have g1 : w4.ownsRow (g2 + 2) 61 7 v' (O ++ [(⟨X, vo, vc, po, pc⟩ : Pl)]).length (rowOf Pl.cells (O ++ [(⟨X, vo, vc, po, pc⟩ : Pl)])) := by first | exact g1 | (rw [List.length_append]; exact g1)
        have o4 := HoV.out.more (p := ⟨X, vo, vc, po, pc⟩) HiV.out HFv.out HFp.out g1 g4 (by first | exact g5 | (rw [World.size_alloc]; exact g5))
        obtain ⟨ao5, an5, ac5, rfl⟩ := sliceE_of_own g1
        have k4 := keep_grown g4
        have hn4 : ∀ g, Value.ownBlock (.slice ao O.length cap) = some g → g2 + 2 ≤ g := fun g e => (HoV.out.lt g e).1
        have c4 := HcV.out.keep k4 (fun e => by have := hn4 _ e; have := HB.out; have := HG2.out; omega)
        have q4 := HqV.out.keep k4 (fun e => by have := hn4 _ e; omega)
        have r4 := HrV.out.keep k4 (fun e => by have := hn4 _ e; have := HG3.out; omega)
        have K4 := HKV.out.step k4 (fun i hi e => by have := hn4 _ e; have := HG2.out; omega)
        have z4 : g2 + 2 ≤ w4.heap.size := by have := g4.size; have := HzV.out; omega
        have k5 : Keep1 g3 w4 (w4.setCell ⟨g3, 1, none⟩ (.slice ao5 an5 ac5)) := set_keep1 _ _ _ _
        have HC5 : Hid (Cur (w4.setCell ⟨g3, 1, none⟩ (.slice ao5 an5 ac5)) b s A1 E3) := c4.keep k5 (fun e => n3 e.symm)
        have HQ5 : Hid (DAt (w4.setCell ⟨g3, 1, none⟩ (.slice ao5 an5 ac5)) g2 (.string ⟨#[]⟩) (.slice none 0 0)) := q4.keep k5 n23
        have HR5 : Hid (DAt (w4.setCell ⟨g3, 1, none⟩ (.slice ao5 an5 ac5)) g3 (.string KT) (.slice ao5 an5 ac5)) := r4.set1 _
        have HO5 : Hid (OwnP (g2 + 2) (w4.setCell ⟨g3, 1, none⟩ (.slice ao5 an5 ac5)) (.slice ao5 an5 ac5) (O ++ [⟨X, vo, vc, po, pc⟩])) := o4.keep k5 (fun g hg e => by have := HG3.out; omega)
        have HK5 : Hid (Keep1 b w (w4.setCell ⟨g3, 1, none⟩ (.slice ao5 an5 ac5))) := K4.step1 k5 (by have := HG2.out; have := HG3.out; omega)
        have HZ5 : Hid (g2 + 2 ≤ (w4.setCell ⟨g3, 1, none⟩ (.slice ao5 an5 ac5)).heap.size) := by show _ ≤ _; have := k5.size; omega
        obtain ⟨p0, p1, ph0, ph1⟩ := r4.cells
        clear g1 g4 g5 o4 k4 hn4 c4 q4 r4 K4 z4 k5 hsrc hrow hB2 hlen y0 y1 y2 y3 y4 y5 y6 HcV HqV HrV HoV HiV HKV HzV HFv HFp
        go_wp2
        go_roundw
        case rel => exact ⟨k + 1, O ++ [⟨X, vo, vc, po, pc⟩], A1, E3, _, by go_num, by omega, HC5, HQ5, HR5, HO5, by rw [List.length_append]; show _ + 1 ≤ _; omega, HK5, HZ5, HD⟩
        case measure => simp [intOf]; omega
end Go.Proofs.YtoefibkhlhmlfaaGreat
