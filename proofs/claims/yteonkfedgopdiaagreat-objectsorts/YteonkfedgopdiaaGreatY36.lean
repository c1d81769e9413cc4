/-
  What this seat's claims lean on of the texts RefObj4, RefObj5.
  Conditions: as each theorem states.
-/
import Derived.WalkKit
import Derived.ProofKit
import Derived.Below
import Derived.Deep.Draws
import Derived.Deep.RegionHeld
import Derived.Test.YteonkfedgopdiaaGreatChecked
import Derived.OpenShut
import Derived.ShutString
import Derived.WalkSpells
import Derived.WalkLawsBesides
import Derived.Deep.QuietTactic
import Derived.BigQuiet
import Derived.Laws.Bits64b
import Derived.PlainAid
import Derived.Lib.AppendStr
import Derived.Deep.AppendLies
import Derived.Laws.IdiomStrings
import Derived.Laws.BytesArg
import Derived.Deep.RegionWith
import Derived.Laws.AppendOwn
import Derived.Deep.DeepAppendWide
import Derived.Deep.Upon
import Derived.Maps.AppendAt
import Derived.Laws.Rows
import Derived.Deep.Slices
import Derived.Test.YteonkfedgopdiaaGreatY34
import Derived.Test.YteonkfedgopdiaaGreatY31
import Derived.Deep.CutRange
import Derived.Test.YteonkfedgopdiaaGreatY35
namespace Go.Proofs.YteonkfedgopdiaaGreat
open Go.RowKit
def SibsOff (w : World) (b : Nat) (ao : Option Addr) (l : List Sb) : Prop := ∀ i (_ : i < l.length), ∃ bb off vo vc po pc, ao = some ⟨bb, off, none⟩ ∧ bb ≠ b ∧ SibAt w bb (off + i * 7) l[i] vo vc po pc ∧ SibIn w vo po pc l[i] ∧ (0 < l[i].k.c.length → ApartE (fun k => k = b) vo) ∧ (0 < l[i].m.length → ApartE (fun k => k = b) po)
theorem SibsOff.sibs {w : World} {b : Nat} {ao : Option Addr} {l : List Sb} (h : SibsOff w b ao l) : SibsAt w ao l := by
  intro i hi
  obtain ⟨bb, off, vo, vc, po, pc, e, _, h1, h2, _, _⟩ := h i hi
  exact ⟨bb, off, vo, vc, po, pc, e, h1, h2⟩
theorem SibsOff.old {w0 w : World} {b : Nat} {ao : Option Addr} {l : List Sb} (h : SibsAt w0 ao l) (k : Keep0 w0 w) (hb : w0.heap.size ≤ b) : SibsOff w b ao l := by
  intro i hi
  obtain ⟨bb, off, vo, vc, po, pc, e, h1, h2⟩ := h i hi
  have hbB := World.block_lt_of_cell? w0 _ h1.c0
  simp only at hbB
  exact ⟨bb, off, vo, vc, po, pc, e, by omega, h1.keep0 k, h2.keep0 k, fun hl g o m e' hh => by have := ens_old h2.ens hl g o m e'; omega, fun hl g o m e' hh => by have := prs_old h2.prs hl g o m e'; omega⟩
theorem SibsOff.keep {w w' : World} {b : Nat} {ao : Option Addr} {l : List Sb} (h : SibsOff w b ao l) (K : Keep1 b w w') : SibsOff w' b ao l := by
  intro i hi
  obtain ⟨bb, off, vo, vc, po, pc, e, hb, h1, h2, h3, h4⟩ := h i hi
  refine ⟨bb, off, vo, vc, po, pc, e, hb, h1.keep K hb, ⟨?_, ?_, h2.room⟩, h3, h4⟩
  · by_cases hz : 0 < l[i].k.c.length
    · exact h2.ens.keep K (h3 hz)
    · exact fun j hj => absurd hj (by omega)
  · by_cases hz : 0 < l[i].m.length
    · exact h2.prs.keep K (h4 hz)
    · exact fun j hj => absurd hj (by omega)
theorem SibsOff.keep0 {w w' : World} {b : Nat} {ao : Option Addr} {l : List Sb} (h : SibsOff w b ao l) (K : Keep0 w w') : SibsOff w' b ao l := h.keep K.any
theorem wCount_fit {M m : Int} {p : ByteArray × Int} {n : Nat} (h : (n : Int) ≤ pMax m) : wCount M m p (n : Int) = pOne M p (vText n) := by
  unfold wCount
  rw [if_neg (by omega), if_pos h]
  rfl
set_option maxRecDepth 100000 in
set_option maxHeartbeats 8000000 in
theorem rput16_any {w : World} {b : Nat} {t : ByteArray} {M x : Int} (h : RPen w b t M x) (ht : t.size ≤ 700000000) (ao : Option Addr) (cap : Nat) (key : ByteArray) (l : List Sb) (hk : key.size ≤ maxLen) (hl : l.length ≤ maxLen) (hf : ∀ x ∈ l, FitsS x) (hc : SibsOff w b ao l) :
    Calls Tryz.prog 26 #[pptr b, .agg #[.string key, .slice ao l.length cap]] w fun e w' => e = .returned (.tuple #[]) ∧ RPen w' b (pOb M (t, x) ⟨key, l⟩).1 M (pOb M (t, x) ⟨key, l⟩).2 ∧ Keep1 b w w' := by
  have hbl := h.lt
  have i1 : (l.length : Int) ≤ 9223372036854775807 := by unfold maxLen at hl; omega
  have kA : Keep0 w (w.alloc (.cells #[.string key, .slice ao l.length cap] 24)) := (Keep.refl _ w).alloc _
  have x0 : (w.alloc (.cells #[.string key, .slice ao l.length cap] 24)).cell? ⟨w.heap.size, 0, none⟩ = some (.string key) := cell_alloc w _ rfl
  have x1 : (w.alloc (.cells #[.string key, .slice ao l.length cap] 24)).cell? ⟨w.heap.size, 1, none⟩ = some (.slice ao l.length cap) := cell_alloc w _ rfl
  have hP0 := h.keep0 kA
  have hc0 := hc.keep0 kA
  have yc := rcheck16_any (w.alloc (.cells #[.string key, .slice ao l.length cap] 24)) ao cap key l hk hl hf hc0.sibs
  by_cases h0 : oCheck ⟨key, l⟩ = 0
  case neg =>
    rw [pOb_no h0]
    have e0 : (oCheck ⟨key, l⟩ != 0) = true := by simpa using h0
    have yf := fun W (h : RPen W b t M x) => rpfail_any (oCheck ⟨key, l⟩) h
    clear h0 hc0 hc hf
    generalize oCheck ⟨key, l⟩ = C at *
    go_enter Tryz.func26, Tryz.ntmps26
    go_wp2_with fail
    generalize (w.alloc (.cells #[.string key, .slice ao l.length cap] 24)) = W0 at *
    generalize w.heap.size = g at *
    refine yc.mono ?_
    rintro e w1 ⟨rfl, k1⟩
    have yf := yf _ (hP0.keep0 k1)
    have K1 := kA.trans k1
    clear yc k1 kA hP0
    go_wp2_with fail
    refine yf.mono ?_
    rintro e w2 ⟨rfl, h2, k2⟩
    have K2 : Keep1 b w w2 := (K1.any (R := fun k => k = b)).trans k2
    clear yf k2 K1
    go_wp2
    (try simp only [Exit.inBlock, Exit.then])
    refine bodyPost_ret (results_none rfl _ _ _) rfl ?_
    exact ⟨rfl, h2, K2⟩
  rw [h0] at yc
  rw [pOb_yes h0]
  obtain ⟨s1, s2⟩ := oCheck_zero.1 h0
  have s1 := outS_zero.1 s1
  have s1 : 0 < key.size ∧ key.size ≤ 128 ∧ 0 < l.length ∧ l.length ≤ 16 := s1
  have hts : (t, x).1.size = t.size := rfl
  have y1 := fun W (h : RPen W b t M x) => rbput_any 128 (by decide) key h (by omega)
  have z1 := wPut_size M 128 (t, x) key (by omega)
  show Calls _ _ _ _ fun e w' => e = .returned (.tuple #[]) ∧ RPen w' b (pSibs M (pOne M (wPut M 128 (t, x) key) (vText l.length)) l).1 M (pSibs M (pOne M (wPut M 128 (t, x) key) (vText l.length)) l).2 ∧ Keep1 b w w'
  obtain ⟨P1, hP1⟩ : ∃ P1, wPut M 128 (t, x) key = P1 := ⟨_, rfl⟩
  rw [hP1] at y1 z1 ⊢
  have y2 := fun W (h : RPen W b P1.1 M P1.2) => rpcount_any 16 (l.length : Int) (by decide) i1 h (by omega)
  have e1 : (P1.1, P1.2) = P1 := rfl
  rw [e1, wCount_fit (by rw [pMax16]; omega)] at y2
  have z2 := pOne_size M P1 (vText l.length)
  have z3 := (vText_le (n := l.length) (by omega)).2
  obtain ⟨P2, hP2⟩ : ∃ P2, pOne M P1 (vText l.length) = P2 := ⟨_, rfl⟩
  rw [hP2] at y2 z2 ⊢
  obtain ⟨R, hR⟩ : ∃ R, pSibs M P2 l = R := ⟨_, rfl⟩
  rw [hR]
  have HR : Hid (pSibs M P2 l = R) := hR
  have HP2 : Hid (P2.1.size ≤ 700001000) := by show _ ≤ _; omega
  have HC : Hid (SibsOff (w.alloc (.cells #[.string key, .slice ao l.length cap] 24)) b ao l) := hc0
  have HF : Hid (∀ x ∈ l, FitsS x) := hf
  have HL : Hid (l.length ≤ 16) := s1.2.2.2
  clear h0 s1 s2 hts z1 z2 z3 e1 hP1 hP2 hc0 hc hf hR
  go_enter Tryz.func26, Tryz.ntmps26
  go_wp2_with fail
  generalize (w.alloc (.cells #[.string key, .slice ao l.length cap] 24)) = W0 at *
  generalize hg : w.heap.size = g at *
  have hgb : g ≠ b := by omega
  refine yc.mono ?_
  rintro e w1 ⟨rfl, k1⟩
  have y1 := y1 _ (hP0.keep0 k1)
  have HC1 : Hid (SibsOff w1 b ao l) := HC.out.keep0 k1
  have K1 := kA.trans k1
  replace x0 := k1.cell x0 (fun f => f)
  replace x1 := k1.cell x1 (fun f => f)
  clear yc k1 kA hP0 HC
  go_wp2_with fail
  refine y1.mono ?_
  rintro e w2 ⟨rfl, h2, k2⟩
  have K2 : Keep1 b w w2 := (K1.any (R := fun k => k = b)).trans k2
  have HC2 : Hid (SibsOff w2 b ao l) := HC1.out.keep k2
  have y2 := y2 _ h2
  replace x1 := k2.cell x1 hgb
  clear y1 k2 K1 h2 x0 HC1
  go_wp2_with fail
  refine y2.mono ?_
  rintro e w3 ⟨rfl, h3, k3⟩
  have K3 := K2.trans k3
  have HC3 : Hid (SibsOff w3 b ao l) := HC2.out.keep k3
  replace x1 := k3.cell x1 hgb
  clear y2 k3 K2 HC2
  go_wp2_with fail
  go_loopw [5] (fun i wr => ∃ (k : Nat), i = .int .i64 (k : Int) ∧ k ≤ l.length ∧ RPen wr b (pSibs M P2 (l.take k)).1 M (pSibs M P2 (l.take k)).2 ∧ Hid (SibsOff wr b ao l) ∧ wr.cell? ⟨g, 1, none⟩ = some (.slice ao l.length cap) ∧ Keep1 b w wr) (fun i _ => l.length - (intOf i).toNat)
  case atStart => exact ⟨0, rfl, by omega, h3, HC3, x1, K3⟩
  case round =>
    obtain ⟨k, rfl, hk, hp, HCr, xk, hK⟩ := hrel
    clear h3 HC3 x1 K3
    by_cases hlt : k < l.length
    · have j1 : (k : Int) < l.length := by omega
      obtain ⟨bb, off, vo, vc, po, pc, rfl, hbb, s1, s2, s3, s4⟩ := HCr.out k hlt
      obtain ⟨a0, a1, a2, a3, a4, a5, a6⟩ := s1
      have hps := pSibs_sizeU M (l.take k) P2 (fun y hy => (HF.out y (List.mem_of_mem_take hy)).u)
      rw [List.length_take, Nat.min_eq_left (by omega)] at hps
      have hL := HL.out
      have hP2 := HP2.out
      have yp := rput15 hp (by omega) vo vc po pc l[k] (HF.out _ (List.getElem_mem hlt)) s2 s3 s4
      have HS : Hid (pSibs M P2 (l.take (k + 1)) = pSib M (pSibs M P2 (l.take k)) l[k]) := pSibs_take hlt
      have hE : ((pSibs M P2 (l.take k)).1, (pSibs M P2 (l.take k)).2) = pSibs M P2 (l.take k) := rfl
      rw [hE, ← HS.out] at yp
      obtain ⟨P3, hP3⟩ : ∃ P3, pSibs M P2 (l.take (k + 1)) = P3 := ⟨_, rfl⟩
      rw [hP3] at yp
      have HS2 : Hid (pSibs M P2 (l.take (k + 1)) = P3) := hP3
      clear hP3 HS hE hps hL hP2 s2 s3 s4 hp
      generalize l[k] = X at *
      go_wp2_with fail
      refine yp.mono ?_
      rintro e w4 ⟨rfl, h4, k4⟩
      have K4 := hK.trans k4
      have HC4 : Hid (SibsOff w4 b (some ⟨bb, off, none⟩) l) := HCr.out.keep k4
      replace xk := k4.cell xk hgb
      clear yp k4 hK HCr a0 a1 a2 a3 a4 a5 a6
      go_wp2
      go_roundw
      case rel => exact ⟨k + 1, by go_num, by omega, by rw [HS2.out]; exact h4, HC4, xk, K4⟩
      case measure => simp [intOf]; omega
    · have j1 : ¬ (k : Int) < l.length := by omega
      have ek : l.take k = l := List.take_of_length_le (by omega)
      rw [ek, HR.out] at hp
      go_wp2
      go_end0
      exact ⟨rfl, hp, hK⟩
end Go.Proofs.YteonkfedgopdiaaGreat
namespace Go.Proofs.YteonkfedgopdiaaGreat
open Go.RowKit
theorem okSib_fit {x : Sb} (h : okSib x) : FitsS x := by
  have hR := (right_iff _).1 h.1.1
  have h1 := (check_zero _).1 hR.vec
  obtain ⟨h2, h3⟩ := (qCheck_zero _).1 h.2.1
  refine ⟨⟨⟨by unfold maxLen; omega, fun y hy => ⟨by have := (hR.good.1 y hy).2.1; unfold maxLen; omega, h.1.2.1 y hy⟩⟩, ?_, h.1.2.2⟩, ⟨by unfold maxLen; omega, fun y hy => by have := h3.1 y hy; unfold Pr.ok at this; unfold maxLen; omega⟩, by have := h.2.2; unfold maxLen; omega⟩
  cases hd : x.k.d with
  | true => have := (hR.dot hd).1.2.1; unfold maxLen; omega
  | false => have := (hR.plain hd).1; omega
theorem NewL.lower {B B' : Nat} {w : World} {ao : Option Addr} {L : List Pl} (h : NewL B w ao L) (hB : B' ≤ B) : NewL B' w ao L :=
  ⟨h.at_, fun g off m e => Nat.le_trans hB (h.own g off m e), fun p hp g off m e => Nat.le_trans hB (h.vec p hp g off m e), fun p hp g off m e => Nat.le_trans hB (h.prs p hp g off m e)⟩
theorem ob_end {s : ByteArray} {a BA CA : Int} {KT : ByteArray} {N : Nat} (hk : rKey s a = (KT, BA, 0)) (hc : kErr s BA 0 16 = 0) (hN : kNum s BA 0 16 = (N : Int)) (h0 : N ≠ 0) (hA : tAt s BA 0 = CA) {R : List Sb × Int × Int} (hR : liftS [] (rSibs N none s CA) = R) : rOb s a = if R.2.2 = 0 then ((⟨KT, R.1⟩ : Ob), R.2) else (zOb, R.2) := by
  obtain ⟨h1, h2⟩ := obT_3 hc (by rw [hN]; omega)
  rw [hN, hA, Int.toNat_natCast, hR] at h1 h2
  rw [ob_rest hk, h1, h2]
theorem sb_bad {N k : Nat} (hk : k < N) {O : List Sb} {p : Option ByteArray} {s : ByteArray} {A A1 E1 : Int} {X : Sb} {R : List Sb × Int × Int} (hR : R = liftS O (rSibs (N - k) p s A)) (hS : rSib s A = (X, A1, E1)) (h : E1 ≠ 0) : R = ([], A1, E1) := by
  obtain ⟨n, hn⟩ : ∃ n, N - k = n + 1 := ⟨N - k - 1, by omega⟩
  have e := sibT_a (s := s) (a := A) (p := p) (by rw [hS]; exact h)
  rw [hR, hn, sibs_bad O (by rw [e, hS]; exact h), e, hS]
theorem sb_down {N k : Nat} (hk : k < N) {O : List Sb} {p : Option ByteArray} {s : ByteArray} {A A1 : Int} {X : Sb} {R : List Sb × Int × Int} (hR : R = liftS O (rSibs (N - k) p s A)) (hS : rSib s A = (X, A1, 0)) (h : fTest p X = 6) : R = ([], A1, 6) := by
  obtain ⟨n, hn⟩ : ∃ n, N - k = n + 1 := ⟨N - k - 1, by omega⟩
  have e := sibT_b (s := s) (a := A) (p := p) (by rw [hS]) (by rw [hS, h]; decide)
  rw [hS] at e
  rw [hR, hn, sibs_bad O (by rw [e, h]; show (6 : Int) ≠ 0; decide), e, h]
theorem sb_up {N k : Nat} (hk : k < N) {O : List Sb} {p : Option ByteArray} {s : ByteArray} {A A1 : Int} {X : Sb} {R : List Sb × Int × Int} (hR : R = liftS O (rSibs (N - k) p s A)) (hS : rSib s A = (X, A1, 0)) (h : fTest p X = 0) : R = liftS (O ++ [X]) (rSibs (N - (k + 1)) (some (kb X)) s A1) := by
  obtain ⟨n, hn⟩ : ∃ n, N - k = n + 1 := ⟨N - k - 1, by omega⟩
  have hn2 : N - (k + 1) = n := by omega
  have e := sibT_c (s := s) (a := A) (p := p) (by rw [hS]) (by rw [hS]; exact h)
  rw [hS] at e
  rw [hR, hn, hn2, sibs_more O (by rw [e]), e]
  rfl
theorem fTest_none (X : Sb) : fTest none X = 0 := fTest_zero.2 (fun q e => by cases e)
theorem fTest_up {q : ByteArray} {X : Sb} (h : bl q (kb X) = true) : fTest (some q) X = 0 := fTest_zero.2 (fun q' e => by cases e; exact h)
theorem fTest_down {q : ByteArray} {X : Sb} (h : bl q (kb X) = false) : fTest (some q) X = 6 := by
  unfold fTest
  rw [falls_some]
  have e : bl q (eClk X.k) = false := h
  rw [e]
  rfl
theorem pvk_map {O : List Pl} {j : Nat} (h : j < O.length) : pvk (O.map Pl.x) (j + 1) = some (kb O[j].x) := by
  rw [pvk_succ (by rw [List.length_map]; exact h), List.getElem_map]
theorem pvk_last {O : List Pl} {p : Pl} {k : Nat} (h : O.length = k) : pvk ((O ++ [p]).map Pl.x) (k + 1) = some (kb p.x) := by
  subst h
  rw [pvk_map (by rw [List.length_append]; exact Nat.lt_succ_self _)]
  congr 2
  rw [List.getElem_append_right (Nat.le_refl _)]
  simp
def LoopO (s : ByteArray) (N k : Nat) (O : List Pl) (A E : Int) (R : List Sb × Int × Int) : Prop :=
  (E = 0 ∧ O.length = k ∧ R = liftS (O.map Pl.x) (rSibs (N - k) (pvk (O.map Pl.x) k) s A) ∧ ∀ p ∈ O, sCheck p.x = 0 ∧ FitsS p.x) ∨ (E ≠ 0 ∧ R = ([], A, E))
theorem LoopO.up {s : ByteArray} {N k : Nat} {O : List Pl} {A A1 : Int} {R : List Sb × Int × Int} {p : Pl} (hk : k < N) (h0 : O.length = k) (hR : R = liftS (O.map Pl.x) (rSibs (N - k) (pvk (O.map Pl.x) k) s A)) (ha : ∀ p ∈ O, sCheck p.x = 0 ∧ FitsS p.x) (hS : rSib s A = (p.x, A1, 0)) (hp : sCheck p.x = 0 ∧ FitsS p.x) (h : fTest (pvk (O.map Pl.x) k) p.x = 0) : LoopO s N (k + 1) (O ++ [p]) A1 0 R := by
  refine .inl ⟨rfl, by rw [List.length_append, h0]; rfl, ?_, ?_⟩
  · rw [sb_up hk hR hS h, pvk_last h0, List.map_append]
    rfl
  · intro q hq
    rcases List.mem_append.1 hq with hq | hq
    · exact ha q hq
    · rw [List.mem_singleton.1 hq]; exact hp
end Go.Proofs.YteonkfedgopdiaaGreat
