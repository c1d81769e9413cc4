/-
  The contract of the document's own Put of pairs, proved over this seat's translation.
  Conditions: the pen's text takes at most 1,000,000,000 bytes.
-/
import Derived.Test.YtmcinehbhgaiaaaPcPen
import Derived.Test.YtmcinehbhgaiaaaRefPairs
import Derived.Test.YtmcinehbhgaiaaaL6
namespace Go.Proofs.Ytmcinehbhgaiaaa
open Go.RowKit

set_option maxRecDepth 100000 in
set_option maxHeartbeats 4000000 in
theorem rput14 {w : World} {b : Nat} {t : ByteArray} {M x : Int} (h : RPen w b t M x) (ht : t.size ≤ 1000000000) (ao : Option Addr) (cap : Nat) (l : List Pr) (hf : FitsP l) (hc : PrsAt w ao l) (hn : 0 < l.length → ApartE (fun k => k = b) ao) :
    Calls Try.prog 11 #[pptr b, .slice ao l.length cap] w fun e w' => e = .returned (.tuple #[]) ∧ RPen w' b (pPrs M (t, x) l).1 M (pPrs M (t, x) l).2 ∧ Keep1 b w w' := by
  have yc := rcheck14 w ao cap l hf hc
  have hl' : (l.length : Int) ≤ 9223372036854775807 := by have := hf.1; unfold maxLen at this; omega
  by_cases h0 : qCheck l = 0
  case neg =>
    rw [pPrs_no h0]
    have e0 : (qCheck l != 0) = true := by simpa using h0
    have yf := fun W (h : RPen W b t M x) => rpfail_any (qCheck l) h
    clear h0
    generalize qCheck l = C at *
    go_enter Try.func11, Try.ntmps11
    go_wp2_with fail
    refine yc.mono ?_
    rintro e w1 ⟨rfl, hw1⟩
    have k1 := keepN hw1
    have yf := yf _ (h.keep0 k1)
    clear yc hw1
    go_wp2_with fail
    refine yf.mono ?_
    rintro e w2 ⟨rfl, h2, k2⟩
    have K2 : Keep1 b w w2 := (k1.any (R := fun k => k = b)).trans k2
    clear yf k2 k1
    go_wp2
    (try simp only [Exit.inBlock, Exit.then])
    refine bodyPost_ret (results_none rfl _ _ _) rfl ?_
    exact ⟨rfl, h2, K2⟩
  rw [h0] at yc
  obtain ⟨h8, hg⟩ := (qCheck_zero l).1 h0
  rw [pPrs_yes h0]
  have HC : Hid (PrsAt w ao l) := hc
  have HG : Hid (∀ y ∈ l, y.n.size ≤ 32 ∧ y.v.size ≤ 32768) := fun y hy => ⟨(hg.1 y hy).2.1, (hg.1 y hy).2.2⟩
  have HN : Hid (0 < l.length → ApartE (fun k => k = b) ao) := hn
  have yp := fun W (h : RPen W b t M x) => rpcount_any 8 (l.length : Int) (by decide) (by omega) h (by omega)
  have hwc : wCount M 8 (t, x) (l.length : Int) = pOne M (t, x) (vText l.length) := by
    unfold wCount
    rw [if_neg (by omega), if_pos (by rw [pMax8]; omega)]
    rfl
  rw [hwc] at yp
  have hs1 := pOne_size M (t, x) (vText l.length)
  have hs2 := (vText_le (n := l.length) (by omega)).2
  have HT : Hid ((pOne M (t, x) (vText l.length)).1.size ≤ t.size + 10) := by show _ ≤ _; have : (t, x).1.size = t.size := rfl; omega
  obtain ⟨P, hP⟩ : ∃ P, pOne M (t, x) (vText l.length) = P := ⟨_, rfl⟩
  rw [hP] at yp HT ⊢
  obtain ⟨R, hR⟩ : ∃ R, pPairs M P l = R := ⟨_, rfl⟩
  rw [hR]
  have HR : Hid (pPairs M P l = R) := hR
  clear hP hwc hs1 hs2 hg hc hn h0 hR
  go_enter Try.func11, Try.ntmps11
  go_wp2_with fail
  refine yc.mono ?_
  rintro e w1 ⟨rfl, hw1⟩
  have k1 := keepN hw1
  have yp := yp _ (h.keep0 k1)
  clear yc hw1
  go_wp2_with fail
  refine yp.mono ?_
  rintro e w2 ⟨rfl, h2, k2⟩
  have K2 : Keep1 b w w2 := (k1.any (R := fun k => k = b)).trans k2
  clear yp k2 k1
  go_wp2_with fail
  go_loopw [5] (fun i wr => ∃ (k : Nat), i = .int .i64 (k : Int) ∧ k ≤ l.length ∧ RPen wr b (pPairs M P (l.take k)).1 M (pPairs M P (l.take k)).2 ∧ Keep1 b w wr) (fun i _ => l.length - (intOf i).toNat)
  case atStart => exact ⟨0, rfl, by omega, h2, K2⟩
  case round =>
    obtain ⟨k, rfl, hk, hp, hK⟩ := hrel
    clear h2 K2
    by_cases hlt : k < l.length
    · have i1 : (k : Int) < l.length := by omega
      have hap := HN.out (by omega)
      have hcr := HC.out.keep hK hap
      obtain ⟨bb, off, rfl, x0, x1⟩ := hcr k hlt
      have hbb : bb ≠ b := hap _ _ _ rfl
      obtain ⟨hy, hyn⟩ := HG.out l[k] (List.getElem_mem hlt)
      have hsz := pPairs_size M (l.take k) P (fun y hy => HG.out y (List.mem_of_mem_take hy))
      rw [List.length_take, Nat.min_eq_left (by omega)] at hsz
      have hT := HT.out
      have HS : Hid (pPairs M P (l.take (k + 1)) = pPair M (pPairs M P (l.take k)) l[k]) := pPairs_take hlt
      have yb := rbput_any 32 (by decide) l[k].n hp (by omega)
      have hws := wPut_size M 32 (pPairs M P (l.take k)) l[k].n (by omega)
      have hE : ((pPairs M P (l.take k)).1, (pPairs M P (l.take k)).2) = pPairs M P (l.take k) := rfl
      rw [hE] at yb
      have yn := fun W (h : RPen W b (wPut M 32 (pPairs M P (l.take k)) l[k].n).1 M (wPut M 32 (pPairs M P (l.take k)) l[k].n).2) => rbput_any 32768 (by decide) l[k].v h (by omega)
      have hE2 : ((wPut M 32 (pPairs M P (l.take k)) l[k].n).1, (wPut M 32 (pPairs M P (l.take k)) l[k].n).2) = wPut M 32 (pPairs M P (l.take k)) l[k].n := rfl
      rw [hE2] at yn
      have hE3 : wPut M 32768 (wPut M 32 (pPairs M P (l.take k)) l[k].n) l[k].v = pPair M (pPairs M P (l.take k)) l[k] := rfl
      rw [hE3, ← HS.out] at yn
      obtain ⟨P2, hP2⟩ : ∃ P2, pPairs M P (l.take (k + 1)) = P2 := ⟨_, rfl⟩
      rw [hP2] at yn
      have HS2 : Hid (pPairs M P (l.take (k + 1)) = P2) := hP2
      clear hP2 HS hap
      generalize wPut M 32 (pPairs M P (l.take k)) l[k].n = P1 at *
      generalize pPairs M P (l.take k) = P0 at *
      generalize l[k].n = A at *
      generalize l[k].v = NN at *
      clear hE hE2 hE3 hws hsz hT hcr hp hy hyn
      go_wp2_with fail
      refine yb.mono ?_
      rintro e w3 ⟨rfl, h3, k3⟩
      have y1 := k3.cell x1 hbb
      have K3 := hK.trans k3
      have yn := yn _ h3
      clear yb k3 hK x0 x1 h3
      go_wp2_with fail
      refine yn.mono ?_
      rintro e w4 ⟨rfl, h4, k4⟩
      have K4 := K3.trans k4
      clear yn k4 K3 y1
      go_wp2
      go_roundw
      case rel => exact ⟨k + 1, by go_num, by omega, by rw [HS2.out]; exact h4, K4⟩
      case measure => simp [intOf]; omega
    · have i1 : ¬ (k : Int) < l.length := by omega
      have ek : l.take k = l := List.take_of_length_le (by omega)
      rw [ek, HR.out] at hp
      go_wp2
      go_end0
      exact ⟨rfl, hp, hK⟩
end Go.Proofs.Ytmcinehbhgaiaaa
