/-
  What this seat's claims lean on of the texts RefPairs2, RefSib2.
  Conditions: as each theorem states.
-/
import Derived.WalkKit
import Derived.ProofKit
import Derived.Below
import Derived.Deep.Draws
import Derived.Deep.RegionHeld
import Derived.Test.YteonkfedgopdiaaGreatChecked
import Derived.OpenShut
import Derived.ShutString
import Derived.WalkSpells
import Derived.WalkLawsBesides
import Derived.Deep.QuietTactic
import Derived.BigQuiet
import Derived.Laws.Bits64b
import Derived.PlainAid
import Derived.Lib.AppendStr
import Derived.Deep.AppendLies
import Derived.Laws.IdiomStrings
import Derived.Laws.BytesArg
import Derived.Deep.RegionWith
import Derived.Laws.AppendOwn
import Derived.Deep.DeepAppendWide
import Derived.Deep.Upon
import Derived.Test.YteonkfedgopdiaaGreatZ8
import Derived.Test.YteonkfedgopdiaaGreatZ12
import Derived.Test.YteonkfedgopdiaaGreatZ4
import Derived.Laws.Rows
import Derived.Test.YteonkfedgopdiaaGreatZ18
import Derived.Test.YteonkfedgopdiaaGreatZ15
namespace Go.Proofs.YteonkfedgopdiaaGreat
open Go.RowKit
set_option maxRecDepth 100000 in
set_option maxHeartbeats 4000000 in
theorem rput14 {w : World} {b : Nat} {t : ByteArray} {M x : Int} (h : RPen w b t M x) (ht : t.size ≤ 1000000000) (ao : Option Addr) (cap : Nat) (l : List Pr) (hf : FitsP l) (hc : PrsAt w ao l) (hn : 0 < l.length → ApartE (fun k => k = b) ao) :
    Calls Tryz.prog 99 #[pptr b, .slice ao l.length cap] w fun e w' => e = .returned (.tuple #[]) ∧ RPen w' b (pPrs M (t, x) l).1 M (pPrs M (t, x) l).2 ∧ Keep1 b w w' := by
  have yc := rcheck14 w ao cap l hf hc
  have hl' : (l.length : Int) ≤ 9223372036854775807 := by have := hf.1; unfold maxLen at this; omega
  by_cases h0 : qCheck l = 0
  case neg =>
    rw [pPrs_no h0]
    have e0 : (qCheck l != 0) = true := by simpa using h0
    have yf := fun W (h : RPen W b t M x) => rpfail_any (qCheck l) h
    clear h0
    generalize qCheck l = C at *
    go_enter Tryz.func99, Tryz.ntmps99
    go_wp2_with fail
    refine yc.mono ?_
    rintro e w1 ⟨rfl, hw1⟩
    have k1 := keepN hw1
    have yf := yf _ (h.keep0 k1)
    clear yc hw1
    go_wp2_with fail
    refine yf.mono ?_
    rintro e w2 ⟨rfl, h2, k2⟩
    have K2 : Keep1 b w w2 := (k1.any (R := fun k => k = b)).trans k2
    clear yf k2 k1
    go_wp2
    (try simp only [Exit.inBlock, Exit.then])
    refine bodyPost_ret (results_none rfl _ _ _) rfl ?_
    exact ⟨rfl, h2, K2⟩
  rw [h0] at yc
  obtain ⟨h8, hg⟩ := (qCheck_zero l).1 h0
  rw [pPrs_yes h0]
  have HC : Hid (PrsAt w ao l) := hc
  have HG : Hid (∀ y ∈ l, y.n.size ≤ 32 ∧ y.v.size ≤ 32768) := fun y hy => ⟨(hg.1 y hy).2.1, (hg.1 y hy).2.2⟩
  have HN : Hid (0 < l.length → ApartE (fun k => k = b) ao) := hn
  have yp := fun W (h : RPen W b t M x) => rpcount_any 8 (l.length : Int) (by decide) (by omega) h (by omega)
  have hwc : wCount M 8 (t, x) (l.length : Int) = pOne M (t, x) (vText l.length) := by
    unfold wCount
    rw [if_neg (by omega), if_pos (by rw [pMax8]; omega)]
    rfl
  rw [hwc] at yp
  have hs1 := pOne_size M (t, x) (vText l.length)
  have hs2 := (vText_le (n := l.length) (by omega)).2
  have HT : Hid ((pOne M (t, x) (vText l.length)).1.size ≤ t.size + 10) := by show _ ≤ _; have : (t, x).1.size = t.size := rfl; omega
  obtain ⟨P, hP⟩ : ∃ P, pOne M (t, x) (vText l.length) = P := ⟨_, rfl⟩
  rw [hP] at yp HT ⊢
  obtain ⟨R, hR⟩ : ∃ R, pPairs M P l = R := ⟨_, rfl⟩
  rw [hR]
  have HR : Hid (pPairs M P l = R) := hR
  clear hP hwc hs1 hs2 hg hc hn h0 hR
  go_enter Tryz.func99, Tryz.ntmps99
  go_wp2_with fail
  refine yc.mono ?_
  rintro e w1 ⟨rfl, hw1⟩
  have k1 := keepN hw1
  have yp := yp _ (h.keep0 k1)
  clear yc hw1
  go_wp2_with fail
  refine yp.mono ?_
  rintro e w2 ⟨rfl, h2, k2⟩
  have K2 : Keep1 b w w2 := (k1.any (R := fun k => k = b)).trans k2
  clear yp k2 k1
  go_wp2_with fail
  go_loopw [5] (fun i wr => ∃ (k : Nat), i = .int .i64 (k : Int) ∧ k ≤ l.length ∧ RPen wr b (pPairs M P (l.take k)).1 M (pPairs M P (l.take k)).2 ∧ Keep1 b w wr) (fun i _ => l.length - (intOf i).toNat)
  case atStart => exact ⟨0, rfl, by omega, h2, K2⟩
  case round =>
    obtain ⟨k, rfl, hk, hp, hK⟩ := hrel
    clear h2 K2
    by_cases hlt : k < l.length
    · have i1 : (k : Int) < l.length := by omega
      have hap := HN.out (by omega)
      have hcr := HC.out.keep hK hap
      obtain ⟨bb, off, rfl, x0, x1⟩ := hcr k hlt
      have hbb : bb ≠ b := hap _ _ _ rfl
      obtain ⟨hy, hyn⟩ := HG.out l[k] (List.getElem_mem hlt)
      have hsz := pPairs_size M (l.take k) P (fun y hy => HG.out y (List.mem_of_mem_take hy))
      rw [List.length_take, Nat.min_eq_left (by omega)] at hsz
      have hT := HT.out
      have HS : Hid (pPairs M P (l.take (k + 1)) = pPair M (pPairs M P (l.take k)) l[k]) := pPairs_take hlt
      have yb := rbput_any 32 (by decide) l[k].n hp (by omega)
      have hws := wPut_size M 32 (pPairs M P (l.take k)) l[k].n (by omega)
      have hE : ((pPairs M P (l.take k)).1, (pPairs M P (l.take k)).2) = pPairs M P (l.take k) := rfl
      rw [hE] at yb
      have yn := fun W (h : RPen W b (wPut M 32 (pPairs M P (l.take k)) l[k].n).1 M (wPut M 32 (pPairs M P (l.take k)) l[k].n).2) => rbput_any 32768 (by decide) l[k].v h (by omega)
      have hE2 : ((wPut M 32 (pPairs M P (l.take k)) l[k].n).1, (wPut M 32 (pPairs M P (l.take k)) l[k].n).2) = wPut M 32 (pPairs M P (l.take k)) l[k].n := rfl
      rw [hE2] at yn
      have hE3 : wPut M 32768 (wPut M 32 (pPairs M P (l.take k)) l[k].n) l[k].v = pPair M (pPairs M P (l.take k)) l[k] := rfl
      rw [hE3, ← HS.out] at yn
      obtain ⟨P2, hP2⟩ : ∃ P2, pPairs M P (l.take (k + 1)) = P2 := ⟨_, rfl⟩
      rw [hP2] at yn
      have HS2 : Hid (pPairs M P (l.take (k + 1)) = P2) := hP2
      clear hP2 HS hap
      generalize wPut M 32 (pPairs M P (l.take k)) l[k].n = P1 at *
      generalize pPairs M P (l.take k) = P0 at *
      generalize l[k].n = A at *
      generalize l[k].v = NN at *
      clear hE hE2 hE3 hws hsz hT hcr hp hy hyn
      go_wp2_with fail
      refine yb.mono ?_
      rintro e w3 ⟨rfl, h3, k3⟩
      have y1 := k3.cell x1 hbb
      have K3 := hK.trans k3
      have yn := yn _ h3
      clear yb k3 hK x0 x1 h3
      go_wp2_with fail
      refine yn.mono ?_
      rintro e w4 ⟨rfl, h4, k4⟩
      have K4 := K3.trans k4
      clear yn k4 K3 y1
      go_wp2
      go_roundw
      case rel => exact ⟨k + 1, by go_num, by omega, by rw [HS2.out]; exact h4, K4⟩
      case measure => simp [intOf]; omega
    · have i1 : ¬ (k : Int) < l.length := by omega
      have ek : l.take k = l := List.take_of_length_le (by omega)
      rw [ek, HR.out] at hp
      go_wp2
      go_end0
      exact ⟨rfl, hp, hK⟩
end Go.Proofs.YteonkfedgopdiaaGreat
namespace Go.Proofs.YteonkfedgopdiaaGreat
open Go.RowKit
set_option maxRecDepth 100000 in
set_option maxHeartbeats 4000000 in
theorem rput15_any {w : World} {b : Nat} {t : ByteArray} {M x : Int} (h : RPen w b t M x) (ht : t.size ≤ 800000000) (vo : Option Addr) (vc : Nat) (po : Option Addr) (pc : Nat) (c : List En) (d : Bool) (a : ByteArray) (n : Nat) (m : List Pr) (q : Bool) (v : ByteArray) (fk : FitsK ⟨c, d, ⟨a, n⟩⟩) (fp : FitsP m) (fv : v.size ≤ maxLen) (hE : EnsAt w vo c) (hP : PrsAt w po m) (haE : 0 < c.length → ApartE (fun k => k = b) vo) (haP : 0 < m.length → ApartE (fun k => k = b) po) :
    Calls Tryz.prog 60 #[pptr b, .agg #[.slice vo c.length vc, .bool d, .string a, .int .u64 (n : Int), .slice po m.length pc, .bool q, .string v]] w fun e w' => e = .returned (.tuple #[]) ∧ RPen w' b (pSib M (t, x) ⟨⟨c, d, ⟨a, n⟩⟩, m, q, v⟩).1 M (pSib M (t, x) ⟨⟨c, d, ⟨a, n⟩⟩, m, q, v⟩).2 ∧ Keep1 b w w' := by
  have hbl := h.lt
  have kA : Keep0 w (w.alloc (.cells #[.slice vo c.length vc, .bool d, .string a, .int .u64 (n : Int), .slice po m.length pc, .bool q, .string v] 44)) := (Keep.refl _ w).alloc _
  obtain ⟨x0, x1, x2, x3, x4, x5, x6⟩ := sib_new w 44 ⟨⟨c, d, ⟨a, n⟩⟩, m, q, v⟩ vo vc po pc
  have hP0 := h.keep0 kA
  have hE0 := hE.keep0 kA
  have hM0 := hP.keep0 kA
  have yc := rcheck15_any (w.alloc (.cells #[.slice vo c.length vc, .bool d, .string a, .int .u64 (n : Int), .slice po m.length pc, .bool q, .string v] 44)) vo vc po pc c d a n m q v fk fp fv hE0 hM0
  by_cases h0 : sCheck ⟨⟨c, d, ⟨a, n⟩⟩, m, q, v⟩ = 0
  case neg =>
    rw [pSib_no h0]
    have e0 : (sCheck ⟨⟨c, d, ⟨a, n⟩⟩, m, q, v⟩ != 0) = true := by simpa using h0
    have yf := fun W (h : RPen W b t M x) => rpfail_any (sCheck ⟨⟨c, d, ⟨a, n⟩⟩, m, q, v⟩) h
    clear h0 hE0 hM0 hE hP
    generalize sCheck ⟨⟨c, d, ⟨a, n⟩⟩, m, q, v⟩ = C at *
    go_enter Tryz.func60, Tryz.ntmps60
    go_wp2_with fail
    generalize (w.alloc (.cells #[.slice vo c.length vc, .bool d, .string a, .int .u64 (n : Int), .slice po m.length pc, .bool q, .string v] 44)) = W0 at *
    generalize w.heap.size = g at *
    refine yc.mono ?_
    rintro e w1 ⟨rfl, k1⟩
    have yf := yf _ (hP0.keep0 k1)
    have K1 := kA.trans k1
    clear yc k1 kA hP0
    go_wp2_with fail
    refine yf.mono ?_
    rintro e w2 ⟨rfl, h2, k2⟩
    have K2 : Keep1 b w w2 := (K1.any (R := fun k => k = b)).trans k2
    clear yf k2 K1
    go_wp2
    (try simp only [Exit.inBlock, Exit.then])
    refine bodyPost_ret (results_none rfl _ _ _) rfl ?_
    exact ⟨rfl, h2, K2⟩
  rw [h0] at yc
  rw [pSib_yes h0]
  obtain ⟨s1, s2, s3⟩ := sCheck_zero.1 h0
  have s3 : v.size ≤ 32768 := s3
  have hts : (t, x).1.size = t.size := rfl
  have z1 := pClk_size M (t, x) (k := ⟨c, d, ⟨a, n⟩⟩) (fun y hy => (fk.vec.2 y hy).2) fk.num
  have y1 := fun W (h : RPen W b t M x) (hc : EnsAt W vo c) => rput13_any h (by omega) vo vc c d a n fk.vec fk.dot fk.num hc haE
  show Calls _ _ _ _ fun e w' => e = .returned (.tuple #[]) ∧ RPen w' b (wPut M 32768 (wFlag M (pPrs M (pClk M (t, x) ⟨c, d, ⟨a, n⟩⟩) m) q) v).1 M (wPut M 32768 (wFlag M (pPrs M (pClk M (t, x) ⟨c, d, ⟨a, n⟩⟩) m) q) v).2 ∧ Keep1 b w w'
  obtain ⟨P1, hP1⟩ : ∃ P1, pClk M (t, x) ⟨c, d, ⟨a, n⟩⟩ = P1 := ⟨_, rfl⟩
  rw [hP1] at y1 z1 ⊢
  have z2 := pPrs_sizeQ M P1 m
  have y2 := fun W (h : RPen W b P1.1 M P1.2) (hc : PrsAt W po m) => rput14 h (by omega) po pc m fp hc haP
  have e1 : (P1.1, P1.2) = P1 := rfl
  rw [e1] at y2
  obtain ⟨P2, hP2⟩ : ∃ P2, pPrs M P1 m = P2 := ⟨_, rfl⟩
  rw [hP2] at y2 z2 ⊢
  have z3 := wFlag_size M P2 q
  have y3 := fun W (h : RPen W b P2.1 M P2.2) => rpflag_any q h (by omega)
  have e2 : (P2.1, P2.2) = P2 := rfl
  rw [e2] at y3
  obtain ⟨P3, hP3⟩ : ∃ P3, wFlag M P2 q = P3 := ⟨_, rfl⟩
  rw [hP3] at y3 z3 ⊢
  have y4 := fun W (h : RPen W b P3.1 M P3.2) => rbput_any 32768 (by decide) v h (by omega)
  have e3 : (P3.1, P3.2) = P3 := rfl
  rw [e3] at y4
  generalize wPut M 32768 P3 v = P4 at *
  have HE : Hid (EnsAt (w.alloc (.cells #[.slice vo c.length vc, .bool d, .string a, .int .u64 (n : Int), .slice po m.length pc, .bool q, .string v] 44)) vo c) := hE0
  have HM : Hid (PrsAt (w.alloc (.cells #[.slice vo c.length vc, .bool d, .string a, .int .u64 (n : Int), .slice po m.length pc, .bool q, .string v] 44)) po m) := hM0
  have HaP : Hid (0 < m.length → ApartE (fun k => k = b) po) := haP
  clear h0 s1 s2 s3 hts z1 z2 z3 e1 e2 e3 hP1 hP2 hP3 fk fp fv hE hP hE0 hM0 haE haP
  go_enter Tryz.func60, Tryz.ntmps60
  go_wp2_with fail
  generalize (w.alloc (.cells #[.slice vo c.length vc, .bool d, .string a, .int .u64 (n : Int), .slice po m.length pc, .bool q, .string v] 44)) = W0 at *
  generalize hg : w.heap.size = g at *
  have hgb : g ≠ b := by omega
  refine yc.mono ?_
  rintro e w1 ⟨rfl, k1⟩
  have y1 := y1 _ (hP0.keep0 k1) (HE.out.keep0 k1)
  have HM1 : Hid (PrsAt w1 po m) := HM.out.keep0 k1
  have K1 := kA.trans k1
  replace x0 := k1.cell x0 (fun f => f)
  replace x1 := k1.cell x1 (fun f => f)
  replace x2 := k1.cell x2 (fun f => f)
  replace x3 := k1.cell x3 (fun f => f)
  replace x4 := k1.cell x4 (fun f => f)
  replace x5 := k1.cell x5 (fun f => f)
  replace x6 := k1.cell x6 (fun f => f)
  clear yc k1 kA hP0 HE HM
  go_wp2_with fail
  refine y1.mono ?_
  rintro e w2 ⟨rfl, h2, k2⟩
  have K2 : Keep1 b w w2 := (K1.any (R := fun k => k = b)).trans k2
  have hm2 : PrsAt w2 po m := by
    by_cases hz : 0 < m.length
    · exact HM1.out.keep k2 (HaP.out hz)
    · exact fun i hi => absurd hi (by omega)
  have y2 := y2 _ h2 hm2
  replace x4 := k2.cell x4 hgb
  replace x5 := k2.cell x5 hgb
  replace x6 := k2.cell x6 hgb
  clear y1 k2 K1 h2 hm2 x0 x1 x2 x3 HM1
  go_wp2_with fail
  refine y2.mono ?_
  rintro e w3 ⟨rfl, h3, k3⟩
  have K3 := K2.trans k3
  have y3 := y3 _ h3
  replace x5 := k3.cell x5 hgb
  replace x6 := k3.cell x6 hgb
  clear y2 k3 K2 h3 x4
  go_wp2_with fail
  refine y3.mono ?_
  rintro e w4 ⟨rfl, h4, k4⟩
  have K4 := K3.trans k4
  have y4 := y4 _ h4
  replace x6 := k4.cell x6 hgb
  clear y3 k4 K3 h4 x5
  go_wp2_with fail
  refine y4.mono ?_
  rintro e w5 ⟨rfl, h5, k5⟩
  have K5 := K4.trans k5
  clear y4 k5 K4
  go_wp2
  go_end0
  exact ⟨rfl, h5, K5⟩
theorem rput15 {w : World} {b : Nat} {t : ByteArray} {M x : Int} (h : RPen w b t M x) (ht : t.size ≤ 800000000) (vo : Option Addr) (vc : Nat) (po : Option Addr) (pc : Nat) (y : Sb) (f : FitsS y) (hI : SibIn w vo po pc y) (haE : 0 < y.k.c.length → ApartE (fun k => k = b) vo) (haP : 0 < y.m.length → ApartE (fun k => k = b) po) :
    Calls Tryz.prog 60 #[pptr b, .agg #[.slice vo y.k.c.length vc, .bool y.k.d, .string y.k.x.a, .int .u64 (y.k.x.n : Int), .slice po y.m.length pc, .bool y.d, .string y.v]] w fun e w' => e = .returned (.tuple #[]) ∧ RPen w' b (pSib M (t, x) y).1 M (pSib M (t, x) y).2 ∧ Keep1 b w w' :=
  rput15_any h ht vo vc po pc y.k.c y.k.d y.k.x.a y.k.x.n y.m y.d y.v f.clk f.prs f.val hI.ens hI.prs haE haP
theorem prs_old {w : World} {ao : Option Addr} {l : List Pr} (h : PrsAt w ao l) (hl : 0 < l.length) : ∀ g off m, ao = some ⟨g, off, m⟩ → g < w.heap.size := by
  intro g off m e
  obtain ⟨b, o, e', h1, _⟩ := h 0 hl
  rw [e] at e'
  cases e'
  exact World.block_lt_of_cell? w _ h1
end Go.Proofs.YteonkfedgopdiaaGreat
