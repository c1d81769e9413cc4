/-
  What this seat's claims lean on of the texts RefObj, RefSib2, RefSib3, Beside, DcA.
  Conditions: as each theorem states.
-/
import Derived.WalkKit
import Derived.ProofKit
import Derived.Below
import Derived.Deep.Draws
import Derived.Deep.RegionHeld
import Derived.Test.YteonkfedgopdiaaGreatChecked
import Derived.OpenShut
import Derived.ShutString
import Derived.WalkSpells
import Derived.WalkLawsBesides
import Derived.Deep.QuietTactic
import Derived.BigQuiet
import Derived.Laws.Bits64b
import Derived.PlainAid
import Derived.Lib.AppendStr
import Derived.Deep.AppendLies
import Derived.Laws.IdiomStrings
import Derived.Laws.BytesArg
import Derived.Deep.RegionWith
import Derived.Laws.AppendOwn
import Derived.Deep.DeepAppendWide
import Derived.Deep.Upon
import Derived.Maps.AppendAt
import Derived.Laws.Rows
import Derived.Deep.Slices
import Derived.Test.YteonkfedgopdiaaGreatY20
import Derived.Test.YteonkfedgopdiaaGreatY28
import Derived.Test.YteonkfedgopdiaaGreatY22
import Derived.Test.YteonkfedgopdiaaGreatY8
import Derived.Test.YteonkfedgopdiaaGreatY1
import Derived.Test.YteonkfedgopdiaaGreatY18
import Derived.Test.YteonkfedgopdiaaGreatY25
import Derived.Test.YteonkfedgopdiaaGreatY14
import Derived.Test.YteonkfedgopdiaaGreatY24
import Derived.Test.YteonkfedgopdiaaGreatY30
import Derived.Test.YteonkfedgopdiaaGreatY26
namespace Go.Proofs.YteonkfedgopdiaaGreat
open Go.RowKit
structure FitsO (o : Ob) : Prop where
  key : o.key.size ≤ maxLen
  len : o.l.length ≤ maxLen
  sib : ∀ x ∈ o.l, FitsS x
theorem FitsS.u {x : Sb} (h : FitsS x) : sbU x := ⟨fun y hy => (h.clk.vec.2 y hy).2, h.clk.num⟩
set_option maxRecDepth 100000 in
set_option maxHeartbeats 8000000 in
theorem rclock16 (w : World) (vo : Option Addr) (vc : Nat) (po : Option Addr) (pc : Nat) (x : Sb) (f : FitsS x) (h : SibIn w vo po pc x) :
    Calls Tryz.prog 40 #[.agg #[.slice vo x.k.c.length vc, .bool x.k.d, .string x.k.x.a, .int .u64 (x.k.x.n : Int), .slice po x.m.length pc, .bool x.d, .string x.v]] w fun e w' => e = .returned (.string (encK x.k).1) ∧ Keep0 w w' := by
  have kA : Keep0 w (w.alloc (.cells #[.slice vo x.k.c.length vc, .bool x.k.d, .string x.k.x.a, .int .u64 (x.k.x.n : Int), .slice po x.m.length pc, .bool x.d, .string x.v] 44)) := (Keep.refl _ w).alloc _
  obtain ⟨x0, x1, x2, x3, x4, x5, x6⟩ := sib_new w 44 x vo vc po pc
  have yk := rencode13 (w.alloc (.cells #[.slice vo x.k.c.length vc, .bool x.k.d, .string x.k.x.a, .int .u64 (x.k.x.n : Int), .slice po x.m.length pc, .bool x.d, .string x.v] 44)) vo vc x.k f.clk (h.ens.keep0 kA)
  generalize encK x.k = E at *
  go_enter Tryz.func40, Tryz.ntmps40
  go_wp2_with fail
  generalize (w.alloc (.cells #[.slice vo x.k.c.length vc, .bool x.k.d, .string x.k.x.a, .int .u64 (x.k.x.n : Int), .slice po x.m.length pc, .bool x.d, .string x.v] 44)) = W0 at *
  generalize w.heap.size = g at *
  refine yk.mono ?_
  rintro e w1 ⟨rfl, k1⟩
  have K1 := kA.trans k1
  clear yk k1 kA
  go_wp2
  go_ret
  exact ⟨rfl, K1⟩
set_option maxRecDepth 100000 in
set_option maxHeartbeats 8000000 in
theorem routside16 (w : World) (key : ByteArray) (hk : key.size ≤ maxLen) (n : Nat) :
    Calls Tryz.prog 37 #[.string key, .int .i64 (n : Int)] w fun e w' => e = .returned (.int .i64 (outS key n)) ∧ w = w' := by
  have i0 : (key.size : Int) ≤ 9223372036854775807 := by unfold maxLen at hk; omega
  unfold outS
  by_cases h1 : 128 < key.size
  · rw [if_pos h1]
    have j1 : (128 : Int) < key.size := by omega
    go_enter Tryz.func37, Tryz.ntmps37
    go_wp2
    go_ret
    exact ⟨rfl, rfl⟩
  rw [if_neg h1]
  have j1 : ¬ (128 : Int) < key.size := by omega
  by_cases h2 : key.size = 0
  · rw [if_pos h2]
    have j2 : (key.size : Int) = 0 := by omega
    go_enter Tryz.func37, Tryz.ntmps37
    go_wp2
    go_ret
    exact ⟨rfl, rfl⟩
  rw [if_neg h2]
  have j2 : ((key.size : Int) == 0) = false := beq_eq_false_iff_ne.2 (by omega)
  have j2' : ¬ (key.size : Int) = 0 := by omega
  by_cases h3 : 16 < n
  · rw [if_pos h3]
    have j3 : (16 : Int) < n := by omega
    go_enter Tryz.func37, Tryz.ntmps37
    go_wp2
    go_ret
    exact ⟨rfl, rfl⟩
  rw [if_neg h3]
  have j3 : ¬ (16 : Int) < n := by omega
  by_cases h4 : n = 0
  · rw [if_pos h4]
    have j4 : (n : Int) = 0 := by omega
    go_enter Tryz.func37, Tryz.ntmps37
    go_wp2
    go_ret
    exact ⟨rfl, rfl⟩
  rw [if_neg h4]
  have j4 : ((n : Int) == 0) = false := beq_eq_false_iff_ne.2 (by omega)
  have j4' : ¬ (n : Int) = 0 := by omega
  go_enter Tryz.func37, Tryz.ntmps37
  go_wp2
  go_ret
  exact ⟨rfl, rfl⟩
def oGreat (o : Ob) : Bool := decide (200 < o.key.size) || (decide (20 < o.l.length) || o.l.any sGreat)
theorem oGreat_no {o : Ob} (h : oGreat o = false) : o.key.size ≤ 200 ∧ o.l.length ≤ 20 ∧ ∀ x ∈ o.l, sGreat x = false := by
  unfold oGreat at h
  rw [Bool.or_eq_false_iff, Bool.or_eq_false_iff] at h
  have h1 := of_decide_eq_false h.1
  have h2 := of_decide_eq_false h.2.1
  exact ⟨by omega, by omega, fun x hx => by have := List.any_eq_false.1 h.2.2 x hx; simpa using this⟩
theorem any_drop {l : List Sb} {k : Nat} (hk : k < l.length) : (l.drop k).any sGreat = (sGreat l[k] || (l.drop (k + 1)).any sGreat) := by
  rw [List.drop_eq_getElem_cons hk, List.any_cons]
set_option maxRecDepth 100000 in
set_option maxHeartbeats 8000000 in
theorem rgreat16_any (w : World) (ao : Option Addr) (cap : Nat) (key : ByteArray) (l : List Sb) (hk : key.size ≤ maxLen) (hl : l.length ≤ maxLen) (hf : ∀ x ∈ l, FitsS x) (hc : SibsAt w ao l) :
    Calls Tryz.prog 8 #[.agg #[.string key, .slice ao l.length cap]] w fun e w' => e = .returned (.bool (oGreat ⟨key, l⟩)) ∧ Keep0 w w' := by
  have i0 : (key.size : Int) ≤ 9223372036854775807 := by unfold maxLen at hk; omega
  have i1 : (l.length : Int) ≤ 9223372036854775807 := by unfold maxLen at hl; omega
  have kA : Keep0 w (w.alloc (.cells #[.string key, .slice ao l.length cap] 24)) := (Keep.refl _ w).alloc _
  have x0 : (w.alloc (.cells #[.string key, .slice ao l.length cap] 24)).cell? ⟨w.heap.size, 0, none⟩ = some (.string key) := cell_alloc w _ rfl
  have x1 : (w.alloc (.cells #[.string key, .slice ao l.length cap] 24)).cell? ⟨w.heap.size, 1, none⟩ = some (.slice ao l.length cap) := cell_alloc w _ rfl
  have hg : oGreat ⟨key, l⟩ = (decide (200 < key.size) || (decide (20 < l.length) || l.any sGreat)) := rfl
  rw [hg]
  clear hg
  by_cases h1 : 200 < key.size
  · have j1 : (200 : Int) < key.size := by omega
    rw [decide_eq_true h1, Bool.true_or]
    clear hc hf
    go_enter Tryz.func8, Tryz.ntmps8
    go_wp2
    go_ret
    exact ⟨rfl, kA⟩
  have j1 : ¬ (200 : Int) < key.size := by omega
  rw [decide_eq_false h1, Bool.false_or]
  by_cases h2 : 20 < l.length
  · have j2 : (20 : Int) < l.length := by omega
    rw [decide_eq_true h2, Bool.true_or]
    clear hc hf
    go_enter Tryz.func8, Tryz.ntmps8
    go_wp2
    go_ret
    exact ⟨rfl, kA⟩
  have j2 : ¬ (20 : Int) < l.length := by omega
  rw [decide_eq_false h2, Bool.false_or]
  have HC : Hid (SibsAt w ao l) := hc
  have HF : Hid (∀ x ∈ l, FitsS x) := hf
  obtain ⟨r, hr⟩ : ∃ r, l.any sGreat = r := ⟨_, rfl⟩
  rw [hr]
  have HR : Hid ((l.drop 0).any sGreat = r) := by rw [List.drop_zero]; exact hr
  clear hc hf hr
  go_enter Tryz.func8, Tryz.ntmps8
  go_wp2_with fail
  generalize (w.alloc (.cells #[.string key, .slice ao l.length cap] 24)) = W0 at *
  generalize hg : w.heap.size = g at *
  go_loopw [3] (fun i wr => ∃ (k : Nat), i = .int .i64 (k : Int) ∧ k ≤ l.length ∧ Hid ((l.drop k).any sGreat = r) ∧ wr.cell? ⟨g, 1, none⟩ = some (.slice ao l.length cap) ∧ Keep0 w wr) (fun i _ => l.length - (intOf i).toNat)
  case atStart => exact ⟨0, rfl, by omega, HR, x1, kA⟩
  case round =>
    obtain ⟨k, rfl, hk, HK, xk, hK⟩ := hrel
    clear HR x0 x1 kA
    by_cases hlt : k < l.length
    · have i2 : (k : Int) < l.length := by omega
      obtain ⟨b, off, vo, vc, po, pc, rfl, s1, s2⟩ := HC.out k hlt
      obtain ⟨a0, a1, a2, a3, a4, a5, a6⟩ := s1.keep0 hK
      have yg := rgreat15 wr vo vc po pc l[k] (HF.out _ (List.getElem_mem hlt)) (s2.keep0 hK)
      have hd := HK.out
      rw [any_drop hlt] at hd
      clear s1 s2 HK
      cases hs : sGreat l[k] with
      | true =>
        rw [hs] at yg hd
        have HD : Hid (true = r) := by rw [← hd]; rfl
        clear hd hs
        generalize l[k] = X at *
        go_wp2_with fail
        refine yg.mono ?_
        rintro e w1 ⟨rfl, k1⟩
        have K1 := hK.trans k1
        clear yg k1 hK
        go_wp2
        go_ret
        exact ⟨by rw [← HD.out]; rfl, K1⟩
      | false =>
        rw [hs] at yg hd
        have HD : Hid ((l.drop (k + 1)).any sGreat = r) := by rw [← hd]; rfl
        clear hd hs
        generalize l[k] = X at *
        go_wp2_with fail
        refine yg.mono ?_
        rintro e w1 ⟨rfl, k1⟩
        have K1 := hK.trans k1
        replace xk := k1.cell xk (fun f => f)
        clear yg k1 hK a0 a1 a2 a3 a4 a5 a6
        go_wp2
        go_roundw
        case rel => exact ⟨k + 1, by go_num, by omega, HD, xk, K1⟩
        case measure => simp [intOf]; omega
    · have i2 : ¬ (k : Int) < l.length := by omega
      have hd := HK.out
      rw [List.drop_eq_nil_of_le (by omega)] at hd
      have HD : Hid (false = r) := hd
      clear hd HK
      go_wp2
      go_ret
      exact ⟨by rw [← HD.out]; rfl, hK⟩
end Go.Proofs.YteonkfedgopdiaaGreat
namespace Go.Proofs.YteonkfedgopdiaaGreat
open Go.RowKit
set_option maxRecDepth 100000 in
set_option maxHeartbeats 4000000 in
theorem rput15_any {w : World} {b : Nat} {t : ByteArray} {M x : Int} (h : RPen w b t M x) (ht : t.size ≤ 800000000) (vo : Option Addr) (vc : Nat) (po : Option Addr) (pc : Nat) (c : List En) (d : Bool) (a : ByteArray) (n : Nat) (m : List Pr) (q : Bool) (v : ByteArray) (fk : FitsK ⟨c, d, ⟨a, n⟩⟩) (fp : FitsP m) (fv : v.size ≤ maxLen) (hE : EnsAt w vo c) (hP : PrsAt w po m) (haE : 0 < c.length → ApartE (fun k => k = b) vo) (haP : 0 < m.length → ApartE (fun k => k = b) po) :
    Calls Tryz.prog 60 #[pptr b, .agg #[.slice vo c.length vc, .bool d, .string a, .int .u64 (n : Int), .slice po m.length pc, .bool q, .string v]] w fun e w' => e = .returned (.tuple #[]) ∧ RPen w' b (pSib M (t, x) ⟨⟨c, d, ⟨a, n⟩⟩, m, q, v⟩).1 M (pSib M (t, x) ⟨⟨c, d, ⟨a, n⟩⟩, m, q, v⟩).2 ∧ Keep1 b w w' := by
  have hbl := h.lt
  have kA : Keep0 w (w.alloc (.cells #[.slice vo c.length vc, .bool d, .string a, .int .u64 (n : Int), .slice po m.length pc, .bool q, .string v] 44)) := (Keep.refl _ w).alloc _
  obtain ⟨x0, x1, x2, x3, x4, x5, x6⟩ := sib_new w 44 ⟨⟨c, d, ⟨a, n⟩⟩, m, q, v⟩ vo vc po pc
  have hP0 := h.keep0 kA
  have hE0 := hE.keep0 kA
  have hM0 := hP.keep0 kA
  have yc := rcheck15_any (w.alloc (.cells #[.slice vo c.length vc, .bool d, .string a, .int .u64 (n : Int), .slice po m.length pc, .bool q, .string v] 44)) vo vc po pc c d a n m q v fk fp fv hE0 hM0
  by_cases h0 : sCheck ⟨⟨c, d, ⟨a, n⟩⟩, m, q, v⟩ = 0
  case neg =>
    rw [pSib_no h0]
    have e0 : (sCheck ⟨⟨c, d, ⟨a, n⟩⟩, m, q, v⟩ != 0) = true := by simpa using h0
    have yf := fun W (h : RPen W b t M x) => rpfail_any (sCheck ⟨⟨c, d, ⟨a, n⟩⟩, m, q, v⟩) h
    clear h0 hE0 hM0 hE hP
    generalize sCheck ⟨⟨c, d, ⟨a, n⟩⟩, m, q, v⟩ = C at *
    go_enter Tryz.func60, Tryz.ntmps60
    go_wp2_with fail
    generalize (w.alloc (.cells #[.slice vo c.length vc, .bool d, .string a, .int .u64 (n : Int), .slice po m.length pc, .bool q, .string v] 44)) = W0 at *
    generalize w.heap.size = g at *
    refine yc.mono ?_
    rintro e w1 ⟨rfl, k1⟩
    have yf := yf _ (hP0.keep0 k1)
    have K1 := kA.trans k1
    clear yc k1 kA hP0
    go_wp2_with fail
    refine yf.mono ?_
    rintro e w2 ⟨rfl, h2, k2⟩
    have K2 : Keep1 b w w2 := (K1.any (R := fun k => k = b)).trans k2
    clear yf k2 K1
    go_wp2
    (try simp only [Exit.inBlock, Exit.then])
    refine bodyPost_ret (results_none rfl _ _ _) rfl ?_
    exact ⟨rfl, h2, K2⟩
  rw [h0] at yc
  rw [pSib_yes h0]
  obtain ⟨s1, s2, s3⟩ := sCheck_zero.1 h0
  have s3 : v.size ≤ 32768 := s3
  have hts : (t, x).1.size = t.size := rfl
  have z1 := pClk_size M (t, x) (k := ⟨c, d, ⟨a, n⟩⟩) (fun y hy => (fk.vec.2 y hy).2) fk.num
  have y1 := fun W (h : RPen W b t M x) (hc : EnsAt W vo c) => rput13_any h (by omega) vo vc c d a n fk.vec fk.dot fk.num hc haE
  show Calls _ _ _ _ fun e w' => e = .returned (.tuple #[]) ∧ RPen w' b (wPut M 32768 (wFlag M (pPrs M (pClk M (t, x) ⟨c, d, ⟨a, n⟩⟩) m) q) v).1 M (wPut M 32768 (wFlag M (pPrs M (pClk M (t, x) ⟨c, d, ⟨a, n⟩⟩) m) q) v).2 ∧ Keep1 b w w'
  obtain ⟨P1, hP1⟩ : ∃ P1, pClk M (t, x) ⟨c, d, ⟨a, n⟩⟩ = P1 := ⟨_, rfl⟩
  rw [hP1] at y1 z1 ⊢
  have z2 := pPrs_sizeQ M P1 m
  have y2 := fun W (h : RPen W b P1.1 M P1.2) (hc : PrsAt W po m) => rput14 h (by omega) po pc m fp hc haP
  have e1 : (P1.1, P1.2) = P1 := rfl
  rw [e1] at y2
  obtain ⟨P2, hP2⟩ : ∃ P2, pPrs M P1 m = P2 := ⟨_, rfl⟩
  rw [hP2] at y2 z2 ⊢
  have z3 := wFlag_size M P2 q
  have y3 := fun W (h : RPen W b P2.1 M P2.2) => rpflag_any q h (by omega)
  have e2 : (P2.1, P2.2) = P2 := rfl
  rw [e2] at y3
  obtain ⟨P3, hP3⟩ : ∃ P3, wFlag M P2 q = P3 := ⟨_, rfl⟩
  rw [hP3] at y3 z3 ⊢
  have y4 := fun W (h : RPen W b P3.1 M P3.2) => rbput_any 32768 (by decide) v h (by omega)
  have e3 : (P3.1, P3.2) = P3 := rfl
  rw [e3] at y4
  generalize wPut M 32768 P3 v = P4 at *
  have HE : Hid (EnsAt (w.alloc (.cells #[.slice vo c.length vc, .bool d, .string a, .int .u64 (n : Int), .slice po m.length pc, .bool q, .string v] 44)) vo c) := hE0
  have HM : Hid (PrsAt (w.alloc (.cells #[.slice vo c.length vc, .bool d, .string a, .int .u64 (n : Int), .slice po m.length pc, .bool q, .string v] 44)) po m) := hM0
  have HaP : Hid (0 < m.length → ApartE (fun k => k = b) po) := haP
  clear h0 s1 s2 s3 hts z1 z2 z3 e1 e2 e3 hP1 hP2 hP3 fk fp fv hE hP hE0 hM0 haE haP
  go_enter Tryz.func60, Tryz.ntmps60
  go_wp2_with fail
  generalize (w.alloc (.cells #[.slice vo c.length vc, .bool d, .string a, .int .u64 (n : Int), .slice po m.length pc, .bool q, .string v] 44)) = W0 at *
  generalize hg : w.heap.size = g at *
  have hgb : g ≠ b := by omega
  refine yc.mono ?_
  rintro e w1 ⟨rfl, k1⟩
  have y1 := y1 _ (hP0.keep0 k1) (HE.out.keep0 k1)
  have HM1 : Hid (PrsAt w1 po m) := HM.out.keep0 k1
  have K1 := kA.trans k1
  replace x0 := k1.cell x0 (fun f => f)
  replace x1 := k1.cell x1 (fun f => f)
  replace x2 := k1.cell x2 (fun f => f)
  replace x3 := k1.cell x3 (fun f => f)
  replace x4 := k1.cell x4 (fun f => f)
  replace x5 := k1.cell x5 (fun f => f)
  replace x6 := k1.cell x6 (fun f => f)
  clear yc k1 kA hP0 HE HM
  go_wp2_with fail
  refine y1.mono ?_
  rintro e w2 ⟨rfl, h2, k2⟩
  have K2 : Keep1 b w w2 := (K1.any (R := fun k => k = b)).trans k2
  have hm2 : PrsAt w2 po m := by
    by_cases hz : 0 < m.length
    · exact HM1.out.keep k2 (HaP.out hz)
    · exact fun i hi => absurd hi (by omega)
  have y2 := y2 _ h2 hm2
  replace x4 := k2.cell x4 hgb
  replace x5 := k2.cell x5 hgb
  replace x6 := k2.cell x6 hgb
  clear y1 k2 K1 h2 hm2 x0 x1 x2 x3 HM1
  go_wp2_with fail
  refine y2.mono ?_
  rintro e w3 ⟨rfl, h3, k3⟩
  have K3 := K2.trans k3
  have y3 := y3 _ h3
  replace x5 := k3.cell x5 hgb
  replace x6 := k3.cell x6 hgb
  clear y2 k3 K2 h3 x4
  go_wp2_with fail
  refine y3.mono ?_
  rintro e w4 ⟨rfl, h4, k4⟩
  have K4 := K3.trans k4
  have y4 := y4 _ h4
  replace x6 := k4.cell x6 hgb
  clear y3 k4 K3 h4 x5
  go_wp2_with fail
  refine y4.mono ?_
  rintro e w5 ⟨rfl, h5, k5⟩
  have K5 := K4.trans k5
  clear y4 k5 K4
  go_wp2
  go_end0
  exact ⟨rfl, h5, K5⟩
theorem rput15 {w : World} {b : Nat} {t : ByteArray} {M x : Int} (h : RPen w b t M x) (ht : t.size ≤ 800000000) (vo : Option Addr) (vc : Nat) (po : Option Addr) (pc : Nat) (y : Sb) (f : FitsS y) (hI : SibIn w vo po pc y) (haE : 0 < y.k.c.length → ApartE (fun k => k = b) vo) (haP : 0 < y.m.length → ApartE (fun k => k = b) po) :
    Calls Tryz.prog 60 #[pptr b, .agg #[.slice vo y.k.c.length vc, .bool y.k.d, .string y.k.x.a, .int .u64 (y.k.x.n : Int), .slice po y.m.length pc, .bool y.d, .string y.v]] w fun e w' => e = .returned (.tuple #[]) ∧ RPen w' b (pSib M (t, x) y).1 M (pSib M (t, x) y).2 ∧ Keep1 b w w' :=
  rput15_any h ht vo vc po pc y.k.c y.k.d y.k.x.a y.k.x.n y.m y.d y.v f.clk f.prs f.val hI.ens hI.prs haE haP
theorem prs_old {w : World} {ao : Option Addr} {l : List Pr} (h : PrsAt w ao l) (hl : 0 < l.length) : ∀ g off m, ao = some ⟨g, off, m⟩ → g < w.heap.size := by
  intro g off m e
  obtain ⟨b, o, e', h1, _⟩ := h 0 hl
  rw [e] at e'
  cases e'
  exact World.block_lt_of_cell? w _ h1
end Go.Proofs.YteonkfedgopdiaaGreat
namespace Go.Proofs.YteonkfedgopdiaaGreat
open Go.RowKit
def RTakeS (r : Sb × Int × Int) (s : ByteArray) (b : Nat) (w : World) (e : Ending) (w' : World) : Prop := ∃ vo vc po pc, e = .returned (.agg #[.slice vo r.1.k.c.length vc, .bool r.1.k.d, .string r.1.k.x.a, .int .u64 (r.1.k.x.n : Int), .slice po r.1.m.length pc, .bool r.1.d, .string r.1.v]) ∧ Cur w' b s r.2.1 r.2.2 ∧ SibIn w' vo po pc r.1 ∧ (∀ g off m, vo = some ⟨g, off, m⟩ → w.heap.size ≤ g) ∧ (∀ g off m, po = some ⟨g, off, m⟩ → w.heap.size ≤ g) ∧ Keep1 b w w'
theorem sibIn_zero (w : World) : SibIn w none none 0 zSb := ⟨ens_nil _ _, prs_nil _ _, Nat.le_refl _, Nat.zero_le _⟩
theorem RTakeS.bare {r : Sb × Int × Int} {s : ByteArray} {b : Nat} {w w' : World} {e : Ending} {A E : Int} (hr : r = (zSb, A, E)) (h : e = .returned (.agg #[.slice none 0 0, .bool false, .string ⟨#[]⟩, .int .u64 0, .slice none 0 0, .bool false, .string ⟨#[]⟩])) (h1 : Cur w' b s A E) (h4 : Keep1 b w w') : RTakeS r s b w e w' := by
  subst hr
  exact ⟨none, 0, none, 0, h, h1, sibIn_zero _, (fun _ _ _ e => by cases e), (fun _ _ _ e => by cases e), h4⟩
theorem RTakeS.mk {r : Sb × Int × Int} {s : ByteArray} {b : Nat} {w w' : World} {e : Ending} {A E : Int} {KK : Ck} {PP : List Pr} {GB : Bool} {BT : ByteArray} {vo po : Option Addr} {vc pc : Nat} (hr : r = (⟨KK, PP, GB, BT⟩, A, E)) (h : e = .returned (.agg #[.slice vo KK.c.length vc, .bool KK.d, .string KK.x.a, .int .u64 (KK.x.n : Int), .slice po PP.length pc, .bool GB, .string BT])) (h1 : Cur w' b s A E) (h2 : EnsAt w' vo KK.c) (h2' : PrsAt w' po PP) (hcp : CapP PP pc) (h3 : ∀ g off m, vo = some ⟨g, off, m⟩ → w.heap.size ≤ g) (h3' : ∀ g off m, po = some ⟨g, off, m⟩ → w.heap.size ≤ g) (h4 : Keep1 b w w') : RTakeS r s b w e w' := by
  subst hr
  exact ⟨vo, vc, po, pc, h, h1, ⟨h2, h2', hcp⟩, h3, h3', h4⟩
end Go.Proofs.YteonkfedgopdiaaGreat
namespace Go.Proofs.YteonkfedgopdiaaGreat
open Go.RowKit
theorem DAt.idx {w : World} {g : Nat} {v0 v1 : Value} (h : DAt w g v0 v1) {o : Nat} {u : Value} (hc : w.cell? ⟨g, o, none⟩ = some u) : (o = 0 ∧ u = v0) ∨ (o = 1 ∧ u = v1) := by
  obtain ⟨ty, hk⟩ := h.blk
  match o, hc with
  | 0, hc => simp [World.cell?, hk] at hc; exact .inl ⟨rfl, hc.symm⟩
  | 1, hc => simp [World.cell?, hk] at hc; exact .inr ⟨rfl, hc.symm⟩
  | o + 2, hc => simp [World.cell?, hk] at hc
theorem ens_beside {w w' : World} {g : Nat} {a : ByteArray} {b : Option Addr} {n c : Nat} (hd : DAt w g (.string a) (.slice b n c)) (K : Keep1 g w w') {ao : Option Addr} {l : List En} (h : EnsAt w ao l) : EnsAt w' ao l := by
  intro i hi
  obtain ⟨bb, off, e, h1, h2⟩ := h i hi
  have hb : ¬ bb = g := by
    intro e2
    subst e2
    rcases hd.idx h2 with ⟨_, e3⟩ | ⟨_, e3⟩
    · cases e3
    · cases e3
  exact ⟨bb, off, e, K.cell h1 hb, K.cell h2 hb⟩
theorem prs_beside {w w' : World} {g : Nat} {a : ByteArray} {b : Option Addr} {n c : Nat} (hd : DAt w g (.string a) (.slice b n c)) (K : Keep1 g w w') {ao : Option Addr} {l : List Pr} (h : PrsAt w ao l) : PrsAt w' ao l := by
  intro i hi
  obtain ⟨bb, off, e, h1, h2⟩ := h i hi
  have hb : ¬ bb = g := by
    intro e2
    subst e2
    rcases hd.idx h2 with ⟨e3, _⟩ | ⟨_, e3⟩
    · omega
    · cases e3
  exact ⟨bb, off, e, K.cell h1 hb, K.cell h2 hb⟩
theorem sibs_beside {w w' : World} {g : Nat} {a : ByteArray} {b : Option Addr} {n c : Nat} (hd : DAt w g (.string a) (.slice b n c)) (K : Keep1 g w w') {ao : Option Addr} {l : List Sb} (h : SibsAt w ao l) : SibsAt w' ao l := by
  intro i hi
  obtain ⟨bb, off, vo, vc, po, pc, e, h1, h2⟩ := h i hi
  have hb : ¬ bb = g := by
    intro e2
    subst e2
    rcases hd.idx h1.c0 with ⟨_, e3⟩ | ⟨e3, _⟩
    · cases e3
    · rcases hd.idx h1.c1 with ⟨e4, _⟩ | ⟨e4, _⟩ <;> omega
  exact ⟨bb, off, vo, vc, po, pc, e, h1.keep K hb, ⟨ens_beside hd K h2.ens, prs_beside hd K h2.prs, h2.room⟩⟩
end Go.Proofs.YteonkfedgopdiaaGreat
namespace Go.Proofs.YteonkfedgopdiaaGreat
open Go.RowKit
theorem set_fine {s : ByteArray} {a x : Int} (h : gSet s a x = true) : x = 0 ∧ gErr s a x = 0 := by
  have hb : cByte s a x = 1 := of_decide_eq_true h
  have h2 : x = 0 ∧ a < s.size := by
    refine Decidable.byContradiction fun e => ?_
    unfold cByte at hb
    rw [if_neg e] at hb
    exact absurd hb (by decide)
  obtain ⟨rfl, h3⟩ := h2
  refine ⟨rfl, ?_⟩
  unfold gErr
  rw [if_neg (by omega), cErr_fit (by decide) (by omega)]
theorem set_err {s : ByteArray} {a x : Int} (h : x ≠ 0) : gSet s a x = false ∧ gErr s a x = x ∧ cAt s a x 1 = a := by
  have hb : cByte s a x = 0 := if_neg (fun e => h e.1)
  refine ⟨?_, ?_, cAt_bad 1 h⟩
  · unfold gSet
    rw [hb]
    rfl
  · unfold gErr
    rw [hb, if_neg (by decide), cErr_bad 1 h]
def kWhen (k : Ck) (A F : Int) : Ck × Int × Int := if F = 0 then (k, A, 0) else (zCk, A, F)
theorem when_yes (k : Ck) (A : Int) : kWhen k A 0 = (k, A, 0) := if_pos rfl
theorem when_no {k : Ck} {A F : Int} (h : F ≠ 0) : kWhen k A F = (zCk, A, F) := if_neg h
section
variable {s : ByteArray} {a x : Int} {V : List En} {b E : Int}
theorem chain_plain (hr : rX [] rVec s a x = (V, b, E)) (hv : vCheck V = 0) (hs : gSet s b E = false) :
    rX zCk rClk s a x = kWhen ⟨V, false, zEn⟩ (cAt s b E 1) (cFail (gErr s b E) (kCheck ⟨V, false, zEn⟩)) := by
  by_cases hE : E = 0
  · subst hE
    have hx : x = 0 := by
      refine Decidable.byContradiction fun e => ?_
      rw [rX_no e] at hr
      exact e (congrArg (fun q : List En × Int × Int => q.2.2) hr)
    subst hx
    rw [rX_yes] at hr ⊢
    by_cases hg : gErr s b 0 = 0
    · have hk : kCheck ⟨V, false, zEn⟩ = 0 := by
        rw [check_dot (k := ⟨V, false, zEn⟩) hv]
        exact dot_p0 rfl rfl rfl
      rw [clk_3 hr hg hs, hg, hk, cFail_yes, when_yes]
    · rw [clk_2 hr hg, cFail_no hg, when_no hg]
  · obtain ⟨_, h1, h2⟩ := set_err (s := s) (a := b) hE
    rw [h1, h2, cFail_no hE, when_no hE]
    by_cases hx : x = 0
    · subst hx
      rw [rX_yes] at hr ⊢
      rw [clk_1 (by rw [hr]; exact hE), hr]
    · rw [rX_no hx] at hr ⊢
      have h3 : (a, x) = (b, E) := congrArg (fun q : List En × Int × Int => q.2) hr
      show (zCk, (a, x)) = (zCk, (b, E))
      rw [h3]
theorem chain_dot (hr : rX [] rVec s a x = (V, b, E)) (hv : vCheck V = 0) (hs : gSet s b E = true) {A : Int} (hA : cAt s b E 1 = A) {N : Nat} (hN : tNum s (bAt s A 0 32) (zAct none s A) = (N : Int)) :
    rX zCk rClk s a x = kWhen ⟨V, true, ⟨bTxt s A 0 32, N⟩⟩ (tAt s (bAt s A 0 32) (zAct none s A)) (cFail (tErr s (bAt s A 0 32) (zAct none s A)) (kCheck ⟨V, true, ⟨bTxt s A 0 32, N⟩⟩)) := by
  obtain ⟨rfl, hg⟩ := set_fine hs
  have hx : x = 0 := by
    refine Decidable.byContradiction fun e => ?_
    rw [rX_no e] at hr
    exact e (congrArg (fun q : List En × Int × Int => q.2.2) hr)
  subst hx
  rw [rX_yes] at hr ⊢
  rw [clk_dot hr hg hs, hA]
  have hall := ent_all none s A
  have hz : zCnt s (bAt s A 0 32) (zAct none s A) = if N = 0 then cFail (tErr s (bAt s A 0 32) (zAct none s A)) 7 else tErr s (bAt s A 0 32) (zAct none s A) := by
    unfold zCnt
    rw [hN]
    by_cases h : N = 0
    · subst h; rfl
    · rw [if_neg h, if_neg (by omega)]
  by_cases h3 : tErr s (bAt s A 0 32) (zAct none s A) = 0
  case neg =>
    have hz2 : zCnt s (bAt s A 0 32) (zAct none s A) = tErr s (bAt s A 0 32) (zAct none s A) := by
      rw [hz]
      split
      · exact cFail_no h3 7
      · rfl
    rw [hz2] at hall
    have hd := dot_bad (V := V) (show (rEnt none s A).2.2 ≠ 0 by rw [hall]; exact h3)
    rw [hall] at hd
    rw [hd, if_neg h3, cFail_no h3, when_no h3]
  have h2 : zAct none s A = 0 := by
    refine Decidable.byContradiction fun e => ?_
    rw [tErr_err e] at h3
    exact e h3
  have hsz : (bTxt s A 0 32).size ≤ 32 := zAct_size
  have hne : (bTxt s A 0 32).size ≠ 0 := by
    intro e
    have e2 : aTest none (bTxt s A 0 32) = 14 := if_pos e
    unfold zAct at h2
    rw [e2] at h2
    unfold cFail at h2
    split at h2
    · exact absurd h2 (by decide)
    · rename_i h4; exact h4 h2
  have hck : kCheck ⟨V, true, ⟨bTxt s A 0 32, N⟩⟩ = kDot ⟨V, true, ⟨bTxt s A 0 32, N⟩⟩ := check_dot (k := ⟨V, true, ⟨bTxt s A 0 32, N⟩⟩) hv
  rw [h3, cFail_yes, hck]
  rw [h3] at hz
  by_cases h4 : N = 0
  · rw [if_pos h4, cFail_yes] at hz
    rw [hz] at hall
    have hd := dot_bad (V := V) (show (rEnt none s A).2.2 ≠ 0 by rw [hall]; show (7 : Int) ≠ 0; decide)
    rw [hall] at hd
    rw [hd, if_neg (show ¬ (7 : Int) = 0 by decide), dot_7 (k := ⟨V, true, ⟨bTxt s A 0 32, N⟩⟩) rfl (by show ¬ 32 < (bTxt s A 0 32).size; omega) hne h4, when_no (by decide)]
  · rw [if_neg h4] at hz
    have hf := ent_fine (p := none) hz
    rw [hz] at hall
    have hN2 : (tNum s (bAt s A 0 32) (zAct none s A)).toNat = N := by omega
    rw [hN2] at hf
    have h0 : (rEnt none s A).2.2 = 0 := by rw [hall]
    by_cases h5 : N ≤ vCount V (bTxt s A 0 32)
    · have hd := dot_15' (V := V) h0 (by rw [hf]; exact h5)
      rw [hall] at hd
      rw [hd, if_neg (show ¬ (15 : Int) = 0 by decide), dot_15 (k := ⟨V, true, ⟨bTxt s A 0 32, N⟩⟩) rfl (by show ¬ 32 < (bTxt s A 0 32).size; omega) hne h4 h5, when_no (by decide)]
    · have hd := dot_yes (V := V) h0 (by rw [hf]; exact h5)
      rw [hd, h0, if_pos rfl, hf, hall, dot_0 (k := ⟨V, true, ⟨bTxt s A 0 32, N⟩⟩) rfl (by show ¬ 32 < (bTxt s A 0 32).size; omega) hne h4 h5, when_yes]
end
theorem vec_bad {s : ByteArray} {a : Int} (he : (rVec s a).2.2 ≠ 0) : (rVec s a).1 = [] := by
  by_cases hk : kErr s a 0 64 = 0
  · rw [vec_b hk] at he ⊢
    unfold lift at he ⊢
    split
    · rename_i h; rw [if_pos h] at he; exact absurd h he
    · rfl
  · rw [vec_a hk]
theorem vec_right {s : ByteArray} {a x : Int} (h0 : 0 ≤ a) (h1 : a ≤ s.size) {V : List En} {b E : Int} (hr : rX [] rVec s a x = (V, b, E)) : vCheck V = 0 ∧ Ok10 V := by
  have hn : vCheck [] = 0 ∧ Ok10 [] := ⟨rfl, by simp [Ok10]⟩
  by_cases hx : x = 0
  · subst hx
    rw [rX_yes] at hr
    have e1 : (rVec s a).1 = V := by rw [hr]
    by_cases he : (rVec s a).2.2 = 0
    · obtain ⟨hk, hu⟩ := (vec_codec.read h0 h1 he).1
      rw [e1] at hk hu
      obtain ⟨h2, h3⟩ := (check_zero _).1 hk
      exact ⟨hk, by omega, fun y hy => ⟨by have := (h3.1 y hy).2.1; unfold maxLen; omega, hu y hy⟩⟩
    · rw [vec_bad he] at e1
      rw [← e1]
      exact hn
  · rw [rX_no hx] at hr
    have e1 : [] = V := congrArg Prod.fst hr
    rw [← e1]
    exact hn
end Go.Proofs.YteonkfedgopdiaaGreat
