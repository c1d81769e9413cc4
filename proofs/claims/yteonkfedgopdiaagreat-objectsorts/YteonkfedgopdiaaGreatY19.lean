/-
  What this seat's claims lean on of the texts Obj, RefVcode, Open10, Law14.
  Conditions: as each theorem states.
-/
import Derived.WalkKit
import Derived.ProofKit
import Derived.Below
import Derived.Deep.Draws
import Derived.Deep.RegionHeld
import Derived.Test.YteonkfedgopdiaaGreatChecked
import Derived.OpenShut
import Derived.ShutString
import Derived.WalkSpells
import Derived.WalkLawsBesides
import Derived.Deep.QuietTactic
import Derived.BigQuiet
import Derived.Laws.Bits64b
import Derived.PlainAid
import Derived.Lib.AppendStr
import Derived.Deep.AppendLies
import Derived.Laws.IdiomStrings
import Derived.Laws.BytesArg
import Derived.Deep.RegionWith
import Derived.Test.YteonkfedgopdiaaGreatY18
import Derived.Test.YteonkfedgopdiaaGreatY11
import Derived.Laws.AppendOwn
import Derived.Deep.DeepAppendWide
import Derived.Deep.Upon
import Derived.Test.YteonkfedgopdiaaGreatY10
import Derived.Test.YteonkfedgopdiaaGreatY14
import Derived.Test.YteonkfedgopdiaaGreatY8
import Derived.Test.YteonkfedgopdiaaGreatY7
import Derived.Deep.Slices
import Derived.Test.YteonkfedgopdiaaGreatY4
import Derived.Test.YteonkfedgopdiaaGreatY3
namespace Go.Proofs.YteonkfedgopdiaaGreat
open Go.RowKit
structure Ob where
  key : ByteArray
  l : List Sb
def zOb : Ob := ⟨⟨#[]⟩, []⟩
def fTest (p : Option ByteArray) (x : Sb) : Int := if falls p (eClk x.k) = true then 6 else 0
def oOne (p : Option ByteArray) (x : Sb) : Int := if sCheck x = 0 then fTest p x else sCheck x
def oGo : Option ByteArray → List Sb → Int
  | _, [] => 0
  | p, x :: l => if oOne p x = 0 then oGo (some (eClk x.k)) l else oOne p x
def oCheck (o : Ob) : Int := if outS o.key o.l.length = 0 then oGo none o.l else outS o.key o.l.length
def sbU (x : Sb) : Prop := (∀ y ∈ x.k.c, U64 y.n) ∧ U64 x.k.x.n
theorem oOne_zero {p : Option ByteArray} {x : Sb} : oOne p x = 0 ↔ sCheck x = 0 ∧ fTest p x = 0 := by
  unfold oOne
  by_cases h : sCheck x = 0
  · rw [if_pos h]; exact ⟨fun e => ⟨h, e⟩, fun e => e.2⟩
  · rw [if_neg h]; exact ⟨fun e => absurd e h, fun e => absurd e.1 h⟩
theorem fTest_zero {p : Option ByteArray} {x : Sb} : fTest p x = 0 ↔ ∀ q, p = some q → bl q (eClk x.k) = true := by
  unfold fTest
  cases p with
  | none =>
    rw [falls_none, if_neg (by decide)]
    exact ⟨(fun _ q e => by cases e), fun _ => rfl⟩
  | some q =>
    rw [falls_some]
    cases hb : bl q (eClk x.k) with
    | true => exact ⟨fun _ q' e => by cases e; exact hb, fun _ => rfl⟩
    | false => exact ⟨fun e => absurd e (by decide), fun e => by rw [e q rfl] at hb; cases hb⟩
def GoodS (l : List Sb) : Prop := (∀ x ∈ l, sCheck x = 0) ∧ l.Pairwise (fun x y => bl (eClk x.k) (eClk y.k) = true)
theorem oGo_zero : ∀ (l : List Sb) (p : Option ByteArray), oGo p l = 0 ↔ GoodS l ∧ ∀ q, p = some q → ∀ x ∈ l, bl q (eClk x.k) = true
  | [], p => ⟨fun _ => ⟨⟨(fun _ h => by cases h), List.Pairwise.nil⟩, (fun _ _ _ h => by cases h)⟩, fun _ => rfl⟩
  | x :: l, p => by
    rw [oGo]
    constructor
    · intro h
      by_cases h0 : oOne p x = 0
      · rw [if_pos h0] at h
        obtain ⟨⟨g1, g2⟩, g3⟩ := (oGo_zero l (some (eClk x.k))).1 h
        obtain ⟨o1, o2⟩ := oOne_zero.1 h0
        refine ⟨⟨?_, List.pairwise_cons.2 ⟨fun y hy => g3 _ rfl y hy, g2⟩⟩, fun q e y hy => ?_⟩
        · intro y hy
          rcases List.mem_cons.1 hy with rfl | hy
          · exact o1
          · exact g1 y hy
        · rcases List.mem_cons.1 hy with rfl | hy
          · exact fTest_zero.1 o2 q e
          · exact bl_trans (fTest_zero.1 o2 q e) (g3 _ rfl y hy)
      · rw [if_neg h0] at h
        exact absurd h h0
    · rintro ⟨⟨g1, g2⟩, g3⟩
      obtain ⟨p1, p2⟩ := List.pairwise_cons.1 g2
      have h0 : oOne p x = 0 := oOne_zero.2 ⟨g1 x List.mem_cons_self, fTest_zero.2 (fun q e => g3 q e x List.mem_cons_self)⟩
      rw [if_pos h0]
      exact (oGo_zero l (some (eClk x.k))).2 ⟨⟨fun y hy => g1 y (List.mem_cons_of_mem _ hy), p2⟩, fun q e y hy => by cases e; exact p1 y hy⟩
theorem oCheck_zero {o : Ob} : oCheck o = 0 ↔ outS o.key o.l.length = 0 ∧ GoodS o.l := by
  unfold oCheck
  by_cases h : outS o.key o.l.length = 0
  · rw [if_pos h, oGo_zero]
    exact ⟨fun e => ⟨h, e.1⟩, fun e => ⟨e.2, fun q hq => by cases hq⟩⟩
  · rw [if_neg h]
    exact ⟨fun e => absurd e h, fun e => absurd e.1 h⟩
def okOb (o : Ob) : Prop := oCheck o = 0 ∧ ∀ x ∈ o.l, sbU x
def rSibT (p : Option ByteArray) : Rdr Sb := rTest zSb (fTest p) rSib
def rSibs : Nat → Option ByteArray → Rdr (List Sb)
  | 0, _ => rNil []
  | n + 1, p => rMap (fun q : Sb × List Sb => q.1 :: q.2) (rSeq (zSb, []) (rSibT p) (fun x => rSibs n (some (eClk x.k))))
def eSibs : List Sb → ByteArray
  | [] => ⟨#[]⟩
  | x :: l => eSib x ++ eSibs l
theorem okSib_U {x : Sb} : okSib x ↔ sCheck x = 0 ∧ sbU x := by
  constructor
  · intro h
    exact ⟨h.zero, h.1.2⟩
  · rintro ⟨h1, h2⟩
    exact (okSib_iff h2.1 h2.2).2 h1
def rObT : Rdr (Nat × List Sb) := rSeq (0, []) rNs (fun n => rSibs n none)
def rOb : Rdr Ob := rMap (fun q : ByteArray × (Nat × List Sb) => (⟨q.1, q.2.2⟩ : Ob)) (rSeq (⟨#[]⟩, (0, [])) rKey (fun _ => rObT))
def eOb (o : Ob) : ByteArray := bEncT o.key ++ (vText o.l.length ++ eSibs o.l)
def liftS (O : List Sb) (r : List Sb × Int × Int) : List Sb × Int × Int := if r.2.2 = 0 then (O ++ r.1, r.2) else ([], r.2)
theorem sibs_zero (p : Option ByteArray) (s : ByteArray) (a : Int) (O : List Sb) : liftS O (rSibs 0 p s a) = (O, a, 0) := by
  show liftS O ([], a, 0) = _
  unfold liftS
  rw [if_pos rfl, List.append_nil]
theorem sibs_bad {n : Nat} {p : Option ByteArray} {s : ByteArray} {a : Int} (O : List Sb) (h : (rSibT p s a).2.2 ≠ 0) : liftS O (rSibs (n + 1) p s a) = ([], (rSibT p s a).2) := by
  have e : (rSibs (n + 1) p s a).2 = (rSibT p s a).2 := by
    show (rSeq (zSb, []) (rSibT p) (fun x => rSibs n (some (eClk x.k))) s a).2 = _
    rw [rSeq_no h]
  unfold liftS
  rw [if_neg (by rw [e]; exact h), e]
theorem sibs_more {n : Nat} {p : Option ByteArray} {s : ByteArray} {a : Int} (O : List Sb) (h : (rSibT p s a).2.2 = 0) : liftS O (rSibs (n + 1) p s a) = liftS (O ++ [(rSibT p s a).1]) (rSibs n (some (eClk (rSibT p s a).1.k)) s (rSibT p s a).2.1) := by
  by_cases h1 : (rSibs n (some (eClk (rSibT p s a).1.k)) s (rSibT p s a).2.1).2.2 = 0
  · have e : rSibs (n + 1) p s a = ((rSibT p s a).1 :: (rSibs n (some (eClk (rSibT p s a).1.k)) s (rSibT p s a).2.1).1, (rSibs n (some (eClk (rSibT p s a).1.k)) s (rSibT p s a).2.1).2) := by
      show rMap (fun q : Sb × List Sb => q.1 :: q.2) (rSeq (zSb, []) (rSibT p) (fun x => rSibs n (some (eClk x.k)))) s a = _
      unfold rMap
      rw [rSeq_yes h h1]
    unfold liftS
    rw [e, if_pos h1, if_pos h1, List.append_assoc]
    rfl
  · have e : (rSibs (n + 1) p s a).2 = (rSibs n (some (eClk (rSibT p s a).1.k)) s (rSibT p s a).2.1).2 := by
      show (rSeq (zSb, []) (rSibT p) (fun x => rSibs n (some (eClk x.k))) s a).2 = _
      rw [rSeq_mid h h1]
    unfold liftS
    rw [e, if_neg h1, if_neg h1]
section
variable {s : ByteArray} {a : Int}
theorem sibT_a {p : Option ByteArray} (h : (rSib s a).2.2 ≠ 0) : (rSibT p s a).2 = (rSib s a).2 := by unfold rSibT; rw [rTest_no h]
theorem sibT_b {p : Option ByteArray} (h : (rSib s a).2.2 = 0) (h1 : fTest p (rSib s a).1 ≠ 0) : (rSibT p s a).2 = ((rSib s a).2.1, fTest p (rSib s a).1) := by unfold rSibT; rw [rTest_bad h h1]
theorem sibT_c {p : Option ByteArray} (h : (rSib s a).2.2 = 0) (h1 : fTest p (rSib s a).1 = 0) : rSibT p s a = rSib s a := by unfold rSibT; rw [rTest_yes h h1]
theorem ob_1 (h : bErr s a 0 128 ≠ 0) : rOb s a = (zOb, bAt s a 0 128, bErr s a 0 128) := by
  have e : rKey s a = (⟨#[]⟩, bAt s a 0 128, bErr s a 0 128) := by unfold rKey; rw [rTest_no (show (rBlob 128 s a).2.2 ≠ 0 from h)]; rfl
  show rMap _ (rSeq (⟨#[]⟩, (0, [])) rKey (fun _ => rObT)) s a = _
  unfold rMap
  rw [rSeq_no (by rw [e]; exact h), e]
  rfl
theorem ob_2 (h : bErr s a 0 128 = 0) (h1 : (bTxt s a 0 128).size = 0) : rOb s a = (zOb, bAt s a 0 128, 14) := by
  have ht : kyTest (rBlob 128 s a).1 = 14 := if_pos h1
  have e : rKey s a = (⟨#[]⟩, bAt s a 0 128, 14) := by unfold rKey; rw [rTest_bad (show (rBlob 128 s a).2.2 = 0 from h) (by rw [ht]; decide), ht]; rfl
  show rMap _ (rSeq (⟨#[]⟩, (0, [])) rKey (fun _ => rObT)) s a = _
  unfold rMap
  rw [rSeq_no (by rw [e]; show (14 : Int) ≠ 0; decide), e]
  rfl
theorem ob_rest {K : ByteArray} {b : Int} (h : rKey s a = (K, b, 0)) : rOb s a = if (rObT s b).2.2 = 0 then ((⟨K, (rObT s b).1.2⟩ : Ob), (rObT s b).2) else (zOb, (rObT s b).2) := by
  show rMap _ (rSeq (⟨#[]⟩, (0, [])) rKey (fun _ => rObT)) s a = _
  unfold rMap
  by_cases h1 : (rObT s b).2.2 = 0
  · rw [rSeq_yes (by rw [h]) (by rw [h]; exact h1), if_pos h1, h]
  · rw [rSeq_mid (by rw [h]) (by rw [h]; exact h1), if_neg h1, h]
    rfl
variable {b : Int}
theorem obT_1 (h : kErr s b 0 16 ≠ 0) : (rObT s b).2 = (tAt s b 0, kErr s b 0 16) := by
  have e : (rNs s b).2 = (tAt s b 0, kErr s b 0 16) := by unfold rNs; rw [rTest_no (show (rCount 16 s b).2.2 ≠ 0 from h)]; rfl
  unfold rObT
  rw [rSeq_no (by rw [e]; exact h), e]
theorem obT_2 (h : kErr s b 0 16 = 0) (h1 : kNum s b 0 16 = 0) : (rObT s b).2 = (tAt s b 0, 7) := by
  have ht : nTest (rCount 16 s b).1 = 7 := by show nTest (kNum s b 0 16).toNat = 7; rw [h1]; rfl
  have e : (rNs s b).2 = (tAt s b 0, 7) := by unfold rNs; rw [rTest_bad (show (rCount 16 s b).2.2 = 0 from h) (by rw [ht]; decide), ht]; rfl
  unfold rObT
  rw [rSeq_no (by rw [e]; show (7 : Int) ≠ 0; decide), e]
theorem obT_3 (h : kErr s b 0 16 = 0) (h1 : kNum s b 0 16 ≠ 0) : (rObT s b).1.2 = (liftS [] (rSibs (kNum s b 0 16).toNat none s (tAt s b 0))).1 ∧ (rObT s b).2 = (liftS [] (rSibs (kNum s b 0 16).toNat none s (tAt s b 0))).2 := by
  have hb := kNum_bd s b 0 16
  have ht : nTest (rCount 16 s b).1 = 0 := by show nTest (kNum s b 0 16).toNat = 0; unfold nTest; rw [if_neg (by omega)]
  have e : rNs s b = ((kNum s b 0 16).toNat, tAt s b 0, 0) := by
    unfold rNs
    rw [rTest_yes (show (rCount 16 s b).2.2 = 0 from h) ht]
    show (_, _, kErr s b 0 16) = _
    rw [h]
  unfold rObT liftS
  by_cases h2 : (rSibs (kNum s b 0 16).toNat none s (tAt s b 0)).2.2 = 0
  · rw [rSeq_yes (by rw [e]) (by rw [e]; exact h2), if_pos h2, e]
    exact ⟨rfl, rfl⟩
  · rw [rSeq_mid (by rw [e]) (by rw [e]; exact h2), if_neg h2, e]
    exact ⟨rfl, rfl⟩
end
def pOb (M : Int) (p : ByteArray × Int) (o : Ob) : ByteArray × Int := if oCheck o = 0 then pSibs M (pOne M (wPut M 128 p o.key) (vText o.l.length)) o.l else (p.1, pFail p.2 (oCheck o))
theorem pOb_yes {M : Int} {p : ByteArray × Int} {o : Ob} (h : oCheck o = 0) : pOb M p o = pSibs M (pOne M (wPut M 128 p o.key) (vText o.l.length)) o.l := if_pos h
theorem pOb_no {M : Int} {p : ByteArray × Int} {o : Ob} (h : oCheck o ≠ 0) : pOb M p o = (p.1, pFail p.2 (oCheck o)) := if_neg h
theorem pSibs_sizeU (M : Int) : ∀ (l : List Sb) (p : ByteArray × Int), (∀ x ∈ l, sbU x) → (pSibs M p l).1.size ≤ p.1.size + 300000 * l.length
  | [], _, _ => by show _ ≤ _ + 300000 * 0; exact Nat.le_refl _
  | v :: l, p, h => by
    have hv := h v List.mem_cons_self
    have h1 := pSib_size M p (x := v) hv.1 hv.2
    have h2 := pSibs_sizeU M l (pSib M p v) (fun k hk => h k (List.mem_cons_of_mem _ hk))
    show (pSibs M (pSib M p v) l).1.size ≤ _
    rw [List.length_cons]
    omega
theorem pOb_size (M : Int) (q : ByteArray × Int) {o : Ob} (h : ∀ x ∈ o.l, sbU x) : (pOb M q o).1.size ≤ q.1.size + 5000000 := by
  by_cases h0 : oCheck o = 0
  · obtain ⟨h1, _⟩ := oCheck_zero.1 h0
    have h1 := outS_zero.1 h1
    rw [pOb_yes h0]
    have a1 := wPut_size M 128 q o.key (by omega)
    have a2 := pOne_size M (wPut M 128 q o.key) (vText o.l.length)
    have a3 := (vText_le (n := o.l.length) (by omega)).2
    have a4 := pSibs_sizeU M o.l (pOne M (wPut M 128 q o.key) (vText o.l.length)) h
    omega
  · rw [pOb_no h0]
    show q.1.size ≤ _
    omega
theorem Wr.sibs : ∀ {l : List Sb}, (∀ x ∈ l, okSib x) → Wr (fun M p => pSibs M p l) (eSibs l)
  | [], _ => Wr.nil
  | x :: _, h => (Wr.sib (h x List.mem_cons_self)).seq (Wr.sibs (fun y hy => h y (List.mem_cons_of_mem _ hy)))
theorem Wr.ob {o : Ob} (h : okOb o) : Wr (fun M p => pOb M p o) (eOb o) := by
  obtain ⟨h1, h2⟩ := oCheck_zero.1 h.1
  have h1 := outS_zero.1 h1
  have e : (fun (M : Int) (p : ByteArray × Int) => pOb M p o) = (fun M p => pSibs M (pOne M (wPut M 128 p o.key) (vText o.l.length)) o.l) := by
    funext M p
    exact pOb_yes h.1
  rw [e]
  have c := ((Wr.blob (m := 128) (s := o.key) (by rw [pMax128]; omega)).seq (Wr.one (vText o.l.length))).seq (Wr.sibs (fun x hx => okSib_U.2 ⟨h2.1 x hx, h.2 x hx⟩))
  refine c.eq ?_
  unfold eOb
  rw [ByteArray.append_assoc]
def encO (o : Ob) : ByteArray × Int := if oCheck o = 0 then (if ((eOb o).size : Int) ≤ 65536 then (eOb o, 0) else (⟨#[]⟩, 3)) else (⟨#[]⟩, oCheck o)
def decO (s : ByteArray) : Ob × Int := dec zOb rOb s
theorem encO_pen {o : Ob} (h : ∀ x ∈ o.l, sbU x) : (pEnd (pOb 65536 (⟨#[]⟩, 0) o).1 (pOb 65536 (⟨#[]⟩, 0) o).2, (pOb 65536 (⟨#[]⟩, 0) o).2) = encO o := by
  unfold encO
  by_cases h0 : oCheck o = 0
  · rw [if_pos h0]
    exact (Wr.ob ⟨h0, h⟩).ends (by decide)
  · rw [if_neg h0, pOb_no h0]
    show (pEnd ⟨#[]⟩ (pFail 0 (oCheck o)), pFail 0 (oCheck o)) = _
    have e : pFail 0 (oCheck o) = oCheck o := if_pos rfl
    rw [e]
    unfold pEnd
    rw [if_neg h0]
end Go.Proofs.YteonkfedgopdiaaGreat
namespace Go.Proofs.YteonkfedgopdiaaGreat
open Go.RowKit
theorem Keep.eGrown {w w' : World} {B : Nat} {row : Option Nat} (g : w.grownBy w' row) (h : ∀ k, row = some k → B ≤ k) : KeepFrom B w w' :=
  ⟨g.os, g.tape, g.output, g.size, fun k hk hn => g.block k hk (fun e => hn (h k e.symm))⟩
def RTake (r : List En × Int × Int) (s : ByteArray) (b : Nat) (w : World) (e : Ending) (w' : World) : Prop := ∃ ao cap, e = .returned (.slice ao r.1.length cap) ∧ Cur w' b s r.2.1 r.2.2 ∧ EnsAt w' ao r.1 ∧ (∀ g off m, ao = some ⟨g, off, m⟩ → w.heap.size ≤ g) ∧ Keep1 b w w'
theorem RTake.mk {r : List En × Int × Int} {s : ByteArray} {b : Nat} {w w' : World} {e : Ending} {ao : Option Addr} {cap : Nat} (h : e = .returned (.slice ao r.1.length cap)) (h1 : Cur w' b s r.2.1 r.2.2) (h2 : EnsAt w' ao r.1) (h3 : ∀ g off m, ao = some ⟨g, off, m⟩ → w.heap.size ≤ g) (h4 : Keep1 b w w') : RTake r s b w e w' := ⟨ao, cap, h, h1, h2, h3, h4⟩
theorem take_bad {s : ByteArray} {a x : Int} (h : kErr s a x 64 ≠ 0) : kNum s a x 64 = 0 ∧ rX [] rVec s a x = ([], tAt s a x, kErr s a x 64) := by
  by_cases hx : x = 0
  · subst hx
    refine ⟨?_, by rw [rX_yes, vec_a h]⟩
    by_cases ht : tErr s a 0 = 0
    · by_cases ho : pMax 64 < tNum s a 0
      · exact (k_over ht ho).1
      · exact absurd (k_ok ht ho).2 h
    · exact (k_err ht).1
  · have ht := tErr_err (s := s) (a := a) hx
    obtain ⟨h1, h2⟩ := k_err (s := s) (a := a) (x := x) (m := 64) (by rw [ht]; exact hx)
    exact ⟨h1, by rw [rX_no hx, h2, ht, tAt_err hx]⟩
theorem take_good {s : ByteArray} {a x : Int} (h : kErr s a x 64 = 0) : x = 0 := by
  refine Decidable.byContradiction fun hx => ?_
  have ht := tErr_err (s := s) (a := a) hx
  obtain ⟨_, h2⟩ := k_err (s := s) (a := a) (x := x) (m := 64) (by rw [ht]; exact hx)
  rw [h2, ht] at h
  exact hx h
theorem count_le {s : ByteArray} {a x : Int} : kNum s a x 64 ≤ 64 := by
  unfold kNum
  split
  · rename_i h; exact h.2
  · decide
end Go.Proofs.YteonkfedgopdiaaGreat
namespace Go.Proofs.YteonkfedgopdiaaGreat
open Go.RowKit Go.WideShapes Go.ChangeShapes
set_option maxRecDepth 100000 in
theorem rd_entry {H : Type} {enc : TypeId × Value → H} {w : World} {cs : List Value} (h : Rd enc w 39 cs) : ∃ x : En, cs = x.cells ∧ x.a.size ≤ maxLen ∧ x.n < 18446744073709551616 := by
  obtain ⟨hl, hf⟩ := rd_struct Tryz.underlying39 h
  have hl2 : cs.length = 2 := hl.trans (by kernel_rfl)
  match cs, hl2 with
  | [v0, v1], _ =>
    have g0 := hf 0 _ rfl
    have g1 := hf 1 _ rfl
    have c5 : Tryz.prog.cellsOf 37 = 1 := by kernel_rfl
    have cs' : Tryz.prog.cellsOf 9 = 1 := by kernel_rfl
    simp [c5, cs'] at g0 g1
    obtain ⟨s, e0, hs⟩ := rd_string Tryz.underlying9 g0
    obtain ⟨n1, e1, w1⟩ := rd_int Tryz.underlying37 g1
    have hb := bounds_u64 w1
    simp at e0 e1
    subst e0 e1
    refine ⟨⟨s, n1.toNat⟩, ?_, hs, by show n1.toNat < _; omega⟩
    show [Value.string s, Value.int .u64 n1] = [Value.string s, Value.int .u64 ((n1.toNat : Nat) : Int)]
    rw [Int.toNat_of_nonneg hb.1]
set_option maxRecDepth 100000 in
theorem rd_ens {H : Type} {enc : TypeId × Value → H} {w : World} {cs : List Value} (h : Rd enc w 36 cs) :
    ∃ (ao : Option Addr) (cap : Nat) (l : List En), cs = [.slice ao l.length cap] ∧ Fits l ∧ EnsAt w ao l := by
  obtain ⟨ao, cap, es, h1, h2, h3, h4⟩ := rd_slice Tryz.underlying36 (by kernel_rfl : Tryz.prog.cellsOf 39 = 2) (by decide) h
  have hl : ∀ es : List (List Value), (∀ x ∈ es, ∃ f : En, x = f.cells ∧ f.a.size ≤ maxLen ∧ f.n < 18446744073709551616) → ∃ l : List En, es = l.map En.cells ∧ ∀ f ∈ l, f.a.size ≤ maxLen ∧ f.n < 18446744073709551616 := by
    intro es
    induction es with
    | nil => exact fun _ => ⟨[], rfl, by simp⟩
    | cons x es ih =>
      intro h
      obtain ⟨a, rfl, ha⟩ := h x (by simp)
      obtain ⟨l, rfl, hl⟩ := ih (fun y hy => h y (by simp [hy]))
      exact ⟨a :: l, rfl, by simp; exact ⟨ha, hl⟩⟩
  obtain ⟨l, rfl, hok⟩ := hl es (fun x hx => rd_entry (h4 x hx))
  refine ⟨ao, cap, l, by simpa using h1, ⟨by simpa using h2, hok⟩, fun i hi => ?_⟩
  obtain ⟨b, off, e1, e2, e3⟩ := h3.cell i (by simpa using hi)
  refine ⟨b, off, e1, ?_, ?_⟩
  · simpa [En.cells] using e3 0 (by simp [En.cells])
  · simpa [En.cells] using e3 1 (by simp [En.cells])
end Go.Proofs.YteonkfedgopdiaaGreat
namespace Go.Proofs.YteonkfedgopdiaaGreat
open Go.RowKit
def Ok14 (l : List Pr) (cap : Nat) : Prop := l.length ≤ 10000 ∧ (∀ x ∈ l, x.n.size ≤ maxLen ∧ x.v.size ≤ maxLen) ∧ CapP l cap
theorem Ok14.fits {l : List Pr} {cap : Nat} (h : Ok14 l cap) : FitsP l := ⟨by have := h.1; unfold maxLen; omega, h.2.1⟩
end Go.Proofs.YteonkfedgopdiaaGreat
