/-
  What this seat's claims lean on of the texts Pairs, Pcode, PcPen, Whole.
  Conditions: as each theorem states.
-/
import Derived.WalkKit
import Derived.ProofKit
import Derived.Below
import Derived.Deep.Draws
import Derived.Deep.RegionHeld
import Derived.Test.YteonkfedgopdiaaGreatChecked
import Derived.OpenShut
import Derived.ShutString
import Derived.WalkSpells
import Derived.WalkLawsBesides
import Derived.Deep.QuietTactic
import Derived.BigQuiet
import Derived.Laws.Bits64b
import Derived.PlainAid
import Derived.Lib.AppendStr
import Derived.Deep.AppendLies
import Derived.Laws.IdiomStrings
import Derived.Laws.BytesArg
import Derived.Deep.RegionWith
import Derived.Test.YteonkfedgopdiaaGreatZ6
import Derived.Test.YteonkfedgopdiaaGreatZ7
import Derived.Test.YteonkfedgopdiaaGreatZ5
import Derived.Test.YteonkfedgopdiaaGreatZ2
namespace Go.Proofs.YteonkfedgopdiaaGreat
open Go.RowKit
structure Pr where
  n : ByteArray
  v : ByteArray
theorem Pr.eq {x y : Pr} (h1 : x.n = y.n) (h2 : x.v = y.v) : x = y := by cases x; cases y; cases h1; cases h2; rfl
def Pr.ok (x : Pr) : Prop := 0 < x.n.size ∧ x.n.size ≤ 32 ∧ x.v.size ≤ 32768
def GoodP (l : List Pr) : Prop := (∀ x ∈ l, x.ok) ∧ l.Pairwise (fun x y => bl x.n y.n = true)
def qOne (p : Option ByteArray) (x : Pr) : Int := if 32 < x.n.size then 3 else if x.n.size = 0 then 14 else if falls p x.n = true then 6 else if 32768 < x.v.size then 3 else 0
def qGo : Option ByteArray → List Pr → Int
  | _, [] => 0
  | p, x :: l => if qOne p x = 0 then qGo (some x.n) l else qOne p x
def qCheck (l : List Pr) : Int := if 8 < l.length then 3 else qGo none l
theorem qOne_zero {p : Option ByteArray} {x : Pr} : qOne p x = 0 ↔ x.ok ∧ ∀ q, p = some q → bl q x.n = true := by
  unfold qOne Pr.ok
  constructor
  · intro h
    by_cases h1 : 32 < x.n.size
    · rw [if_pos h1] at h; exact absurd h (by decide)
    rw [if_neg h1] at h
    by_cases h2 : x.n.size = 0
    · rw [if_pos h2] at h; exact absurd h (by decide)
    rw [if_neg h2] at h
    by_cases h3 : falls p x.n = true
    · rw [if_pos h3] at h; exact absurd h (by decide)
    rw [if_neg h3] at h
    by_cases h4 : 32768 < x.v.size
    · rw [if_pos h4] at h; exact absurd h (by decide)
    refine ⟨⟨by omega, by omega, by omega⟩, fun q e => ?_⟩
    subst e
    rw [falls_some] at h3
    simpa using h3
  · rintro ⟨⟨h1, h2, h3⟩, h4⟩
    rw [if_neg (by omega), if_neg (by omega)]
    cases p with
    | none => rw [falls_none, if_neg (by decide), if_neg (by omega)]
    | some q => rw [falls_some, h4 q rfl, if_neg (by decide), if_neg (by omega)]
theorem qGo_zero : ∀ (l : List Pr) (p : Option ByteArray), qGo p l = 0 ↔ GoodP l ∧ ∀ q, p = some q → ∀ x ∈ l, bl q x.n = true
  | [], p => ⟨fun _ => ⟨⟨(fun _ h => by cases h), List.Pairwise.nil⟩, (fun _ _ _ h => by cases h)⟩, fun _ => rfl⟩
  | x :: l, p => by
    rw [qGo]
    constructor
    · intro h
      by_cases h0 : qOne p x = 0
      · rw [if_pos h0] at h
        obtain ⟨⟨g1, g2⟩, g3⟩ := (qGo_zero l (some x.n)).1 h
        obtain ⟨o1, o2⟩ := qOne_zero.1 h0
        refine ⟨⟨?_, List.pairwise_cons.2 ⟨fun y hy => g3 x.n rfl y hy, g2⟩⟩, fun q e y hy => ?_⟩
        · intro y hy
          rcases List.mem_cons.1 hy with rfl | hy
          · exact o1
          · exact g1 y hy
        · rcases List.mem_cons.1 hy with rfl | hy
          · exact o2 q e
          · exact bl_trans (o2 q e) (g3 x.n rfl y hy)
      · rw [if_neg h0] at h
        exact absurd h h0
    · rintro ⟨⟨g1, g2⟩, g3⟩
      obtain ⟨p1, p2⟩ := List.pairwise_cons.1 g2
      have h0 : qOne p x = 0 := qOne_zero.2 ⟨g1 x List.mem_cons_self, fun q e => g3 q e x List.mem_cons_self⟩
      rw [if_pos h0]
      exact (qGo_zero l (some x.n)).2 ⟨⟨fun y hy => g1 y (List.mem_cons_of_mem _ hy), p2⟩, fun q e y hy => by cases e; exact p1 y hy⟩
theorem qCheck_zero (l : List Pr) : qCheck l = 0 ↔ l.length ≤ 8 ∧ GoodP l := by
  unfold qCheck
  by_cases h : 8 < l.length
  · rw [if_pos h]
    exact ⟨fun e => absurd e (by decide), fun e => absurd e.1 (by omega)⟩
  · rw [if_neg h, qGo_zero]
    exact ⟨fun e => ⟨by omega, e.1⟩, fun e => ⟨e.2, fun q h => by cases h⟩⟩
theorem GoodP.nil : GoodP [] := ⟨(fun _ h => by cases h), List.Pairwise.nil⟩
theorem GoodP.cons {x : Pr} {l : List Pr} (h1 : x.ok) (h2 : GoodP l) (h3 : ∀ y ∈ l, bl x.n y.n = true) : GoodP (x :: l) :=
  ⟨(fun y hy => (List.mem_cons.1 hy).elim (fun e => e ▸ h1) (fun h => h2.1 y h)), List.pairwise_cons.2 ⟨h3, h2.2⟩⟩
end Go.Proofs.YteonkfedgopdiaaGreat
namespace Go.Proofs.YteonkfedgopdiaaGreat
open Go.RowKit
def rPair (p : Option ByteArray) : Rdr Pr := rMap (fun q : ByteArray × ByteArray => (⟨q.1, q.2⟩ : Pr)) (rSeq (⟨#[]⟩, ⟨#[]⟩) (rActor p) (fun _ => rBlob 32768))
def ePair (x : Pr) : ByteArray := bEncT x.n ++ bEncT x.v
theorem pMax8 : pMax 8 = 8 := rfl
theorem pMax15 : pMax 32768 = 32768 := rfl
theorem pair_ok {p : Option ByteArray} {x : Pr} : qOne p x = 0 ↔ ((x.n.size < 18446744073709551616 ∧ (x.n.size : Int) ≤ pMax 32) ∧ aTest p x.n = 0) ∧ (x.v.size < 18446744073709551616 ∧ (x.v.size : Int) ≤ pMax 32768) := by
  rw [pMax32, pMax15]
  constructor
  · intro h
    obtain ⟨⟨h1, h2, h3⟩, h4⟩ := qOne_zero.1 h
    refine ⟨⟨⟨by omega, by omega⟩, ?_⟩, by omega, by omega⟩
    unfold aTest
    rw [if_neg (by omega)]
    cases p with
    | none => rfl
    | some q => rw [falls_some, h4 q rfl]; rfl
  · rintro ⟨⟨⟨_, h2⟩, h3⟩, _, h4⟩
    refine qOne_zero.2 ⟨⟨?_, by omega, by omega⟩, fun q hq => ?_⟩
    · refine Nat.pos_of_ne_zero fun e => ?_
      unfold aTest at h3; rw [if_pos e] at h3; exact absurd h3 (by decide)
    · subst hq
      cases hb : bl q x.n with
      | true => rfl
      | false =>
        unfold aTest at h3
        by_cases h0 : x.n.size = 0
        · rw [if_pos h0] at h3; exact absurd h3 (by decide)
        · rw [if_neg h0, falls_some, hb, if_pos (by decide)] at h3; exact absurd h3 (by decide)
theorem pair_codec (p : Option ByteArray) : Codec (rPair p) (fun x => qOne p x = 0) ePair := by
  have c1 := (blob_codec 32).test ⟨#[]⟩ (aTest p)
  have c := ((c1.seq (⟨#[]⟩, ⟨#[]⟩) (B := fun _ => rBlob 32768) (okB := fun _ v => v.size < 18446744073709551616 ∧ (v.size : Int) ≤ pMax 32768) (encB := fun _ v => bEncT v) (fun _ _ => blob_codec 32768)).map (fun q : ByteArray × ByteArray => (⟨q.1, q.2⟩ : Pr)) (fun x => (x.n, x.v)) (fun _ _ => rfl) (fun _ _ => rfl))
  exact c.weak (fun v => pair_ok) (fun _ _ => rfl)
def rPairs : Nat → Option ByteArray → Rdr (List Pr)
  | 0, _ => rNil []
  | n + 1, p => rMap (fun q : Pr × List Pr => q.1 :: q.2) (rSeq (⟨⟨#[]⟩, ⟨#[]⟩⟩, []) (rPair p) (fun x => rPairs n (some x.n)))
def ePairs : List Pr → ByteArray
  | [] => ⟨#[]⟩
  | x :: l => ePair x ++ ePairs l
def okPairs (n : Nat) (p : Option ByteArray) (l : List Pr) : Prop := l.length = n ∧ qGo p l = 0
def unconsP (l : List Pr) : Pr × List Pr := match l with
  | [] => (⟨⟨#[]⟩, ⟨#[]⟩⟩, [])
  | x :: r => (x, r)
theorem pairs_codec : ∀ (n : Nat) (p : Option ByteArray), Codec (rPairs n p) (okPairs n p) ePairs
  | 0, p => by
    refine (Codec.nil ([] : List Pr)).weak (fun v => ?_) (fun v hv => ?_)
    · exact ⟨fun h => List.eq_nil_of_length_eq_zero h.1, fun h => by subst h; exact ⟨rfl, rfl⟩⟩
    · rw [hv]; rfl
  | n + 1, p => by
    have c := ((pair_codec p).seq (⟨⟨#[]⟩, ⟨#[]⟩⟩, []) (B := fun x => rPairs n (some x.n)) (okB := fun x => okPairs n (some x.n)) (encB := fun _ => ePairs) (fun x _ => pairs_codec n (some x.n)))
    have c2 := c.map (fun q : Pr × List Pr => q.1 :: q.2) unconsP (fun _ _ => rfl) (fun u hu => by
      cases u with
      | nil => exact absurd (qOne_zero.1 hu.1).1.1 (by decide)
      | cons x r => rfl)
    refine c2.weak (fun v => ?_) (fun v hv => ?_)
    · cases v with
      | nil => exact ⟨fun h => absurd h.1 (by simp), fun h => absurd (qOne_zero.1 h.1).1.1 (by decide)⟩
      | cons x r =>
        show okPairs (n + 1) p (x :: r) ↔ qOne p x = 0 ∧ okPairs n (some x.n) r
        unfold okPairs
        rw [qGo, List.length_cons]
        constructor
        · rintro ⟨h1, h2⟩
          by_cases h0 : qOne p x = 0
          · rw [if_pos h0] at h2
            exact ⟨h0, by omega, h2⟩
          · rw [if_neg h0] at h2; exact absurd h2 h0
        · rintro ⟨h0, h1, h2⟩
          rw [if_pos h0]
          exact ⟨by omega, h2⟩
    · cases v with
      | nil => exact absurd (qOne_zero.1 hv.1).1.1 (by decide)
      | cons x r => rfl
def rPrs : Rdr (List Pr) := rMap (fun q : Nat × List Pr => q.2) (rSeq (0, []) (rCount 8) (fun n => rPairs n none))
def ePrs (l : List Pr) : ByteArray := vText l.length ++ ePairs l
theorem prs_codec : Codec rPrs (fun l => qCheck l = 0) ePrs := by
  have c := (((count_codec 8).seq (0, []) (B := fun n => rPairs n none) (okB := fun n => okPairs n none) (encB := fun _ => ePairs) (fun n _ => pairs_codec n none)).map (fun q : Nat × List Pr => q.2) (fun l => (l.length, l)) (fun v hv => by
    obtain ⟨n, l⟩ := v
    have h : l.length = n := hv.2.1
    rw [h]) (fun _ _ => rfl))
  refine c.weak (fun v => ?_) (fun _ _ => rfl)
  show qCheck v = 0 ↔ (v.length < 18446744073709551616 ∧ (v.length : Int) ≤ pMax 8) ∧ okPairs v.length none v
  unfold okPairs
  rw [pMax8]
  constructor
  · intro h
    obtain ⟨h1, h2⟩ := (qCheck_zero v).1 h
    exact ⟨⟨by omega, by omega⟩, rfl, (qGo_zero v none).2 ⟨h2, fun _ e => by cases e⟩⟩
  · rintro ⟨⟨_, h1⟩, _, h2⟩
    exact (qCheck_zero v).2 ⟨by omega, ((qGo_zero v none).1 h2).1⟩
def liftP (O : List Pr) (r : List Pr × Int × Int) : List Pr × Int × Int := if r.2.2 = 0 then (O ++ r.1, r.2) else ([], r.2)
theorem prs_zero (p : Option ByteArray) (s : ByteArray) (a : Int) (O : List Pr) : liftP O (rPairs 0 p s a) = (O, a, 0) := by
  show liftP O ([], a, 0) = _
  unfold liftP
  rw [if_pos rfl, List.append_nil]
theorem prs_bad {n : Nat} {p : Option ByteArray} {s : ByteArray} {a : Int} (O : List Pr) (h : (rPair p s a).2.2 ≠ 0) : liftP O (rPairs (n + 1) p s a) = ([], (rPair p s a).2) := by
  have e : (rPairs (n + 1) p s a).2 = (rPair p s a).2 := by
    show (rSeq (⟨⟨#[]⟩, ⟨#[]⟩⟩, []) (rPair p) (fun x => rPairs n (some x.n)) s a).2 = _
    rw [rSeq_no h]
  unfold liftP
  rw [if_neg (by rw [e]; exact h), e]
theorem prs_more {n : Nat} {p : Option ByteArray} {s : ByteArray} {a : Int} (O : List Pr) (h : (rPair p s a).2.2 = 0) : liftP O (rPairs (n + 1) p s a) = liftP (O ++ [(rPair p s a).1]) (rPairs n (some (rPair p s a).1.n) s (rPair p s a).2.1) := by
  by_cases h1 : (rPairs n (some (rPair p s a).1.n) s (rPair p s a).2.1).2.2 = 0
  · have e : rPairs (n + 1) p s a = ((rPair p s a).1 :: (rPairs n (some (rPair p s a).1.n) s (rPair p s a).2.1).1, (rPairs n (some (rPair p s a).1.n) s (rPair p s a).2.1).2) := by
      show rMap (fun q : Pr × List Pr => q.1 :: q.2) (rSeq (⟨⟨#[]⟩, ⟨#[]⟩⟩, []) (rPair p) (fun x => rPairs n (some x.n))) s a = _
      unfold rMap
      rw [rSeq_yes h h1]
    unfold liftP
    rw [e, if_pos h1, if_pos h1, List.append_assoc]
    rfl
  · have e : (rPairs (n + 1) p s a).2 = (rPairs n (some (rPair p s a).1.n) s (rPair p s a).2.1).2 := by
      show (rSeq (⟨⟨#[]⟩, ⟨#[]⟩⟩, []) (rPair p) (fun x => rPairs n (some x.n)) s a).2 = _
      rw [rSeq_mid h h1]
    unfold liftP
    rw [e, if_neg h1, if_neg h1]
theorem pr_a {p : Option ByteArray} {s : ByteArray} {a : Int} (h : bErr s a 0 32 ≠ 0) : (rPair p s a).2 = (bAt s a 0 32, bErr s a 0 32) := by
  have e : (rActor p s a).2 = (bAt s a 0 32, bErr s a 0 32) := by unfold rActor; rw [rTest_no (show (rBlob 32 s a).2.2 ≠ 0 from h)]; rfl
  show (rSeq (⟨#[]⟩, ⟨#[]⟩) (rActor p) (fun _ => rBlob 32768) s a).2 = _
  rw [rSeq_no (by rw [e]; exact h), e]
theorem pr_b {p : Option ByteArray} {s : ByteArray} {a : Int} (h : bErr s a 0 32 = 0) (h1 : aTest p (bTxt s a 0 32) ≠ 0) : (rPair p s a).2 = (bAt s a 0 32, aTest p (bTxt s a 0 32)) := by
  have e : (rActor p s a).2 = (bAt s a 0 32, aTest p (bTxt s a 0 32)) := by unfold rActor; rw [rTest_bad (show (rBlob 32 s a).2.2 = 0 from h) h1]; rfl
  show (rSeq (⟨#[]⟩, ⟨#[]⟩) (rActor p) (fun _ => rBlob 32768) s a).2 = _
  rw [rSeq_no (by rw [e]; exact h1), e]
theorem pr_c {p : Option ByteArray} {s : ByteArray} {a : Int} (h : bErr s a 0 32 = 0) (h1 : aTest p (bTxt s a 0 32) = 0) (h2 : bErr s (bAt s a 0 32) 0 32768 ≠ 0) : (rPair p s a).2 = (bAt s (bAt s a 0 32) 0 32768, bErr s (bAt s a 0 32) 0 32768) := by
  have e := actor_yes h h1
  show (rSeq (⟨#[]⟩, ⟨#[]⟩) (rActor p) (fun _ => rBlob 32768) s a).2 = _
  rw [rSeq_mid (by rw [e]) (by rw [e]; exact h2), e]
  rfl
theorem pr_d {p : Option ByteArray} {s : ByteArray} {a : Int} (h : bErr s a 0 32 = 0) (h1 : aTest p (bTxt s a 0 32) = 0) (h2 : bErr s (bAt s a 0 32) 0 32768 = 0) : rPair p s a = (⟨bTxt s a 0 32, bTxt s (bAt s a 0 32) 0 32768⟩, bAt s (bAt s a 0 32) 0 32768, 0) := by
  have e := actor_yes h h1
  show rMap (fun q : ByteArray × ByteArray => (⟨q.1, q.2⟩ : Pr)) (rSeq (⟨#[]⟩, ⟨#[]⟩) (rActor p) (fun _ => rBlob 32768)) s a = _
  unfold rMap
  rw [rSeq_yes (by rw [e]) (by rw [e]; exact h2), e]
  show ((⟨bTxt s a 0 32, bTxt s (bAt s a 0 32) 0 32768⟩ : Pr), bAt s (bAt s a 0 32) 0 32768, bErr s (bAt s a 0 32) 0 32768) = _
  rw [h2]
theorem rprs_a {s : ByteArray} {a : Int} (h : kErr s a 0 8 ≠ 0) : rPrs s a = ([], tAt s a 0, kErr s a 0 8) := by
  show rMap (fun q : Nat × List Pr => q.2) (rSeq (0, []) (rCount 8) (fun n => rPairs n none)) s a = _
  unfold rMap
  rw [rSeq_no (show (rCount 8 s a).2.2 ≠ 0 from h)]
  rfl
theorem rprs_b {s : ByteArray} {a : Int} (h : kErr s a 0 8 = 0) : rPrs s a = liftP [] (rPairs (kNum s a 0 8).toNat none s (tAt s a 0)) := by
  show rMap (fun q : Nat × List Pr => q.2) (rSeq (0, []) (rCount 8) (fun n => rPairs n none)) s a = _
  unfold rMap liftP
  by_cases h1 : (rPairs (kNum s a 0 8).toNat none s (tAt s a 0)).2.2 = 0
  · rw [rSeq_yes (show (rCount 8 s a).2.2 = 0 from h) h1, if_pos h1]; rfl
  · rw [rSeq_mid (show (rCount 8 s a).2.2 = 0 from h) h1, if_neg h1]; rfl
def pPair (M : Int) (q : ByteArray × Int) (x : Pr) : ByteArray × Int := wPut M 32768 (wPut M 32 q x.n) x.v
def pPairs (M : Int) (p : ByteArray × Int) (l : List Pr) : ByteArray × Int := l.foldl (pPair M) p
def pPrs (M : Int) (p : ByteArray × Int) (l : List Pr) : ByteArray × Int := if qCheck l = 0 then pPairs M (pOne M p (vText l.length)) l else (p.1, pFail p.2 (qCheck l))
theorem pPairs_take {M : Int} {p : ByteArray × Int} {l : List Pr} {k : Nat} (h : k < l.length) : pPairs M p (l.take (k + 1)) = pPair M (pPairs M p (l.take k)) l[k] := by
  rw [List.take_succ_eq_append_getElem h]
  unfold pPairs
  rw [List.foldl_append]
  rfl
theorem pPrs_yes {M : Int} {p : ByteArray × Int} {l : List Pr} (h : qCheck l = 0) : pPrs M p l = pPairs M (pOne M p (vText l.length)) l := if_pos h
theorem pPrs_no {M : Int} {p : ByteArray × Int} {l : List Pr} (h : qCheck l ≠ 0) : pPrs M p l = (p.1, pFail p.2 (qCheck l)) := if_neg h
end Go.Proofs.YteonkfedgopdiaaGreat
namespace Go.Proofs.YteonkfedgopdiaaGreat
open Go.RowKit
theorem pPair_err {M : Int} {t : ByteArray} {x : Int} (h : x ≠ 0) (y : Pr) : pPair M (t, x) y = (t, x) := by
  unfold pPair
  rw [wPut_err h, wPut_err h]
theorem pPairs_err {M : Int} {t : ByteArray} {x : Int} (h : x ≠ 0) : ∀ l, pPairs M (t, x) l = (t, x)
  | [] => rfl
  | y :: l => by
    show pPairs M (pPair M (t, x) y) l = _
    rw [pPair_err h]
    exact pPairs_err h l
theorem pPrs_err {M : Int} {t : ByteArray} {x : Int} (h : x ≠ 0) (l : List Pr) : pPrs M (t, x) l = (t, x) := by
  by_cases h0 : qCheck l = 0
  · rw [pPrs_yes h0, pOne_err h, pPairs_err h]
  · rw [pPrs_no h0]
    show (t, pFail x (qCheck l)) = _
    unfold pFail
    rw [if_neg h]
theorem pPair_size (M : Int) (q : ByteArray × Int) {x : Pr} (h : x.n.size ≤ 32) (hv : x.v.size ≤ 32768) : (pPair M q x).1.size ≤ q.1.size + 32820 := by
  have h1 := wPut_size M 32768 (wPut M 32 q x.n) x.v (by omega)
  have h2 := wPut_size M 32 q x.n (by omega)
  unfold pPair
  omega
theorem pPairs_size (M : Int) : ∀ (l : List Pr) (q : ByteArray × Int), (∀ x ∈ l, x.n.size ≤ 32 ∧ x.v.size ≤ 32768) → (pPairs M q l).1.size ≤ q.1.size + 32820 * l.length
  | [], _, _ => by show _ ≤ _ + 32820 * 0; exact Nat.le_refl _
  | x :: l, q, h => by
    have h1 := pPair_size M q (h x List.mem_cons_self).1 (h x List.mem_cons_self).2
    have h2 := pPairs_size M l (pPair M q x) (fun y hy => h y (List.mem_cons_of_mem _ hy))
    show (pPairs M (pPair M q x) l).1.size ≤ _
    rw [List.length_cons]
    omega
end Go.Proofs.YteonkfedgopdiaaGreat
namespace Go.Proofs.YteonkfedgopdiaaGreat
open Go.RowKit
def dec {α : Type} (z : α) (rd : Rdr α) (s : ByteArray) : α × Int := if cEnd s (rd s 0).2.1 (rd s 0).2.2 = 0 then ((rd s 0).1, 0) else (z, cEnd s (rd s 0).2.1 (rd s 0).2.2)
section
variable {α : Type} {z : α} {rd : Rdr α} {ok : α → Prop} {enc : α → ByteArray}
theorem Codec.dec_enc (c : Codec rd ok enc) {k : α} (h : ok k) : dec z rd (enc k) = (k, 0) := by
  have h1 := c.only h
  unfold dec
  rw [h1]
  have e : cEnd (enc k) ((enc k).size : Int) 0 = 0 := if_neg (by omega)
  show (if cEnd (enc k) ((enc k).size : Int) 0 = 0 then (k, (0 : Int)) else _) = _
  rw [if_pos e]
theorem Codec.dec_zero (c : Codec rd ok enc) {s : ByteArray} (h : (dec z rd s).2 = 0) : ok (dec z rd s).1 ∧ enc (dec z rd s).1 = s := by
  unfold dec at h ⊢
  by_cases h0 : cEnd s (rd s 0).2.1 (rd s 0).2.2 = 0
  · rw [if_pos h0]
    have hp := (c.place (s := s) (a := 0) (by decide) (by omega)).2
    unfold cEnd cFail at h0
    by_cases hl : (rd s 0).2.1 < s.size
    · rw [if_pos hl] at h0
      split at h0
      · exact absurd h0 (by decide)
      · rename_i hx; exact absurd h0 hx
    · rw [if_neg hl] at h0
      obtain ⟨h1, h2⟩ := c.all h0 (by omega)
      exact ⟨h1, h2.symm⟩
  · rw [if_neg h0] at h
    exact absurd h h0
theorem dec_no {s : ByteArray} (h : (dec z rd s).2 ≠ 0) : (dec z rd s).1 = z := by
  unfold dec at h ⊢
  split
  · rename_i h0; rw [if_pos h0] at h; exact absurd rfl h
  · rfl
theorem Codec.dec_short (c : Codec rd ok enc) {k : α} (h : ok k) {i : Nat} (hi : i < (enc k).size) : (dec z rd ((enc k).extract 0 i)).2 = 2 := by
  have e : (enc k).extract 0 i ++ (enc k).extract i (enc k).size = enc k := by
    have e1 := cut_head (s := enc k) (j := (i : Int)) (by omega) (by omega)
    have e2 : cut (enc k) 0 (i : Int) = (enc k).extract 0 i := rfl
    have e3 : cut (enc k) (i : Int) (enc k).size = (enc k).extract i (enc k).size := rfl
    rw [e2, e3] at e1
    exact e1.symm
  have h2 := c.short h e (by rw [ByteArray.size_extract]; omega)
  have h3 : ∀ s : ByteArray, ∀ a : Int, cEnd s a 2 = 2 := by
    intro s a
    unfold cEnd cFail
    split <;> rfl
  unfold dec
  rw [h2, h3, if_neg (by decide)]
theorem Codec.dec_more (c : Codec rd ok enc) {k : α} (h : ok k) {y : ByteArray} (hy : 0 < y.size) : (dec z rd (enc k ++ y)).2 = 8 := by
  have h1 := c.more h y
  have e : cEnd (enc k ++ y) ((enc k).size : Int) 0 = 8 := by
    unfold cEnd
    rw [if_pos (by rw [ByteArray.size_append]; omega)]
    rfl
  unfold dec
  rw [h1]
  show (if cEnd (enc k ++ y) ((enc k).size : Int) 0 = 0 then (k, (0 : Int)) else (z, cEnd (enc k ++ y) ((enc k).size : Int) 0)).2 = 8
  rw [e]
  rfl
end
structure Wr (W : Int → ByteArray × Int → ByteArray × Int) (e : ByteArray) : Prop where
  fit : ∀ {M : Int} {t : ByteArray}, (t.size : Int) + e.size ≤ M → W M (t, 0) = (t ++ e, 0)
  over : ∀ {M : Int} {t : ByteArray}, (t.size : Int) ≤ M → ¬ ((t.size : Int) + e.size ≤ M) → (W M (t, 0)).2 = 3
  err : ∀ {M : Int} {t : ByteArray} {x : Int}, x ≠ 0 → W M (t, x) = (t, x)
theorem Wr.one (s : ByteArray) : Wr (fun M p => pOne M p s) s where
  fit := fun h => pOne_yes h
  over := fun _ h => by rw [pOne_no h]
  err := fun h => pOne_err h
theorem Wr.nil : Wr (fun _ p => p) ⟨#[]⟩ where
  fit := fun {_ t} _ => by
    have e : t ++ (⟨#[]⟩ : ByteArray) = t := ByteArray.append_empty
    rw [e]
  over := fun {M t} h h1 => absurd (by have e : ((⟨#[]⟩ : ByteArray).size : Int) = 0 := rfl; rw [e]; omega) h1
  err := fun _ => rfl
theorem Wr.seq {A B : Int → ByteArray × Int → ByteArray × Int} {a b : ByteArray} (hA : Wr A a) (hB : Wr B b) : Wr (fun M p => B M (A M p)) (a ++ b) where
  fit := fun {M t} h => by
    rw [ByteArray.size_append] at h
    rw [hA.fit (by omega), hB.fit (by rw [ByteArray.size_append]; omega), ByteArray.append_assoc]
  over := fun {M t} h h1 => by
    rw [ByteArray.size_append] at h1
    by_cases h2 : (t.size : Int) + a.size ≤ M
    · rw [hA.fit h2]
      exact hB.over (by rw [ByteArray.size_append]; omega) (by rw [ByteArray.size_append]; omega)
    · have e := hA.over h h2
      have e2 : A M (t, 0) = ((A M (t, 0)).1, 3) := Prod.ext rfl e
      rw [e2, hB.err (by decide)]
  err := fun {M t x} h => by rw [hA.err h, hB.err h]
theorem Wr.eq {A : Int → ByteArray × Int → ByteArray × Int} {a b : ByteArray} (h : Wr A a) (e : a = b) : Wr A b := e ▸ h
theorem Wr.blob {m : Int} {s : ByteArray} (h : (s.size : Int) ≤ pMax m) : Wr (fun M p => wPut M m p s) (bEncT s) := by
  have c := (Wr.one (vText s.size)).seq (Wr.one s)
  refine ⟨fun h1 => ?_, fun h1 h2 => ?_, fun h1 => ?_⟩
  · rw [wPut_fit h]; exact c.fit h1
  · rw [wPut_fit h]; exact c.over h1 h2
  · exact wPut_err h1
theorem Wr.ends {A : Int → ByteArray × Int → ByteArray × Int} {a : ByteArray} (h : Wr A a) {M : Int} (hM : 0 ≤ M) : (pEnd (A M (⟨#[]⟩, 0)).1 (A M (⟨#[]⟩, 0)).2, (A M (⟨#[]⟩, 0)).2) = if (a.size : Int) ≤ M then (a, 0) else (⟨#[]⟩, 3) := by
  have e0 : (((⟨#[]⟩ : ByteArray).size : Nat) : Int) = 0 := rfl
  by_cases h1 : (a.size : Int) ≤ M
  · have e : (⟨#[]⟩ : ByteArray) ++ a = a := ByteArray.empty_append
    rw [if_pos h1, h.fit (by rw [e0]; omega), e]
    unfold pEnd
    rw [if_pos rfl]
  · have e := h.over (M := M) (t := ⟨#[]⟩) (by rw [e0]; omega) (by rw [e0]; omega)
    rw [if_neg h1]
    unfold pEnd
    rw [e, if_neg (by decide)]
end Go.Proofs.YteonkfedgopdiaaGreat
