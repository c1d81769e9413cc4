/-
  Pairs as bytes, on rows of bytes: reading and writing as a pair; written to a pen. No program.
  Conditions: none beyond what each lemma states.
-/
import Derived.Test.YtmcinehbhgaiaaaPairs
import Derived.Test.YtmcinehbhgaiaaaVcPen
namespace Go.Proofs.Ytmcinehbhgaiaaa
open Go.RowKit

def rPair (p : Option ByteArray) : Rdr Pr := rMap (fun q : ByteArray × ByteArray => (⟨q.1, q.2⟩ : Pr)) (rSeq (⟨#[]⟩, ⟨#[]⟩) (rActor p) (fun _ => rBlob 32768))
def ePair (x : Pr) : ByteArray := bEncT x.n ++ bEncT x.v
theorem pMax8 : pMax 8 = 8 := rfl
theorem pMax15 : pMax 32768 = 32768 := rfl
theorem pair_ok {p : Option ByteArray} {x : Pr} : qOne p x = 0 ↔ ((x.n.size < 18446744073709551616 ∧ (x.n.size : Int) ≤ pMax 32) ∧ aTest p x.n = 0) ∧ (x.v.size < 18446744073709551616 ∧ (x.v.size : Int) ≤ pMax 32768) := by
  rw [pMax32, pMax15]
  constructor
  · intro h
    obtain ⟨⟨h1, h2, h3⟩, h4⟩ := qOne_zero.1 h
    refine ⟨⟨⟨by omega, by omega⟩, ?_⟩, by omega, by omega⟩
    unfold aTest
    rw [if_neg (by omega)]
    cases p with
    | none => rfl
    | some q => rw [falls_some, h4 q rfl]; rfl
  · rintro ⟨⟨⟨_, h2⟩, h3⟩, _, h4⟩
    refine qOne_zero.2 ⟨⟨?_, by omega, by omega⟩, fun q hq => ?_⟩
    · refine Nat.pos_of_ne_zero fun e => ?_
      unfold aTest at h3; rw [if_pos e] at h3; exact absurd h3 (by decide)
    · subst hq
      cases hb : bl q x.n with
      | true => rfl
      | false =>
        unfold aTest at h3
        by_cases h0 : x.n.size = 0
        · rw [if_pos h0] at h3; exact absurd h3 (by decide)
        · rw [if_neg h0, falls_some, hb, if_pos (by decide)] at h3; exact absurd h3 (by decide)
theorem pair_codec (p : Option ByteArray) : Codec (rPair p) (fun x => qOne p x = 0) ePair := by
  have c1 := (blob_codec 32).test ⟨#[]⟩ (aTest p)
  have c := ((c1.seq (⟨#[]⟩, ⟨#[]⟩) (B := fun _ => rBlob 32768) (okB := fun _ v => v.size < 18446744073709551616 ∧ (v.size : Int) ≤ pMax 32768) (encB := fun _ v => bEncT v) (fun _ _ => blob_codec 32768)).map (fun q : ByteArray × ByteArray => (⟨q.1, q.2⟩ : Pr)) (fun x => (x.n, x.v)) (fun _ _ => rfl) (fun _ _ => rfl))
  exact c.weak (fun v => pair_ok) (fun _ _ => rfl)
def rPairs : Nat → Option ByteArray → Rdr (List Pr)
  | 0, _ => rNil []
  | n + 1, p => rMap (fun q : Pr × List Pr => q.1 :: q.2) (rSeq (⟨⟨#[]⟩, ⟨#[]⟩⟩, []) (rPair p) (fun x => rPairs n (some x.n)))
def ePairs : List Pr → ByteArray
  | [] => ⟨#[]⟩
  | x :: l => ePair x ++ ePairs l
def okPairs (n : Nat) (p : Option ByteArray) (l : List Pr) : Prop := l.length = n ∧ qGo p l = 0
def unconsP (l : List Pr) : Pr × List Pr := match l with
  | [] => (⟨⟨#[]⟩, ⟨#[]⟩⟩, [])
  | x :: r => (x, r)
theorem pairs_codec : ∀ (n : Nat) (p : Option ByteArray), Codec (rPairs n p) (okPairs n p) ePairs
  | 0, p => by
    refine (Codec.nil ([] : List Pr)).weak (fun v => ?_) (fun v hv => ?_)
    · exact ⟨fun h => List.eq_nil_of_length_eq_zero h.1, fun h => by subst h; exact ⟨rfl, rfl⟩⟩
    · rw [hv]; rfl
  | n + 1, p => by
    have c := ((pair_codec p).seq (⟨⟨#[]⟩, ⟨#[]⟩⟩, []) (B := fun x => rPairs n (some x.n)) (okB := fun x => okPairs n (some x.n)) (encB := fun _ => ePairs) (fun x _ => pairs_codec n (some x.n)))
    have c2 := c.map (fun q : Pr × List Pr => q.1 :: q.2) unconsP (fun _ _ => rfl) (fun u hu => by
      cases u with
      | nil => exact absurd (qOne_zero.1 hu.1).1.1 (by decide)
      | cons x r => rfl)
    refine c2.weak (fun v => ?_) (fun v hv => ?_)
    · cases v with
      | nil => exact ⟨fun h => absurd h.1 (by simp), fun h => absurd (qOne_zero.1 h.1).1.1 (by decide)⟩
      | cons x r =>
        show okPairs (n + 1) p (x :: r) ↔ qOne p x = 0 ∧ okPairs n (some x.n) r
        unfold okPairs
        rw [qGo, List.length_cons]
        constructor
        · rintro ⟨h1, h2⟩
          by_cases h0 : qOne p x = 0
          · rw [if_pos h0] at h2
            exact ⟨h0, by omega, h2⟩
          · rw [if_neg h0] at h2; exact absurd h2 h0
        · rintro ⟨h0, h1, h2⟩
          rw [if_pos h0]
          exact ⟨by omega, h2⟩
    · cases v with
      | nil => exact absurd (qOne_zero.1 hv.1).1.1 (by decide)
      | cons x r => rfl
def rPrs : Rdr (List Pr) := rMap (fun q : Nat × List Pr => q.2) (rSeq (0, []) (rCount 8) (fun n => rPairs n none))
def ePrs (l : List Pr) : ByteArray := vText l.length ++ ePairs l
theorem prs_codec : Codec rPrs (fun l => qCheck l = 0) ePrs := by
  have c := (((count_codec 8).seq (0, []) (B := fun n => rPairs n none) (okB := fun n => okPairs n none) (encB := fun _ => ePairs) (fun n _ => pairs_codec n none)).map (fun q : Nat × List Pr => q.2) (fun l => (l.length, l)) (fun v hv => by
    obtain ⟨n, l⟩ := v
    have h : l.length = n := hv.2.1
    rw [h]) (fun _ _ => rfl))
  refine c.weak (fun v => ?_) (fun _ _ => rfl)
  show qCheck v = 0 ↔ (v.length < 18446744073709551616 ∧ (v.length : Int) ≤ pMax 8) ∧ okPairs v.length none v
  unfold okPairs
  rw [pMax8]
  constructor
  · intro h
    obtain ⟨h1, h2⟩ := (qCheck_zero v).1 h
    exact ⟨⟨by omega, by omega⟩, rfl, (qGo_zero v none).2 ⟨h2, fun _ e => by cases e⟩⟩
  · rintro ⟨⟨_, h1⟩, _, h2⟩
    exact (qCheck_zero v).2 ⟨by omega, ((qGo_zero v none).1 h2).1⟩

/-! ### step by step -/
def liftP (O : List Pr) (r : List Pr × Int × Int) : List Pr × Int × Int := if r.2.2 = 0 then (O ++ r.1, r.2) else ([], r.2)
theorem prs_zero (p : Option ByteArray) (s : ByteArray) (a : Int) (O : List Pr) : liftP O (rPairs 0 p s a) = (O, a, 0) := by
  show liftP O ([], a, 0) = _
  unfold liftP
  rw [if_pos rfl, List.append_nil]
theorem prs_bad {n : Nat} {p : Option ByteArray} {s : ByteArray} {a : Int} (O : List Pr) (h : (rPair p s a).2.2 ≠ 0) : liftP O (rPairs (n + 1) p s a) = ([], (rPair p s a).2) := by
  have e : (rPairs (n + 1) p s a).2 = (rPair p s a).2 := by
    show (rSeq (⟨⟨#[]⟩, ⟨#[]⟩⟩, []) (rPair p) (fun x => rPairs n (some x.n)) s a).2 = _
    rw [rSeq_no h]
  unfold liftP
  rw [if_neg (by rw [e]; exact h), e]
theorem prs_more {n : Nat} {p : Option ByteArray} {s : ByteArray} {a : Int} (O : List Pr) (h : (rPair p s a).2.2 = 0) : liftP O (rPairs (n + 1) p s a) = liftP (O ++ [(rPair p s a).1]) (rPairs n (some (rPair p s a).1.n) s (rPair p s a).2.1) := by
  by_cases h1 : (rPairs n (some (rPair p s a).1.n) s (rPair p s a).2.1).2.2 = 0
  · have e : rPairs (n + 1) p s a = ((rPair p s a).1 :: (rPairs n (some (rPair p s a).1.n) s (rPair p s a).2.1).1, (rPairs n (some (rPair p s a).1.n) s (rPair p s a).2.1).2) := by
      show rMap (fun q : Pr × List Pr => q.1 :: q.2) (rSeq (⟨⟨#[]⟩, ⟨#[]⟩⟩, []) (rPair p) (fun x => rPairs n (some x.n))) s a = _
      unfold rMap
      rw [rSeq_yes h h1]
    unfold liftP
    rw [e, if_pos h1, if_pos h1, List.append_assoc]
    rfl
  · have e : (rPairs (n + 1) p s a).2 = (rPairs n (some (rPair p s a).1.n) s (rPair p s a).2.1).2 := by
      show (rSeq (⟨⟨#[]⟩, ⟨#[]⟩⟩, []) (rPair p) (fun x => rPairs n (some x.n)) s a).2 = _
      rw [rSeq_mid h h1]
    unfold liftP
    rw [e, if_neg h1, if_neg h1]
theorem pr_a {p : Option ByteArray} {s : ByteArray} {a : Int} (h : bErr s a 0 32 ≠ 0) : (rPair p s a).2 = (bAt s a 0 32, bErr s a 0 32) := by
  have e : (rActor p s a).2 = (bAt s a 0 32, bErr s a 0 32) := by unfold rActor; rw [rTest_no (show (rBlob 32 s a).2.2 ≠ 0 from h)]; rfl
  show (rSeq (⟨#[]⟩, ⟨#[]⟩) (rActor p) (fun _ => rBlob 32768) s a).2 = _
  rw [rSeq_no (by rw [e]; exact h), e]
theorem pr_b {p : Option ByteArray} {s : ByteArray} {a : Int} (h : bErr s a 0 32 = 0) (h1 : aTest p (bTxt s a 0 32) ≠ 0) : (rPair p s a).2 = (bAt s a 0 32, aTest p (bTxt s a 0 32)) := by
  have e : (rActor p s a).2 = (bAt s a 0 32, aTest p (bTxt s a 0 32)) := by unfold rActor; rw [rTest_bad (show (rBlob 32 s a).2.2 = 0 from h) h1]; rfl
  show (rSeq (⟨#[]⟩, ⟨#[]⟩) (rActor p) (fun _ => rBlob 32768) s a).2 = _
  rw [rSeq_no (by rw [e]; exact h1), e]
theorem pr_c {p : Option ByteArray} {s : ByteArray} {a : Int} (h : bErr s a 0 32 = 0) (h1 : aTest p (bTxt s a 0 32) = 0) (h2 : bErr s (bAt s a 0 32) 0 32768 ≠ 0) : (rPair p s a).2 = (bAt s (bAt s a 0 32) 0 32768, bErr s (bAt s a 0 32) 0 32768) := by
  have e := actor_yes h h1
  show (rSeq (⟨#[]⟩, ⟨#[]⟩) (rActor p) (fun _ => rBlob 32768) s a).2 = _
  rw [rSeq_mid (by rw [e]) (by rw [e]; exact h2), e]
  rfl
theorem pr_d {p : Option ByteArray} {s : ByteArray} {a : Int} (h : bErr s a 0 32 = 0) (h1 : aTest p (bTxt s a 0 32) = 0) (h2 : bErr s (bAt s a 0 32) 0 32768 = 0) : rPair p s a = (⟨bTxt s a 0 32, bTxt s (bAt s a 0 32) 0 32768⟩, bAt s (bAt s a 0 32) 0 32768, 0) := by
  have e := actor_yes h h1
  show rMap (fun q : ByteArray × ByteArray => (⟨q.1, q.2⟩ : Pr)) (rSeq (⟨#[]⟩, ⟨#[]⟩) (rActor p) (fun _ => rBlob 32768)) s a = _
  unfold rMap
  rw [rSeq_yes (by rw [e]) (by rw [e]; exact h2), e]
  show ((⟨bTxt s a 0 32, bTxt s (bAt s a 0 32) 0 32768⟩ : Pr), bAt s (bAt s a 0 32) 0 32768, bErr s (bAt s a 0 32) 0 32768) = _
  rw [h2]
theorem rprs_a {s : ByteArray} {a : Int} (h : kErr s a 0 8 ≠ 0) : rPrs s a = ([], tAt s a 0, kErr s a 0 8) := by
  show rMap (fun q : Nat × List Pr => q.2) (rSeq (0, []) (rCount 8) (fun n => rPairs n none)) s a = _
  unfold rMap
  rw [rSeq_no (show (rCount 8 s a).2.2 ≠ 0 from h)]
  rfl
theorem rprs_b {s : ByteArray} {a : Int} (h : kErr s a 0 8 = 0) : rPrs s a = liftP [] (rPairs (kNum s a 0 8).toNat none s (tAt s a 0)) := by
  show rMap (fun q : Nat × List Pr => q.2) (rSeq (0, []) (rCount 8) (fun n => rPairs n none)) s a = _
  unfold rMap liftP
  by_cases h1 : (rPairs (kNum s a 0 8).toNat none s (tAt s a 0)).2.2 = 0
  · rw [rSeq_yes (show (rCount 8 s a).2.2 = 0 from h) h1, if_pos h1]; rfl
  · rw [rSeq_mid (show (rCount 8 s a).2.2 = 0 from h) h1, if_neg h1]; rfl

/-! ### written to a pen -/
def pPair (M : Int) (q : ByteArray × Int) (x : Pr) : ByteArray × Int := wPut M 32768 (wPut M 32 q x.n) x.v
def pPairs (M : Int) (p : ByteArray × Int) (l : List Pr) : ByteArray × Int := l.foldl (pPair M) p
def pPrs (M : Int) (p : ByteArray × Int) (l : List Pr) : ByteArray × Int := if qCheck l = 0 then pPairs M (pOne M p (vText l.length)) l else (p.1, pFail p.2 (qCheck l))
theorem pPairs_take {M : Int} {p : ByteArray × Int} {l : List Pr} {k : Nat} (h : k < l.length) : pPairs M p (l.take (k + 1)) = pPair M (pPairs M p (l.take k)) l[k] := by
  rw [List.take_succ_eq_append_getElem h]
  unfold pPairs
  rw [List.foldl_append]
  rfl
theorem pPrs_yes {M : Int} {p : ByteArray × Int} {l : List Pr} (h : qCheck l = 0) : pPrs M p l = pPairs M (pOne M p (vText l.length)) l := if_pos h
theorem pPrs_no {M : Int} {p : ByteArray × Int} {l : List Pr} (h : qCheck l ≠ 0) : pPrs M p l = (p.1, pFail p.2 (qCheck l)) := if_neg h
end Go.Proofs.Ytmcinehbhgaiaaa
