/-
  What this seat's claims lean on of the texts Sib, KeyN, Obj.
  Conditions: as each theorem states.
-/
import Derived.WalkKit
import Derived.ProofKit
import Derived.Below
import Derived.Deep.Draws
import Derived.Deep.RegionHeld
import Derived.Test.YteonkfedgopdiaaGreatChecked
import Derived.OpenShut
import Derived.ShutString
import Derived.WalkSpells
import Derived.WalkLawsBesides
import Derived.Deep.QuietTactic
import Derived.BigQuiet
import Derived.Laws.Bits64b
import Derived.PlainAid
import Derived.Lib.AppendStr
import Derived.Deep.AppendLies
import Derived.Laws.IdiomStrings
import Derived.Laws.BytesArg
import Derived.Deep.RegionWith
import Derived.Test.YteonkfedgopdiaaGreatZ7
import Derived.Test.YteonkfedgopdiaaGreatZ8
import Derived.Test.YteonkfedgopdiaaGreatZ6
namespace Go.Proofs.YteonkfedgopdiaaGreat
open Go.RowKit
structure Sb where
  k : Ck
  m : List Pr
  d : Bool
  v : ByteArray
def zSb : Sb := ⟨zCk, [], false, ⟨#[]⟩⟩
def sCheck (x : Sb) : Int := if kCheck x.k = 0 then (if qCheck x.m = 0 then (if 32768 < x.v.size then 3 else 0) else qCheck x.m) else kCheck x.k
theorem sCheck_zero {x : Sb} : sCheck x = 0 ↔ kCheck x.k = 0 ∧ qCheck x.m = 0 ∧ x.v.size ≤ 32768 := by
  unfold sCheck
  by_cases h1 : kCheck x.k = 0
  · rw [if_pos h1]
    by_cases h2 : qCheck x.m = 0
    · rw [if_pos h2]
      by_cases h3 : 32768 < x.v.size
      · rw [if_pos h3]; exact ⟨fun e => absurd e (by decide), fun e => by omega⟩
      · rw [if_neg h3]; exact ⟨fun _ => ⟨h1, h2, by omega⟩, fun _ => rfl⟩
    · rw [if_neg h2]; exact ⟨fun e => absurd e h2, fun e => absurd e.2.1 h2⟩
  · rw [if_neg h1]; exact ⟨fun e => absurd e h1, fun e => absurd e.1 h1⟩
theorem sCheck_a {x : Sb} (h : kCheck x.k ≠ 0) : sCheck x = kCheck x.k := if_neg h
theorem sCheck_b {x : Sb} (h : kCheck x.k = 0) (h1 : qCheck x.m ≠ 0) : sCheck x = qCheck x.m := by unfold sCheck; rw [if_pos h, if_neg h1]
theorem sCheck_c {x : Sb} (h : kCheck x.k = 0) (h1 : qCheck x.m = 0) (h2 : 32768 < x.v.size) : sCheck x = 3 := by unfold sCheck; rw [if_pos h, if_pos h1, if_pos h2]
def okSib (x : Sb) : Prop := okClk x.k ∧ qCheck x.m = 0 ∧ x.v.size ≤ 32768
theorem okSib_iff {x : Sb} (h1 : ∀ y ∈ x.k.c, U64 y.n) (h2 : U64 x.k.x.n) : okSib x ↔ sCheck x = 0 := by
  rw [sCheck_zero]
  unfold okSib okClk
  exact ⟨fun h => ⟨h.1.1, h.2⟩, fun h => ⟨⟨h.1, h1, h2⟩, h.2⟩⟩
theorem okSib.zero {x : Sb} (h : okSib x) : sCheck x = 0 := sCheck_zero.2 ⟨h.1.1, h.2.1, h.2.2⟩
def rEnd : Rdr (Bool × ByteArray) := rSeq (false, ⟨#[]⟩) rFlag (fun _ => rBlob 32768)
def rMid : Rdr (List Pr × (Bool × ByteArray)) := rSeq ([], (false, ⟨#[]⟩)) rPrs (fun _ => rEnd)
def rSib : Rdr Sb := rMap (fun q : Ck × (List Pr × (Bool × ByteArray)) => (⟨q.1, q.2.1, q.2.2.1, q.2.2.2⟩ : Sb)) (rSeq (zCk, ([], (false, ⟨#[]⟩))) rClk (fun _ => rMid))
def eSib (x : Sb) : ByteArray := eClk x.k ++ (ePrs x.m ++ (eFlag x.d ++ bEncT x.v))
theorem sib_codec : Codec rSib okSib eSib := by
  have cE : Codec rEnd (fun q : Bool × ByteArray => True ∧ (q.2.size < 18446744073709551616 ∧ (q.2.size : Int) ≤ pMax 32768)) (fun q => eFlag q.1 ++ bEncT q.2) :=
    flag_codec.seq (B := fun _ => rBlob 32768) (okB := fun _ (s : ByteArray) => s.size < 18446744073709551616 ∧ (s.size : Int) ≤ pMax 32768) (encB := fun _ => bEncT) (false, ⟨#[]⟩) (fun _ _ => blob_codec 32768)
  have cM : Codec rMid (fun q : List Pr × (Bool × ByteArray) => qCheck q.1 = 0 ∧ (True ∧ (q.2.2.size < 18446744073709551616 ∧ (q.2.2.size : Int) ≤ pMax 32768))) (fun q => ePrs q.1 ++ (eFlag q.2.1 ++ bEncT q.2.2)) :=
    prs_codec.seq (B := fun _ => rEnd) (okB := fun _ (q : Bool × ByteArray) => True ∧ (q.2.size < 18446744073709551616 ∧ (q.2.size : Int) ≤ pMax 32768)) (encB := fun _ (q : Bool × ByteArray) => eFlag q.1 ++ bEncT q.2) ([], (false, ⟨#[]⟩)) (fun _ _ => cE)
  have c := (clk_codec.seq (B := fun _ => rMid) (okB := fun _ (q : List Pr × (Bool × ByteArray)) => qCheck q.1 = 0 ∧ (True ∧ (q.2.2.size < 18446744073709551616 ∧ (q.2.2.size : Int) ≤ pMax 32768))) (encB := fun _ (q : List Pr × (Bool × ByteArray)) => ePrs q.1 ++ (eFlag q.2.1 ++ bEncT q.2.2)) (zCk, ([], (false, ⟨#[]⟩))) (fun _ _ => cM)).map (fun q : Ck × (List Pr × (Bool × ByteArray)) => (⟨q.1, q.2.1, q.2.2.1, q.2.2.2⟩ : Sb)) (fun x => (x.k, (x.m, (x.d, x.v)))) (fun _ _ => rfl) (fun _ _ => rfl)
  refine c.weak (fun x => ?_) (fun _ _ => rfl)
  show okSib x ↔ okClk x.k ∧ (qCheck x.m = 0 ∧ (True ∧ (x.v.size < 18446744073709551616 ∧ (x.v.size : Int) ≤ pMax 32768)))
  unfold okSib
  rw [pMax15]
  exact ⟨fun h => ⟨h.1, h.2.1, trivial, by omega, by omega⟩, fun h => ⟨h.1, h.2.1, by omega⟩⟩
section
variable {s : ByteArray} {a b c : Int}
theorem sib_1 (h : (rClk s a).2.2 ≠ 0) : rSib s a = (zSb, (rClk s a).2) := by
  show rMap _ (rSeq (zCk, ([], (false, ⟨#[]⟩))) rClk (fun _ => rMid)) s a = _
  unfold rMap
  rw [rSeq_no h]
  rfl
theorem sib_rest {K : Ck} (h : rClk s a = (K, b, 0)) : rSib s a = if (rMid s b).2.2 = 0 then ((⟨K, (rMid s b).1.1, (rMid s b).1.2.1, (rMid s b).1.2.2⟩ : Sb), (rMid s b).2) else (zSb, (rMid s b).2) := by
  show rMap _ (rSeq (zCk, ([], (false, ⟨#[]⟩))) rClk (fun _ => rMid)) s a = _
  unfold rMap
  by_cases h1 : (rMid s b).2.2 = 0
  · rw [rSeq_yes (by rw [h]) (by rw [h]; exact h1), if_pos h1, h]
  · rw [rSeq_mid (by rw [h]) (by rw [h]; exact h1), if_neg h1, h]
    rfl
theorem sib_2 {K : Ck} (h : rClk s a = (K, b, 0)) (h1 : (rPrs s b).2.2 ≠ 0) : rSib s a = (zSb, (rPrs s b).2) := by
  have e : rMid s b = (([], (false, ⟨#[]⟩)), (rPrs s b).2) := rSeq_no h1
  rw [sib_rest h, e, if_neg h1]
theorem mid_rest {P : List Pr} (h : rPrs s b = (P, c, 0)) : rMid s b = if (rEnd s c).2.2 = 0 then ((P, (rEnd s c).1), (rEnd s c).2) else (([], (false, ⟨#[]⟩)), (rEnd s c).2) := by
  by_cases h1 : (rEnd s c).2.2 = 0
  · show rSeq ([], (false, ⟨#[]⟩)) rPrs (fun _ => rEnd) s b = _
    rw [rSeq_yes (by rw [h]) (by rw [h]; exact h1), if_pos h1, h]
  · show rSeq ([], (false, ⟨#[]⟩)) rPrs (fun _ => rEnd) s b = _
    rw [rSeq_mid (by rw [h]) (by rw [h]; exact h1), if_neg h1, h]
theorem sib_3 {K : Ck} {P : List Pr} (h : rClk s a = (K, b, 0)) (h1 : rPrs s b = (P, c, 0)) (h2 : gErr s c 0 ≠ 0) : rSib s a = (zSb, cAt s c 0 1, gErr s c 0) := by
  have e : rEnd s c = ((false, ⟨#[]⟩), cAt s c 0 1, gErr s c 0) := rSeq_no (A := rFlag) h2
  have e2 : rMid s b = (([], (false, ⟨#[]⟩)), cAt s c 0 1, gErr s c 0) := by rw [mid_rest h1, e, if_neg h2]
  rw [sib_rest h, e2, if_neg h2]
theorem sib_4 {K : Ck} {P : List Pr} (h : rClk s a = (K, b, 0)) (h1 : rPrs s b = (P, c, 0)) (h2 : gErr s c 0 = 0) (h3 : bErr s (cAt s c 0 1) 0 32768 ≠ 0) : rSib s a = (zSb, bAt s (cAt s c 0 1) 0 32768, bErr s (cAt s c 0 1) 0 32768) := by
  have e : rEnd s c = ((false, ⟨#[]⟩), bAt s (cAt s c 0 1) 0 32768, bErr s (cAt s c 0 1) 0 32768) := rSeq_mid (A := rFlag) (B := fun _ => rBlob 32768) h2 h3
  have e2 : rMid s b = (([], (false, ⟨#[]⟩)), bAt s (cAt s c 0 1) 0 32768, bErr s (cAt s c 0 1) 0 32768) := by rw [mid_rest h1, e, if_neg h3]
  rw [sib_rest h, e2, if_neg h3]
theorem sib_5 {K : Ck} {P : List Pr} (h : rClk s a = (K, b, 0)) (h1 : rPrs s b = (P, c, 0)) (h2 : gErr s c 0 = 0) (h3 : bErr s (cAt s c 0 1) 0 32768 = 0) : rSib s a = (⟨K, P, gSet s c 0, bTxt s (cAt s c 0 1) 0 32768⟩, bAt s (cAt s c 0 1) 0 32768, 0) := by
  have e : rEnd s c = ((gSet s c 0, bTxt s (cAt s c 0 1) 0 32768), bAt s (cAt s c 0 1) 0 32768, bErr s (cAt s c 0 1) 0 32768) := rSeq_yes (A := rFlag) (B := fun _ => rBlob 32768) h2 h3
  rw [h3] at e
  have e2 : rMid s b = ((P, (gSet s c 0, bTxt s (cAt s c 0 1) 0 32768)), bAt s (cAt s c 0 1) 0 32768, 0) := by rw [mid_rest h1, e, if_pos rfl]
  rw [sib_rest h, e2, if_pos rfl]
end
def pSib (M : Int) (p : ByteArray × Int) (x : Sb) : ByteArray × Int := if sCheck x = 0 then wPut M 32768 (wFlag M (pPrs M (pClk M p x.k) x.m) x.d) x.v else (p.1, pFail p.2 (sCheck x))
def pSibs (M : Int) (p : ByteArray × Int) (l : List Sb) : ByteArray × Int := l.foldl (pSib M) p
theorem pSib_yes {M : Int} {p : ByteArray × Int} {x : Sb} (h : sCheck x = 0) : pSib M p x = wPut M 32768 (wFlag M (pPrs M (pClk M p x.k) x.m) x.d) x.v := if_pos h
theorem pSib_no {M : Int} {p : ByteArray × Int} {x : Sb} (h : sCheck x ≠ 0) : pSib M p x = (p.1, pFail p.2 (sCheck x)) := if_neg h
theorem pSibs_take {M : Int} {p : ByteArray × Int} {l : List Sb} {i : Nat} (h : i < l.length) : pSibs M p (l.take (i + 1)) = pSib M (pSibs M p (l.take i)) l[i] := by
  rw [List.take_succ_eq_append_getElem h]
  unfold pSibs
  rw [List.foldl_append]
  rfl
theorem pSib_err {M : Int} {t : ByteArray} {x : Int} (h : x ≠ 0) (y : Sb) : pSib M (t, x) y = (t, x) := by
  by_cases h0 : sCheck y = 0
  · rw [pSib_yes h0, pClk_err h, pPrs_err h, wFlag_err h, wPut_err h]
  · rw [pSib_no h0]
    show (t, pFail x (sCheck y)) = _
    unfold pFail
    rw [if_neg h]
theorem pSibs_err {M : Int} {t : ByteArray} {x : Int} (h : x ≠ 0) : ∀ l, pSibs M (t, x) l = (t, x)
  | [] => rfl
  | k :: l => by
    show pSibs M (pSib M (t, x) k) l = _
    rw [pSib_err h]
    exact pSibs_err h l
theorem pSibs_stop {M : Int} {p : ByteArray × Int} {l : List Sb} {i : Nat} {t : ByteArray} {x : Int} (h : pSibs M p (l.take i) = (t, x)) (hx : x ≠ 0) : pSibs M p l = (t, x) := by
  have e : l = l.take i ++ l.drop i := (List.take_append_drop i l).symm
  rw [e]
  unfold pSibs at h ⊢
  rw [List.foldl_append, h]
  exact pSibs_err hx _
theorem pPrs_sizeQ (M : Int) (q : ByteArray × Int) (l : List Pr) : (pPrs M q l).1.size ≤ q.1.size + 262600 := by
  by_cases h0 : qCheck l = 0
  · obtain ⟨h1, h2⟩ := (qCheck_zero l).1 h0
    have h3 := pPairs_size M l (pOne M q (vText l.length)) (fun x hx => (h2.1 x hx).2)
    have h4 := pOne_size M q (vText l.length)
    have h5 := (vText_le (n := l.length) (by omega)).2
    rw [pPrs_yes h0]
    omega
  · rw [pPrs_no h0]
    show q.1.size ≤ _
    omega
theorem pSib_size (M : Int) (q : ByteArray × Int) {x : Sb} (hn : ∀ y ∈ x.k.c, U64 y.n) (hx : U64 x.k.x.n) : (pSib M q x).1.size ≤ q.1.size + 300000 := by
  by_cases h0 : sCheck x = 0
  · obtain ⟨h1, h2, h3⟩ := sCheck_zero.1 h0
    rw [pSib_yes h0]
    have a1 := pClk_size M q hn hx
    have a2 := pPrs_sizeQ M (pClk M q x.k) x.m
    have a3 := wFlag_size M (pPrs M (pClk M q x.k) x.m) x.d
    have a4 := wPut_size M 32768 (wFlag M (pPrs M (pClk M q x.k) x.m) x.d) x.v (by omega)
    omega
  · rw [pSib_no h0]
    show q.1.size ≤ _
    omega
theorem Wr.ents : ∀ {l : List En}, (∀ x ∈ l, x.a.size ≤ 32) → Wr (fun M p => pEnts M p l) (eEnts l)
  | [], _ => Wr.nil
  | x :: l, h => by
    have hx := h x List.mem_cons_self
    have c1 : Wr (fun M p => pEnt M p x) (eEnt x) := (Wr.blob (m := 32) (s := x.a) (by rw [pMax32]; omega)).seq (Wr.one (vText x.n))
    exact c1.seq (Wr.ents (fun y hy => h y (List.mem_cons_of_mem _ hy)))
theorem Wr.vec {v : List En} (h : okVec v) : Wr (fun M p => pVec M p v) (eVec v) := by
  obtain ⟨_, h2⟩ := (check_zero v).1 h.1
  have c := (Wr.one (vText v.length)).seq (Wr.ents (fun x hx => (h2.1 x hx).2.1))
  have e : (fun (M : Int) (p : ByteArray × Int) => pVec M p v) = (fun M p => pEnts M (pOne M p (vText v.length)) v) := by
    funext M p
    exact pVec_yes h.1
  rw [e]
  exact c
theorem Wr.flag (b : Bool) : Wr (fun M p => wFlag M p b) (eFlag b) := Wr.one _
theorem Wr.clk {k : Ck} (h : okClk k) : Wr (fun M p => pClk M p k) (eClk k) := by
  obtain ⟨h1, _, h3⟩ := (okClk_iff k).1 h
  have e : (fun (M : Int) (p : ByteArray × Int) => pClk M p k) = (fun M p => pTail M (wFlag M (pVec M p k.c) k.d) k.d k.x) := by
    funext M p
    exact pClk_yes h.1
  rw [e]
  unfold okTail at h3
  cases hd : k.d with
  | true =>
    rw [hd, if_pos rfl] at h3
    have cT : Wr (fun M p => pTail M p true k.x) (eTail true k.x) := (Wr.blob (m := 32) (s := k.x.a) (by rw [pMax32]; have := (cOne_zero.1 h3.1.1).1.2.1; omega)).seq (Wr.one (vText k.x.n))
    have c := ((Wr.vec h1).seq (Wr.flag true)).seq cT
    refine c.eq ?_
    unfold eClk
    rw [hd, ByteArray.append_assoc]
  | false =>
    have cT : Wr (fun M p => pTail M p false k.x) (eTail false k.x) := Wr.nil
    have c := ((Wr.vec h1).seq (Wr.flag false)).seq cT
    refine c.eq ?_
    unfold eClk
    rw [hd, ByteArray.append_assoc]
theorem Wr.pairs : ∀ {l : List Pr}, (∀ x ∈ l, x.ok) → Wr (fun M p => pPairs M p l) (ePairs l)
  | [], _ => Wr.nil
  | x :: l, h => by
    have hx := h x List.mem_cons_self
    unfold Pr.ok at hx
    have c1 : Wr (fun M p => pPair M p x) (ePair x) := (Wr.blob (m := 32) (s := x.n) (by rw [pMax32]; omega)).seq (Wr.blob (m := 32768) (s := x.v) (by rw [pMax15]; omega))
    exact c1.seq (Wr.pairs (fun y hy => h y (List.mem_cons_of_mem _ hy)))
theorem Wr.prs {l : List Pr} (h : qCheck l = 0) : Wr (fun M p => pPrs M p l) (ePrs l) := by
  obtain ⟨_, h2⟩ := (qCheck_zero l).1 h
  have c := (Wr.one (vText l.length)).seq (Wr.pairs h2.1)
  have e : (fun (M : Int) (p : ByteArray × Int) => pPrs M p l) = (fun M p => pPairs M (pOne M p (vText l.length)) l) := by
    funext M p
    exact pPrs_yes h
  rw [e]
  exact c
theorem Wr.sib {x : Sb} (h : okSib x) : Wr (fun M p => pSib M p x) (eSib x) := by
  have e : (fun (M : Int) (p : ByteArray × Int) => pSib M p x) = (fun M p => wPut M 32768 (wFlag M (pPrs M (pClk M p x.k) x.m) x.d) x.v) := by
    funext M p
    exact pSib_yes h.zero
  rw [e]
  have c := (((Wr.clk h.1).seq (Wr.prs h.2.1)).seq (Wr.flag x.d)).seq (Wr.blob (m := 32768) (s := x.v) (by rw [pMax15]; have := h.2.2; omega))
  refine c.eq ?_
  unfold eSib
  simp only [ByteArray.append_assoc]
end Go.Proofs.YteonkfedgopdiaaGreat
namespace Go.Proofs.YteonkfedgopdiaaGreat
open Go.RowKit
def outS (key : ByteArray) (n : Nat) : Int := if 128 < key.size then 3 else if key.size = 0 then 14 else if 16 < n then 3 else if n = 0 then 7 else 0
theorem outS_zero {key : ByteArray} {n : Nat} : outS key n = 0 ↔ 0 < key.size ∧ key.size ≤ 128 ∧ 0 < n ∧ n ≤ 16 := by
  unfold outS
  by_cases h1 : 128 < key.size
  · rw [if_pos h1]; exact ⟨fun e => absurd e (by decide), fun e => by omega⟩
  rw [if_neg h1]
  by_cases h2 : key.size = 0
  · rw [if_pos h2]; exact ⟨fun e => absurd e (by decide), fun e => by omega⟩
  rw [if_neg h2]
  by_cases h3 : 16 < n
  · rw [if_pos h3]; exact ⟨fun e => absurd e (by decide), fun e => by omega⟩
  rw [if_neg h3]
  by_cases h4 : n = 0
  · rw [if_pos h4]; exact ⟨fun e => absurd e (by decide), fun e => by omega⟩
  rw [if_neg h4]
  exact ⟨fun _ => by omega, fun _ => rfl⟩
def kyTest (s : ByteArray) : Int := if s.size = 0 then 14 else 0
def rKey : Rdr ByteArray := rTest ⟨#[]⟩ kyTest (rBlob 128)
def rNs : Rdr Nat := rTest 0 nTest (rCount 16)
theorem pMax128 : pMax 128 = 128 := rfl
theorem pMax16 : pMax 16 = 16 := rfl
section
variable {s : ByteArray} {a : Int}
theorem key_yes (h : bErr s a 0 128 = 0) (h1 : (bTxt s a 0 128).size ≠ 0) : rKey s a = (bTxt s a 0 128, bAt s a 0 128, 0) := by
  have ht : kyTest (rBlob 128 s a).1 = 0 := if_neg h1
  unfold rKey
  rw [rTest_yes (show (rBlob 128 s a).2.2 = 0 from h) ht]
  show (bTxt s a 0 128, bAt s a 0 128, bErr s a 0 128) = _
  rw [h]
end
theorem keyNum_bad {s : ByteArray} {a x : Int} (h : kErr s a x 16 ≠ 0) : kNum s a x 16 = 0 := by
  by_cases ht : tErr s a x = 0
  · by_cases ho : pMax 16 < tNum s a x
    · exact (k_over ht ho).1
    · exact absurd (k_ok ht ho).2 h
  · exact (k_err ht).1
theorem kNum16 {s : ByteArray} {a x : Int} (h : kErr s a x 16 = 0) : kNum s a x 16 ≤ 16 := by
  have hb := pMax16
  by_cases ht : tErr s a x = 0
  · by_cases ho : pMax 16 < tNum s a x
    · have := (k_over (m := 16) ht ho).2; rw [h] at this; exact absurd this (by decide)
    · have := (k_ok (m := 16) ht ho).1; omega
  · have := (k_err (m := 16) ht).1; omega
theorem key_err {s : ByteArray} {a x : Int} (h : x ≠ 0) : kNum s a x 16 = 0 ∧ kErr s a x 16 = x ∧ tAt s a x = a := by
  have ht := tErr_err (s := s) (a := a) h
  obtain ⟨h1, h2⟩ := k_err (s := s) (a := a) (x := x) (m := 16) (by rw [ht]; exact h)
  exact ⟨h1, by rw [h2, ht], tAt_err h⟩
end Go.Proofs.YteonkfedgopdiaaGreat
namespace Go.Proofs.YteonkfedgopdiaaGreat
open Go.RowKit
structure Ob where
  key : ByteArray
  l : List Sb
def zOb : Ob := ⟨⟨#[]⟩, []⟩
def fTest (p : Option ByteArray) (x : Sb) : Int := if falls p (eClk x.k) = true then 6 else 0
def oOne (p : Option ByteArray) (x : Sb) : Int := if sCheck x = 0 then fTest p x else sCheck x
def oGo : Option ByteArray → List Sb → Int
  | _, [] => 0
  | p, x :: l => if oOne p x = 0 then oGo (some (eClk x.k)) l else oOne p x
def oCheck (o : Ob) : Int := if outS o.key o.l.length = 0 then oGo none o.l else outS o.key o.l.length
def sbU (x : Sb) : Prop := (∀ y ∈ x.k.c, U64 y.n) ∧ U64 x.k.x.n
theorem oOne_zero {p : Option ByteArray} {x : Sb} : oOne p x = 0 ↔ sCheck x = 0 ∧ fTest p x = 0 := by
  unfold oOne
  by_cases h : sCheck x = 0
  · rw [if_pos h]; exact ⟨fun e => ⟨h, e⟩, fun e => e.2⟩
  · rw [if_neg h]; exact ⟨fun e => absurd e h, fun e => absurd e.1 h⟩
theorem fTest_zero {p : Option ByteArray} {x : Sb} : fTest p x = 0 ↔ ∀ q, p = some q → bl q (eClk x.k) = true := by
  unfold fTest
  cases p with
  | none =>
    rw [falls_none, if_neg (by decide)]
    exact ⟨(fun _ q e => by cases e), fun _ => rfl⟩
  | some q =>
    rw [falls_some]
    cases hb : bl q (eClk x.k) with
    | true => exact ⟨fun _ q' e => by cases e; exact hb, fun _ => rfl⟩
    | false => exact ⟨fun e => absurd e (by decide), fun e => by rw [e q rfl] at hb; cases hb⟩
def GoodS (l : List Sb) : Prop := (∀ x ∈ l, sCheck x = 0) ∧ l.Pairwise (fun x y => bl (eClk x.k) (eClk y.k) = true)
theorem oGo_zero : ∀ (l : List Sb) (p : Option ByteArray), oGo p l = 0 ↔ GoodS l ∧ ∀ q, p = some q → ∀ x ∈ l, bl q (eClk x.k) = true
  | [], p => ⟨fun _ => ⟨⟨(fun _ h => by cases h), List.Pairwise.nil⟩, (fun _ _ _ h => by cases h)⟩, fun _ => rfl⟩
  | x :: l, p => by
    rw [oGo]
    constructor
    · intro h
      by_cases h0 : oOne p x = 0
      · rw [if_pos h0] at h
        obtain ⟨⟨g1, g2⟩, g3⟩ := (oGo_zero l (some (eClk x.k))).1 h
        obtain ⟨o1, o2⟩ := oOne_zero.1 h0
        refine ⟨⟨?_, List.pairwise_cons.2 ⟨fun y hy => g3 _ rfl y hy, g2⟩⟩, fun q e y hy => ?_⟩
        · intro y hy
          rcases List.mem_cons.1 hy with rfl | hy
          · exact o1
          · exact g1 y hy
        · rcases List.mem_cons.1 hy with rfl | hy
          · exact fTest_zero.1 o2 q e
          · exact bl_trans (fTest_zero.1 o2 q e) (g3 _ rfl y hy)
      · rw [if_neg h0] at h
        exact absurd h h0
    · rintro ⟨⟨g1, g2⟩, g3⟩
      obtain ⟨p1, p2⟩ := List.pairwise_cons.1 g2
      have h0 : oOne p x = 0 := oOne_zero.2 ⟨g1 x List.mem_cons_self, fTest_zero.2 (fun q e => g3 q e x List.mem_cons_self)⟩
      rw [if_pos h0]
      exact (oGo_zero l (some (eClk x.k))).2 ⟨⟨fun y hy => g1 y (List.mem_cons_of_mem _ hy), p2⟩, fun q e y hy => by cases e; exact p1 y hy⟩
theorem oCheck_zero {o : Ob} : oCheck o = 0 ↔ outS o.key o.l.length = 0 ∧ GoodS o.l := by
  unfold oCheck
  by_cases h : outS o.key o.l.length = 0
  · rw [if_pos h, oGo_zero]
    exact ⟨fun e => ⟨h, e.1⟩, fun e => ⟨e.2, fun q hq => by cases hq⟩⟩
  · rw [if_neg h]
    exact ⟨fun e => absurd e h, fun e => absurd e.1 h⟩
def okOb (o : Ob) : Prop := oCheck o = 0 ∧ ∀ x ∈ o.l, sbU x
def rSibT (p : Option ByteArray) : Rdr Sb := rTest zSb (fTest p) rSib
def rSibs : Nat → Option ByteArray → Rdr (List Sb)
  | 0, _ => rNil []
  | n + 1, p => rMap (fun q : Sb × List Sb => q.1 :: q.2) (rSeq (zSb, []) (rSibT p) (fun x => rSibs n (some (eClk x.k))))
def eSibs : List Sb → ByteArray
  | [] => ⟨#[]⟩
  | x :: l => eSib x ++ eSibs l
def okSibs (n : Nat) (p : Option ByteArray) (l : List Sb) : Prop := l.length = n ∧ oGo p l = 0 ∧ ∀ x ∈ l, sbU x
def badSb : Sb := ⟨⟨[], false, ⟨⟨#[]⟩, 1⟩⟩, [], false, ⟨#[]⟩⟩
theorem badSb_no : ¬ okSib badSb := fun h => absurd h.1.1 (by decide)
def unconsS (l : List Sb) : Sb × List Sb := match l with
  | [] => (badSb, [])
  | x :: r => (x, r)
theorem sibT_codec (p : Option ByteArray) : Codec (rSibT p) (fun x => okSib x ∧ fTest p x = 0) eSib := sib_codec.test zSb (fTest p)
theorem okSib_U {x : Sb} : okSib x ↔ sCheck x = 0 ∧ sbU x := by
  constructor
  · intro h
    exact ⟨h.zero, h.1.2⟩
  · rintro ⟨h1, h2⟩
    exact (okSib_iff h2.1 h2.2).2 h1
theorem sibs_codec : ∀ (n : Nat) (p : Option ByteArray), Codec (rSibs n p) (okSibs n p) eSibs
  | 0, p => by
    refine (Codec.nil ([] : List Sb)).weak (fun v => ?_) (fun v hv => ?_)
    · exact ⟨fun h => List.eq_nil_of_length_eq_zero h.1, fun h => by subst h; exact ⟨rfl, rfl, fun x hx => by cases hx⟩⟩
    · rw [hv]; rfl
  | n + 1, p => by
    have c := ((sibT_codec p).seq (zSb, []) (B := fun x => rSibs n (some (eClk x.k))) (okB := fun x => okSibs n (some (eClk x.k))) (encB := fun _ => eSibs) (fun x _ => sibs_codec n (some (eClk x.k))))
    have c2 := c.map (fun q : Sb × List Sb => q.1 :: q.2) unconsS (fun _ _ => rfl) (fun u hu => by
      cases u with
      | nil => exact absurd hu.1.1 badSb_no
      | cons x r => rfl)
    refine c2.weak (fun v => ?_) (fun v hv => ?_)
    · cases v with
      | nil => exact ⟨fun h => absurd h.1 (by simp), fun h => absurd h.1.1 badSb_no⟩
      | cons x r =>
        show okSibs (n + 1) p (x :: r) ↔ (okSib x ∧ fTest p x = 0) ∧ okSibs n (some (eClk x.k)) r
        unfold okSibs
        rw [oGo, List.length_cons, okSib_U]
        constructor
        · rintro ⟨h1, h2, h3⟩
          by_cases h0 : oOne p x = 0
          · rw [if_pos h0] at h2
            obtain ⟨o1, o2⟩ := oOne_zero.1 h0
            exact ⟨⟨⟨o1, h3 x List.mem_cons_self⟩, o2⟩, by omega, h2, fun y hy => h3 y (List.mem_cons_of_mem _ hy)⟩
          · rw [if_neg h0] at h2; exact absurd h2 h0
        · rintro ⟨⟨⟨h0, hx⟩, ht⟩, h1, h2, h3⟩
          rw [if_pos (oOne_zero.2 ⟨h0, ht⟩)]
          refine ⟨by omega, h2, fun y hy => ?_⟩
          rcases List.mem_cons.1 hy with rfl | hy
          · exact hx
          · exact h3 y hy
    · cases v with
      | nil => exact absurd hv.1.1 badSb_no
      | cons x r => rfl
def rObT : Rdr (Nat × List Sb) := rSeq (0, []) rNs (fun n => rSibs n none)
def rOb : Rdr Ob := rMap (fun q : ByteArray × (Nat × List Sb) => (⟨q.1, q.2.2⟩ : Ob)) (rSeq (⟨#[]⟩, (0, [])) rKey (fun _ => rObT))
def eOb (o : Ob) : ByteArray := bEncT o.key ++ (vText o.l.length ++ eSibs o.l)
theorem ob_codec : Codec rOb okOb eOb := by
  have cT : Codec rObT (fun q : Nat × List Sb => ((q.1 < 18446744073709551616 ∧ (q.1 : Int) ≤ pMax 16) ∧ nTest q.1 = 0) ∧ okSibs q.1 none q.2) (fun q => vText q.1 ++ eSibs q.2) :=
    ((count_codec 16).test 0 nTest).seq (B := fun n => rSibs n none) (okB := fun n => okSibs n none) (encB := fun _ => eSibs) (0, []) (fun n _ => sibs_codec n none)
  have c := (((blob_codec 128).test ⟨#[]⟩ kyTest).seq (B := fun _ => rObT) (okB := fun _ (q : Nat × List Sb) => ((q.1 < 18446744073709551616 ∧ (q.1 : Int) ≤ pMax 16) ∧ nTest q.1 = 0) ∧ okSibs q.1 none q.2) (encB := fun _ (q : Nat × List Sb) => vText q.1 ++ eSibs q.2) (⟨#[]⟩, (0, [])) (fun _ _ => cT)).map (fun q : ByteArray × (Nat × List Sb) => (⟨q.1, q.2.2⟩ : Ob)) (fun o => (o.key, (o.l.length, o.l))) (fun v hv => by
    obtain ⟨k, n, l⟩ := v
    have h : l.length = n := hv.2.2.1
    rw [h]) (fun _ _ => rfl)
  refine c.weak (fun o => ?_) (fun _ _ => rfl)
  show okOb o ↔ ((o.key.size < 18446744073709551616 ∧ (o.key.size : Int) ≤ pMax 128) ∧ kyTest o.key = 0) ∧ (((o.l.length < 18446744073709551616 ∧ (o.l.length : Int) ≤ pMax 16) ∧ nTest o.l.length = 0) ∧ okSibs o.l.length none o.l)
  unfold okOb okSibs
  rw [pMax128, pMax16, oCheck_zero, outS_zero, oGo_zero]
  unfold kyTest nTest
  constructor
  · rintro ⟨⟨⟨h1, h2, h3, h4⟩, hg⟩, hn⟩
    rw [if_neg (by omega), if_neg (by omega)]
    exact ⟨⟨⟨by omega, by omega⟩, rfl⟩, ⟨⟨by omega, by omega⟩, rfl⟩, rfl, ⟨hg, fun q e => by cases e⟩, hn⟩
  · rintro ⟨⟨⟨_, h1⟩, h2⟩, ⟨⟨_, h3⟩, h4⟩, _, ⟨hg, _⟩, hn⟩
    have h2' : o.key.size ≠ 0 := fun e => by rw [if_pos e] at h2; exact absurd h2 (by decide)
    have h4' : o.l.length ≠ 0 := fun e => by rw [if_pos e] at h4; exact absurd h4 (by decide)
    exact ⟨⟨⟨by omega, by omega, by omega, by omega⟩, hg⟩, hn⟩
def liftS (O : List Sb) (r : List Sb × Int × Int) : List Sb × Int × Int := if r.2.2 = 0 then (O ++ r.1, r.2) else ([], r.2)
theorem sibs_zero (p : Option ByteArray) (s : ByteArray) (a : Int) (O : List Sb) : liftS O (rSibs 0 p s a) = (O, a, 0) := by
  show liftS O ([], a, 0) = _
  unfold liftS
  rw [if_pos rfl, List.append_nil]
theorem sibs_bad {n : Nat} {p : Option ByteArray} {s : ByteArray} {a : Int} (O : List Sb) (h : (rSibT p s a).2.2 ≠ 0) : liftS O (rSibs (n + 1) p s a) = ([], (rSibT p s a).2) := by
  have e : (rSibs (n + 1) p s a).2 = (rSibT p s a).2 := by
    show (rSeq (zSb, []) (rSibT p) (fun x => rSibs n (some (eClk x.k))) s a).2 = _
    rw [rSeq_no h]
  unfold liftS
  rw [if_neg (by rw [e]; exact h), e]
theorem sibs_more {n : Nat} {p : Option ByteArray} {s : ByteArray} {a : Int} (O : List Sb) (h : (rSibT p s a).2.2 = 0) : liftS O (rSibs (n + 1) p s a) = liftS (O ++ [(rSibT p s a).1]) (rSibs n (some (eClk (rSibT p s a).1.k)) s (rSibT p s a).2.1) := by
  by_cases h1 : (rSibs n (some (eClk (rSibT p s a).1.k)) s (rSibT p s a).2.1).2.2 = 0
  · have e : rSibs (n + 1) p s a = ((rSibT p s a).1 :: (rSibs n (some (eClk (rSibT p s a).1.k)) s (rSibT p s a).2.1).1, (rSibs n (some (eClk (rSibT p s a).1.k)) s (rSibT p s a).2.1).2) := by
      show rMap (fun q : Sb × List Sb => q.1 :: q.2) (rSeq (zSb, []) (rSibT p) (fun x => rSibs n (some (eClk x.k)))) s a = _
      unfold rMap
      rw [rSeq_yes h h1]
    unfold liftS
    rw [e, if_pos h1, if_pos h1, List.append_assoc]
    rfl
  · have e : (rSibs (n + 1) p s a).2 = (rSibs n (some (eClk (rSibT p s a).1.k)) s (rSibT p s a).2.1).2 := by
      show (rSeq (zSb, []) (rSibT p) (fun x => rSibs n (some (eClk x.k))) s a).2 = _
      rw [rSeq_mid h h1]
    unfold liftS
    rw [e, if_neg h1, if_neg h1]
section
variable {s : ByteArray} {a : Int}
theorem sibT_a {p : Option ByteArray} (h : (rSib s a).2.2 ≠ 0) : (rSibT p s a).2 = (rSib s a).2 := by unfold rSibT; rw [rTest_no h]
theorem sibT_b {p : Option ByteArray} (h : (rSib s a).2.2 = 0) (h1 : fTest p (rSib s a).1 ≠ 0) : (rSibT p s a).2 = ((rSib s a).2.1, fTest p (rSib s a).1) := by unfold rSibT; rw [rTest_bad h h1]
theorem sibT_c {p : Option ByteArray} (h : (rSib s a).2.2 = 0) (h1 : fTest p (rSib s a).1 = 0) : rSibT p s a = rSib s a := by unfold rSibT; rw [rTest_yes h h1]
theorem ob_1 (h : bErr s a 0 128 ≠ 0) : rOb s a = (zOb, bAt s a 0 128, bErr s a 0 128) := by
  have e : rKey s a = (⟨#[]⟩, bAt s a 0 128, bErr s a 0 128) := by unfold rKey; rw [rTest_no (show (rBlob 128 s a).2.2 ≠ 0 from h)]; rfl
  show rMap _ (rSeq (⟨#[]⟩, (0, [])) rKey (fun _ => rObT)) s a = _
  unfold rMap
  rw [rSeq_no (by rw [e]; exact h), e]
  rfl
theorem ob_2 (h : bErr s a 0 128 = 0) (h1 : (bTxt s a 0 128).size = 0) : rOb s a = (zOb, bAt s a 0 128, 14) := by
  have ht : kyTest (rBlob 128 s a).1 = 14 := if_pos h1
  have e : rKey s a = (⟨#[]⟩, bAt s a 0 128, 14) := by unfold rKey; rw [rTest_bad (show (rBlob 128 s a).2.2 = 0 from h) (by rw [ht]; decide), ht]; rfl
  show rMap _ (rSeq (⟨#[]⟩, (0, [])) rKey (fun _ => rObT)) s a = _
  unfold rMap
  rw [rSeq_no (by rw [e]; show (14 : Int) ≠ 0; decide), e]
  rfl
theorem ob_rest {K : ByteArray} {b : Int} (h : rKey s a = (K, b, 0)) : rOb s a = if (rObT s b).2.2 = 0 then ((⟨K, (rObT s b).1.2⟩ : Ob), (rObT s b).2) else (zOb, (rObT s b).2) := by
  show rMap _ (rSeq (⟨#[]⟩, (0, [])) rKey (fun _ => rObT)) s a = _
  unfold rMap
  by_cases h1 : (rObT s b).2.2 = 0
  · rw [rSeq_yes (by rw [h]) (by rw [h]; exact h1), if_pos h1, h]
  · rw [rSeq_mid (by rw [h]) (by rw [h]; exact h1), if_neg h1, h]
    rfl
variable {b : Int}
theorem obT_1 (h : kErr s b 0 16 ≠ 0) : (rObT s b).2 = (tAt s b 0, kErr s b 0 16) := by
  have e : (rNs s b).2 = (tAt s b 0, kErr s b 0 16) := by unfold rNs; rw [rTest_no (show (rCount 16 s b).2.2 ≠ 0 from h)]; rfl
  unfold rObT
  rw [rSeq_no (by rw [e]; exact h), e]
theorem obT_2 (h : kErr s b 0 16 = 0) (h1 : kNum s b 0 16 = 0) : (rObT s b).2 = (tAt s b 0, 7) := by
  have ht : nTest (rCount 16 s b).1 = 7 := by show nTest (kNum s b 0 16).toNat = 7; rw [h1]; rfl
  have e : (rNs s b).2 = (tAt s b 0, 7) := by unfold rNs; rw [rTest_bad (show (rCount 16 s b).2.2 = 0 from h) (by rw [ht]; decide), ht]; rfl
  unfold rObT
  rw [rSeq_no (by rw [e]; show (7 : Int) ≠ 0; decide), e]
theorem obT_3 (h : kErr s b 0 16 = 0) (h1 : kNum s b 0 16 ≠ 0) : (rObT s b).1.2 = (liftS [] (rSibs (kNum s b 0 16).toNat none s (tAt s b 0))).1 ∧ (rObT s b).2 = (liftS [] (rSibs (kNum s b 0 16).toNat none s (tAt s b 0))).2 := by
  have hb := kNum_bd s b 0 16
  have ht : nTest (rCount 16 s b).1 = 0 := by show nTest (kNum s b 0 16).toNat = 0; unfold nTest; rw [if_neg (by omega)]
  have e : rNs s b = ((kNum s b 0 16).toNat, tAt s b 0, 0) := by
    unfold rNs
    rw [rTest_yes (show (rCount 16 s b).2.2 = 0 from h) ht]
    show (_, _, kErr s b 0 16) = _
    rw [h]
  unfold rObT liftS
  by_cases h2 : (rSibs (kNum s b 0 16).toNat none s (tAt s b 0)).2.2 = 0
  · rw [rSeq_yes (by rw [e]) (by rw [e]; exact h2), if_pos h2, e]
    exact ⟨rfl, rfl⟩
  · rw [rSeq_mid (by rw [e]) (by rw [e]; exact h2), if_neg h2, e]
    exact ⟨rfl, rfl⟩
end
def pOb (M : Int) (p : ByteArray × Int) (o : Ob) : ByteArray × Int := if oCheck o = 0 then pSibs M (pOne M (wPut M 128 p o.key) (vText o.l.length)) o.l else (p.1, pFail p.2 (oCheck o))
theorem pOb_yes {M : Int} {p : ByteArray × Int} {o : Ob} (h : oCheck o = 0) : pOb M p o = pSibs M (pOne M (wPut M 128 p o.key) (vText o.l.length)) o.l := if_pos h
theorem pOb_no {M : Int} {p : ByteArray × Int} {o : Ob} (h : oCheck o ≠ 0) : pOb M p o = (p.1, pFail p.2 (oCheck o)) := if_neg h
theorem pSibs_sizeU (M : Int) : ∀ (l : List Sb) (p : ByteArray × Int), (∀ x ∈ l, sbU x) → (pSibs M p l).1.size ≤ p.1.size + 300000 * l.length
  | [], _, _ => by show _ ≤ _ + 300000 * 0; exact Nat.le_refl _
  | v :: l, p, h => by
    have hv := h v List.mem_cons_self
    have h1 := pSib_size M p (x := v) hv.1 hv.2
    have h2 := pSibs_sizeU M l (pSib M p v) (fun k hk => h k (List.mem_cons_of_mem _ hk))
    show (pSibs M (pSib M p v) l).1.size ≤ _
    rw [List.length_cons]
    omega
theorem Wr.sibs : ∀ {l : List Sb}, (∀ x ∈ l, okSib x) → Wr (fun M p => pSibs M p l) (eSibs l)
  | [], _ => Wr.nil
  | x :: _, h => (Wr.sib (h x List.mem_cons_self)).seq (Wr.sibs (fun y hy => h y (List.mem_cons_of_mem _ hy)))
theorem Wr.ob {o : Ob} (h : okOb o) : Wr (fun M p => pOb M p o) (eOb o) := by
  obtain ⟨h1, h2⟩ := oCheck_zero.1 h.1
  have h1 := outS_zero.1 h1
  have e : (fun (M : Int) (p : ByteArray × Int) => pOb M p o) = (fun M p => pSibs M (pOne M (wPut M 128 p o.key) (vText o.l.length)) o.l) := by
    funext M p
    exact pOb_yes h.1
  rw [e]
  have c := ((Wr.blob (m := 128) (s := o.key) (by rw [pMax128]; omega)).seq (Wr.one (vText o.l.length))).seq (Wr.sibs (fun x hx => okSib_U.2 ⟨h2.1 x hx, h.2 x hx⟩))
  refine c.eq ?_
  unfold eOb
  rw [ByteArray.append_assoc]
def encO (o : Ob) : ByteArray × Int := if oCheck o = 0 then (if ((eOb o).size : Int) ≤ 65536 then (eOb o, 0) else (⟨#[]⟩, 3)) else (⟨#[]⟩, oCheck o)
def decO (s : ByteArray) : Ob × Int := dec zOb rOb s
theorem encO_pen {o : Ob} (h : ∀ x ∈ o.l, sbU x) : (pEnd (pOb 65536 (⟨#[]⟩, 0) o).1 (pOb 65536 (⟨#[]⟩, 0) o).2, (pOb 65536 (⟨#[]⟩, 0) o).2) = encO o := by
  unfold encO
  by_cases h0 : oCheck o = 0
  · rw [if_pos h0]
    exact (Wr.ob ⟨h0, h⟩).ends (by decide)
  · rw [if_neg h0, pOb_no h0]
    show (pEnd ⟨#[]⟩ (pFail 0 (oCheck o)), pFail 0 (oCheck o)) = _
    have e : pFail 0 (oCheck o) = oCheck o := if_pos rfl
    rw [e]
    unfold pEnd
    rw [if_neg h0]
theorem encO_zero {o : Ob} (h : (encO o).2 = 0) : oCheck o = 0 ∧ ((eOb o).size : Int) ≤ 65536 ∧ (encO o).1 = eOb o := by
  unfold encO at h ⊢
  by_cases h0 : oCheck o = 0
  · rw [if_pos h0] at h ⊢
    by_cases h1 : ((eOb o).size : Int) ≤ 65536
    · rw [if_pos h1]; exact ⟨h0, h1, rfl⟩
    · rw [if_neg h1] at h; exact absurd h (by decide)
  · rw [if_neg h0] at h; exact absurd h h0
theorem encO_size (o : Ob) : (encO o).1.size ≤ 65536 := by
  unfold encO
  split
  · split
    · rename_i h; show (eOb o).size ≤ _; omega
    · exact Nat.zero_le _
  · exact Nat.zero_le _
end Go.Proofs.YteonkfedgopdiaaGreat
