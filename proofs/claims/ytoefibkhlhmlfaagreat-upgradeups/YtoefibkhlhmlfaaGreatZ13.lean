/-
  What this seat's claims lean on of the texts Sib, RefVec4, RefPairs3, Open14, RefPairs4.
  Conditions: as each theorem states.
-/
import Derived.WalkKit
import Derived.ProofKit
import Derived.Below
import Derived.Deep.Draws
import Derived.Deep.RegionHeld
import Derived.Test.YtoefibkhlhmlfaaGreatChecked
import Derived.OpenShut
import Derived.ShutString
import Derived.WalkSpells
import Derived.WalkLawsBesides
import Derived.Deep.QuietTactic
import Derived.BigQuiet
import Derived.Laws.Bits64b
import Derived.PlainAid
import Derived.Lib.AppendStr
import Derived.Deep.AppendLies
import Derived.Laws.IdiomStrings
import Derived.Laws.BytesArg
import Derived.Deep.RegionWith
import Derived.Test.YtoefibkhlhmlfaaGreatZ9
import Derived.Test.YtoefibkhlhmlfaaGreatZ11
import Derived.Test.YtoefibkhlhmlfaaGreatZ7
import Derived.Laws.AppendOwn
import Derived.Deep.DeepAppendWide
import Derived.Deep.Upon
import Derived.Test.YtoefibkhlhmlfaaGreatZ5
import Derived.Deep.Slices
import Derived.Test.YtoefibkhlhmlfaaGreatZ3
import Derived.Test.YtoefibkhlhmlfaaGreatZ8
namespace Go.Proofs.YtoefibkhlhmlfaaGreat
open Go.RowKit
structure Sb where
  k : Ck
  m : List Pr
  d : Bool
  v : ByteArray
def zSb : Sb := ⟨zCk, [], false, ⟨#[]⟩⟩
def sCheck (x : Sb) : Int := if kCheck x.k = 0 then (if qCheck x.m = 0 then (if 32768 < x.v.size then 3 else 0) else qCheck x.m) else kCheck x.k
theorem sCheck_zero {x : Sb} : sCheck x = 0 ↔ kCheck x.k = 0 ∧ qCheck x.m = 0 ∧ x.v.size ≤ 32768 := by
  unfold sCheck
  by_cases h1 : kCheck x.k = 0
  · rw [if_pos h1]
    by_cases h2 : qCheck x.m = 0
    · rw [if_pos h2]
      by_cases h3 : 32768 < x.v.size
      · rw [if_pos h3]; exact ⟨fun e => absurd e (by decide), fun e => by omega⟩
      · rw [if_neg h3]; exact ⟨fun _ => ⟨h1, h2, by omega⟩, fun _ => rfl⟩
    · rw [if_neg h2]; exact ⟨fun e => absurd e h2, fun e => absurd e.2.1 h2⟩
  · rw [if_neg h1]; exact ⟨fun e => absurd e h1, fun e => absurd e.1 h1⟩
theorem sCheck_a {x : Sb} (h : kCheck x.k ≠ 0) : sCheck x = kCheck x.k := if_neg h
theorem sCheck_b {x : Sb} (h : kCheck x.k = 0) (h1 : qCheck x.m ≠ 0) : sCheck x = qCheck x.m := by unfold sCheck; rw [if_pos h, if_neg h1]
theorem sCheck_c {x : Sb} (h : kCheck x.k = 0) (h1 : qCheck x.m = 0) (h2 : 32768 < x.v.size) : sCheck x = 3 := by unfold sCheck; rw [if_pos h, if_pos h1, if_pos h2]
def okSib (x : Sb) : Prop := okClk x.k ∧ qCheck x.m = 0 ∧ x.v.size ≤ 32768
theorem okSib_iff {x : Sb} (h1 : ∀ y ∈ x.k.c, U64 y.n) (h2 : U64 x.k.x.n) : okSib x ↔ sCheck x = 0 := by
  rw [sCheck_zero]
  unfold okSib okClk
  exact ⟨fun h => ⟨h.1.1, h.2⟩, fun h => ⟨⟨h.1, h1, h2⟩, h.2⟩⟩
theorem okSib.zero {x : Sb} (h : okSib x) : sCheck x = 0 := sCheck_zero.2 ⟨h.1.1, h.2.1, h.2.2⟩
def rEnd : Rdr (Bool × ByteArray) := rSeq (false, ⟨#[]⟩) rFlag (fun _ => rBlob 32768)
def rMid : Rdr (List Pr × (Bool × ByteArray)) := rSeq ([], (false, ⟨#[]⟩)) rPrs (fun _ => rEnd)
def rSib : Rdr Sb := rMap (fun q : Ck × (List Pr × (Bool × ByteArray)) => (⟨q.1, q.2.1, q.2.2.1, q.2.2.2⟩ : Sb)) (rSeq (zCk, ([], (false, ⟨#[]⟩))) rClk (fun _ => rMid))
def eSib (x : Sb) : ByteArray := eClk x.k ++ (ePrs x.m ++ (eFlag x.d ++ bEncT x.v))
theorem sib_codec : Codec rSib okSib eSib := by
  have cE : Codec rEnd (fun q : Bool × ByteArray => True ∧ (q.2.size < 18446744073709551616 ∧ (q.2.size : Int) ≤ pMax 32768)) (fun q => eFlag q.1 ++ bEncT q.2) :=
    flag_codec.seq (B := fun _ => rBlob 32768) (okB := fun _ (s : ByteArray) => s.size < 18446744073709551616 ∧ (s.size : Int) ≤ pMax 32768) (encB := fun _ => bEncT) (false, ⟨#[]⟩) (fun _ _ => blob_codec 32768)
  have cM : Codec rMid (fun q : List Pr × (Bool × ByteArray) => qCheck q.1 = 0 ∧ (True ∧ (q.2.2.size < 18446744073709551616 ∧ (q.2.2.size : Int) ≤ pMax 32768))) (fun q => ePrs q.1 ++ (eFlag q.2.1 ++ bEncT q.2.2)) :=
    prs_codec.seq (B := fun _ => rEnd) (okB := fun _ (q : Bool × ByteArray) => True ∧ (q.2.size < 18446744073709551616 ∧ (q.2.size : Int) ≤ pMax 32768)) (encB := fun _ (q : Bool × ByteArray) => eFlag q.1 ++ bEncT q.2) ([], (false, ⟨#[]⟩)) (fun _ _ => cE)
  have c := (clk_codec.seq (B := fun _ => rMid) (okB := fun _ (q : List Pr × (Bool × ByteArray)) => qCheck q.1 = 0 ∧ (True ∧ (q.2.2.size < 18446744073709551616 ∧ (q.2.2.size : Int) ≤ pMax 32768))) (encB := fun _ (q : List Pr × (Bool × ByteArray)) => ePrs q.1 ++ (eFlag q.2.1 ++ bEncT q.2.2)) (zCk, ([], (false, ⟨#[]⟩))) (fun _ _ => cM)).map (fun q : Ck × (List Pr × (Bool × ByteArray)) => (⟨q.1, q.2.1, q.2.2.1, q.2.2.2⟩ : Sb)) (fun x => (x.k, (x.m, (x.d, x.v)))) (fun _ _ => rfl) (fun _ _ => rfl)
  refine c.weak (fun x => ?_) (fun _ _ => rfl)
  show okSib x ↔ okClk x.k ∧ (qCheck x.m = 0 ∧ (True ∧ (x.v.size < 18446744073709551616 ∧ (x.v.size : Int) ≤ pMax 32768)))
  unfold okSib
  rw [pMax15]
  exact ⟨fun h => ⟨h.1, h.2.1, trivial, by omega, by omega⟩, fun h => ⟨h.1, h.2.1, by omega⟩⟩
section
variable {s : ByteArray} {a b c : Int}
theorem sib_1 (h : (rClk s a).2.2 ≠ 0) : rSib s a = (zSb, (rClk s a).2) := by
  show rMap _ (rSeq (zCk, ([], (false, ⟨#[]⟩))) rClk (fun _ => rMid)) s a = _
  unfold rMap
  rw [rSeq_no h]
  rfl
theorem sib_rest {K : Ck} (h : rClk s a = (K, b, 0)) : rSib s a = if (rMid s b).2.2 = 0 then ((⟨K, (rMid s b).1.1, (rMid s b).1.2.1, (rMid s b).1.2.2⟩ : Sb), (rMid s b).2) else (zSb, (rMid s b).2) := by
  show rMap _ (rSeq (zCk, ([], (false, ⟨#[]⟩))) rClk (fun _ => rMid)) s a = _
  unfold rMap
  by_cases h1 : (rMid s b).2.2 = 0
  · rw [rSeq_yes (by rw [h]) (by rw [h]; exact h1), if_pos h1, h]
  · rw [rSeq_mid (by rw [h]) (by rw [h]; exact h1), if_neg h1, h]
    rfl
theorem sib_2 {K : Ck} (h : rClk s a = (K, b, 0)) (h1 : (rPrs s b).2.2 ≠ 0) : rSib s a = (zSb, (rPrs s b).2) := by
  have e : rMid s b = (([], (false, ⟨#[]⟩)), (rPrs s b).2) := rSeq_no h1
  rw [sib_rest h, e, if_neg h1]
theorem mid_rest {P : List Pr} (h : rPrs s b = (P, c, 0)) : rMid s b = if (rEnd s c).2.2 = 0 then ((P, (rEnd s c).1), (rEnd s c).2) else (([], (false, ⟨#[]⟩)), (rEnd s c).2) := by
  by_cases h1 : (rEnd s c).2.2 = 0
  · show rSeq ([], (false, ⟨#[]⟩)) rPrs (fun _ => rEnd) s b = _
    rw [rSeq_yes (by rw [h]) (by rw [h]; exact h1), if_pos h1, h]
  · show rSeq ([], (false, ⟨#[]⟩)) rPrs (fun _ => rEnd) s b = _
    rw [rSeq_mid (by rw [h]) (by rw [h]; exact h1), if_neg h1, h]
theorem sib_3 {K : Ck} {P : List Pr} (h : rClk s a = (K, b, 0)) (h1 : rPrs s b = (P, c, 0)) (h2 : gErr s c 0 ≠ 0) : rSib s a = (zSb, cAt s c 0 1, gErr s c 0) := by
  have e : rEnd s c = ((false, ⟨#[]⟩), cAt s c 0 1, gErr s c 0) := rSeq_no (A := rFlag) h2
  have e2 : rMid s b = (([], (false, ⟨#[]⟩)), cAt s c 0 1, gErr s c 0) := by rw [mid_rest h1, e, if_neg h2]
  rw [sib_rest h, e2, if_neg h2]
theorem sib_4 {K : Ck} {P : List Pr} (h : rClk s a = (K, b, 0)) (h1 : rPrs s b = (P, c, 0)) (h2 : gErr s c 0 = 0) (h3 : bErr s (cAt s c 0 1) 0 32768 ≠ 0) : rSib s a = (zSb, bAt s (cAt s c 0 1) 0 32768, bErr s (cAt s c 0 1) 0 32768) := by
  have e : rEnd s c = ((false, ⟨#[]⟩), bAt s (cAt s c 0 1) 0 32768, bErr s (cAt s c 0 1) 0 32768) := rSeq_mid (A := rFlag) (B := fun _ => rBlob 32768) h2 h3
  have e2 : rMid s b = (([], (false, ⟨#[]⟩)), bAt s (cAt s c 0 1) 0 32768, bErr s (cAt s c 0 1) 0 32768) := by rw [mid_rest h1, e, if_neg h3]
  rw [sib_rest h, e2, if_neg h3]
theorem sib_5 {K : Ck} {P : List Pr} (h : rClk s a = (K, b, 0)) (h1 : rPrs s b = (P, c, 0)) (h2 : gErr s c 0 = 0) (h3 : bErr s (cAt s c 0 1) 0 32768 = 0) : rSib s a = (⟨K, P, gSet s c 0, bTxt s (cAt s c 0 1) 0 32768⟩, bAt s (cAt s c 0 1) 0 32768, 0) := by
  have e : rEnd s c = ((gSet s c 0, bTxt s (cAt s c 0 1) 0 32768), bAt s (cAt s c 0 1) 0 32768, bErr s (cAt s c 0 1) 0 32768) := rSeq_yes (A := rFlag) (B := fun _ => rBlob 32768) h2 h3
  rw [h3] at e
  have e2 : rMid s b = ((P, (gSet s c 0, bTxt s (cAt s c 0 1) 0 32768)), bAt s (cAt s c 0 1) 0 32768, 0) := by rw [mid_rest h1, e, if_pos rfl]
  rw [sib_rest h, e2, if_pos rfl]
end
def pSib (M : Int) (p : ByteArray × Int) (x : Sb) : ByteArray × Int := if sCheck x = 0 then wPut M 32768 (wFlag M (pPrs M (pClk M p x.k) x.m) x.d) x.v else (p.1, pFail p.2 (sCheck x))
def pSibs (M : Int) (p : ByteArray × Int) (l : List Sb) : ByteArray × Int := l.foldl (pSib M) p
theorem pSib_yes {M : Int} {p : ByteArray × Int} {x : Sb} (h : sCheck x = 0) : pSib M p x = wPut M 32768 (wFlag M (pPrs M (pClk M p x.k) x.m) x.d) x.v := if_pos h
theorem pSib_no {M : Int} {p : ByteArray × Int} {x : Sb} (h : sCheck x ≠ 0) : pSib M p x = (p.1, pFail p.2 (sCheck x)) := if_neg h
theorem pSibs_take {M : Int} {p : ByteArray × Int} {l : List Sb} {i : Nat} (h : i < l.length) : pSibs M p (l.take (i + 1)) = pSib M (pSibs M p (l.take i)) l[i] := by
  rw [List.take_succ_eq_append_getElem h]
  unfold pSibs
  rw [List.foldl_append]
  rfl
theorem pSib_err {M : Int} {t : ByteArray} {x : Int} (h : x ≠ 0) (y : Sb) : pSib M (t, x) y = (t, x) := by
  by_cases h0 : sCheck y = 0
  · rw [pSib_yes h0, pClk_err h, pPrs_err h, wFlag_err h, wPut_err h]
  · rw [pSib_no h0]
    show (t, pFail x (sCheck y)) = _
    unfold pFail
    rw [if_neg h]
theorem pSibs_err {M : Int} {t : ByteArray} {x : Int} (h : x ≠ 0) : ∀ l, pSibs M (t, x) l = (t, x)
  | [] => rfl
  | k :: l => by
    show pSibs M (pSib M (t, x) k) l = _
    rw [pSib_err h]
    exact pSibs_err h l
theorem pSibs_stop {M : Int} {p : ByteArray × Int} {l : List Sb} {i : Nat} {t : ByteArray} {x : Int} (h : pSibs M p (l.take i) = (t, x)) (hx : x ≠ 0) : pSibs M p l = (t, x) := by
  have e : l = l.take i ++ l.drop i := (List.take_append_drop i l).symm
  rw [e]
  unfold pSibs at h ⊢
  rw [List.foldl_append, h]
  exact pSibs_err hx _
theorem pPrs_sizeQ (M : Int) (q : ByteArray × Int) (l : List Pr) : (pPrs M q l).1.size ≤ q.1.size + 262600 := by
  by_cases h0 : qCheck l = 0
  · obtain ⟨h1, h2⟩ := (qCheck_zero l).1 h0
    have h3 := pPairs_size M l (pOne M q (vText l.length)) (fun x hx => (h2.1 x hx).2)
    have h4 := pOne_size M q (vText l.length)
    have h5 := (vText_le (n := l.length) (by omega)).2
    rw [pPrs_yes h0]
    omega
  · rw [pPrs_no h0]
    show q.1.size ≤ _
    omega
theorem pSib_size (M : Int) (q : ByteArray × Int) {x : Sb} (hn : ∀ y ∈ x.k.c, U64 y.n) (hx : U64 x.k.x.n) : (pSib M q x).1.size ≤ q.1.size + 300000 := by
  by_cases h0 : sCheck x = 0
  · obtain ⟨h1, h2, h3⟩ := sCheck_zero.1 h0
    rw [pSib_yes h0]
    have a1 := pClk_size M q hn hx
    have a2 := pPrs_sizeQ M (pClk M q x.k) x.m
    have a3 := wFlag_size M (pPrs M (pClk M q x.k) x.m) x.d
    have a4 := wPut_size M 32768 (wFlag M (pPrs M (pClk M q x.k) x.m) x.d) x.v (by omega)
    omega
  · rw [pSib_no h0]
    show q.1.size ≤ _
    omega
theorem Wr.ents : ∀ {l : List En}, (∀ x ∈ l, x.a.size ≤ 32) → Wr (fun M p => pEnts M p l) (eEnts l)
  | [], _ => Wr.nil
  | x :: l, h => by
    have hx := h x List.mem_cons_self
    have c1 : Wr (fun M p => pEnt M p x) (eEnt x) := (Wr.blob (m := 32) (s := x.a) (by rw [pMax32]; omega)).seq (Wr.one (vText x.n))
    exact c1.seq (Wr.ents (fun y hy => h y (List.mem_cons_of_mem _ hy)))
theorem Wr.vec {v : List En} (h : okVec v) : Wr (fun M p => pVec M p v) (eVec v) := by
  obtain ⟨_, h2⟩ := (check_zero v).1 h.1
  have c := (Wr.one (vText v.length)).seq (Wr.ents (fun x hx => (h2.1 x hx).2.1))
  have e : (fun (M : Int) (p : ByteArray × Int) => pVec M p v) = (fun M p => pEnts M (pOne M p (vText v.length)) v) := by
    funext M p
    exact pVec_yes h.1
  rw [e]
  exact c
theorem Wr.flag (b : Bool) : Wr (fun M p => wFlag M p b) (eFlag b) := Wr.one _
theorem Wr.clk {k : Ck} (h : okClk k) : Wr (fun M p => pClk M p k) (eClk k) := by
  obtain ⟨h1, _, h3⟩ := (okClk_iff k).1 h
  have e : (fun (M : Int) (p : ByteArray × Int) => pClk M p k) = (fun M p => pTail M (wFlag M (pVec M p k.c) k.d) k.d k.x) := by
    funext M p
    exact pClk_yes h.1
  rw [e]
  unfold okTail at h3
  cases hd : k.d with
  | true =>
    rw [hd, if_pos rfl] at h3
    have cT : Wr (fun M p => pTail M p true k.x) (eTail true k.x) := (Wr.blob (m := 32) (s := k.x.a) (by rw [pMax32]; have := (cOne_zero.1 h3.1.1).1.2.1; omega)).seq (Wr.one (vText k.x.n))
    have c := ((Wr.vec h1).seq (Wr.flag true)).seq cT
    refine c.eq ?_
    unfold eClk
    rw [hd, ByteArray.append_assoc]
  | false =>
    have cT : Wr (fun M p => pTail M p false k.x) (eTail false k.x) := Wr.nil
    have c := ((Wr.vec h1).seq (Wr.flag false)).seq cT
    refine c.eq ?_
    unfold eClk
    rw [hd, ByteArray.append_assoc]
theorem Wr.pairs : ∀ {l : List Pr}, (∀ x ∈ l, x.ok) → Wr (fun M p => pPairs M p l) (ePairs l)
  | [], _ => Wr.nil
  | x :: l, h => by
    have hx := h x List.mem_cons_self
    unfold Pr.ok at hx
    have c1 : Wr (fun M p => pPair M p x) (ePair x) := (Wr.blob (m := 32) (s := x.n) (by rw [pMax32]; omega)).seq (Wr.blob (m := 32768) (s := x.v) (by rw [pMax15]; omega))
    exact c1.seq (Wr.pairs (fun y hy => h y (List.mem_cons_of_mem _ hy)))
theorem Wr.prs {l : List Pr} (h : qCheck l = 0) : Wr (fun M p => pPrs M p l) (ePrs l) := by
  obtain ⟨_, h2⟩ := (qCheck_zero l).1 h
  have c := (Wr.one (vText l.length)).seq (Wr.pairs h2.1)
  have e : (fun (M : Int) (p : ByteArray × Int) => pPrs M p l) = (fun M p => pPairs M (pOne M p (vText l.length)) l) := by
    funext M p
    exact pPrs_yes h
  rw [e]
  exact c
theorem Wr.sib {x : Sb} (h : okSib x) : Wr (fun M p => pSib M p x) (eSib x) := by
  have e : (fun (M : Int) (p : ByteArray × Int) => pSib M p x) = (fun M p => wPut M 32768 (wFlag M (pPrs M (pClk M p x.k) x.m) x.d) x.v) := by
    funext M p
    exact pSib_yes h.zero
  rw [e]
  have c := (((Wr.clk h.1).seq (Wr.prs h.2.1)).seq (Wr.flag x.d)).seq (Wr.blob (m := 32768) (s := x.v) (by rw [pMax15]; have := h.2.2; omega))
  refine c.eq ?_
  unfold eSib
  simp only [ByteArray.append_assoc]
end Go.Proofs.YtoefibkhlhmlfaaGreat
namespace Go.Proofs.YtoefibkhlhmlfaaGreat
open Go.RowKit
def REnsE (p : List En × Int) (w : World) (e : Ending) (w' : World) : Prop := ∃ ao cap, e = .returned (.tuple #[.slice ao p.1.length cap, .int .i64 p.2]) ∧ EnsAt w' ao p.1 ∧ (∀ g off m, ao = some ⟨g, off, m⟩ → w.heap.size ≤ g) ∧ Keep0 w w'
theorem REnsE.mk {p : List En × Int} {w w' : World} {e : Ending} {ao : Option Addr} {cap : Nat} (h : e = .returned (.tuple #[.slice ao p.1.length cap, .int .i64 p.2])) (h1 : EnsAt w' ao p.1) (h2 : ∀ g off m, ao = some ⟨g, off, m⟩ → w.heap.size ≤ g) (h3 : Keep0 w w') : REnsE p w e w' := ⟨ao, cap, h, h1, h2, h3⟩
theorem REnsE.bare {p : List En × Int} {w w' : World} {e : Ending} {E : Int} (hp : p = ([], E)) (h : e = .returned (.tuple #[.slice none 0 0, .int .i64 E])) (h3 : Keep0 w w') : REnsE p w e w' := by
  subst hp
  exact ⟨none, 0, h, ens_nil _ _, (fun _ _ _ e => by cases e), h3⟩
def VecsAt (w : World) (ao : Option Addr) (ls : List (List En)) : Prop := ∀ i (_ : i < ls.length), ∃ b off bo c, ao = some ⟨b, off, none⟩ ∧ w.cell? ⟨b, off + i, none⟩ = some (.slice bo ls[i].length c) ∧ EnsAt w bo ls[i]
theorem VecsAt.keep0 {w w' : World} {ao : Option Addr} {ls : List (List En)} (h : VecsAt w ao ls) (K : Keep0 w w') : VecsAt w' ao ls := by
  intro i hi
  obtain ⟨b, off, bo, c, e, h1, h2⟩ := h i hi
  exact ⟨b, off, bo, c, e, K.cell h1 (fun f => f), h2.keep0 K⟩
end Go.Proofs.YtoefibkhlhmlfaaGreat
namespace Go.Proofs.YtoefibkhlhmlfaaGreat
open Go.RowKit
theorem Keep.pGrown {w w' : World} {B : Nat} {row : Option Nat} (g : w.grownBy w' row) (h : ∀ k, row = some k → B ≤ k) : KeepFrom B w w' :=
  ⟨g.os, g.tape, g.output, g.size, fun k hk hn => g.block k hk (fun e => hn (h k e.symm))⟩
def RTakeP (r : List Pr × Int × Int) (s : ByteArray) (b : Nat) (w : World) (e : Ending) (w' : World) : Prop := ∃ ao cap, e = .returned (.slice ao r.1.length cap) ∧ Cur w' b s r.2.1 r.2.2 ∧ PrsAt w' ao r.1 ∧ (∀ g off m, ao = some ⟨g, off, m⟩ → w.heap.size ≤ g) ∧ CapP r.1 cap ∧ Keep1 b w w'
theorem RTakeP.mk {r : List Pr × Int × Int} {s : ByteArray} {b : Nat} {w w' : World} {e : Ending} {ao : Option Addr} {cap : Nat} (h : e = .returned (.slice ao r.1.length cap)) (h1 : Cur w' b s r.2.1 r.2.2) (h2 : PrsAt w' ao r.1) (h3 : ∀ g off m, ao = some ⟨g, off, m⟩ → w.heap.size ≤ g) (h3' : CapP r.1 cap) (h4 : Keep1 b w w') : RTakeP r s b w e w' := ⟨ao, cap, h, h1, h2, h3, h3', h4⟩
theorem takep_bad {s : ByteArray} {a x : Int} (h : kErr s a x 8 ≠ 0) : kNum s a x 8 = 0 ∧ rX [] rPrs s a x = ([], tAt s a x, kErr s a x 8) := by
  by_cases hx : x = 0
  · subst hx
    refine ⟨?_, by rw [rX_yes, rprs_a h]⟩
    by_cases ht : tErr s a 0 = 0
    · by_cases ho : pMax 8 < tNum s a 0
      · exact (k_over ht ho).1
      · exact absurd (k_ok ht ho).2 h
    · exact (k_err ht).1
  · have ht := tErr_err (s := s) (a := a) hx
    obtain ⟨h1, h2⟩ := k_err (s := s) (a := a) (x := x) (m := 8) (by rw [ht]; exact hx)
    exact ⟨h1, by rw [rX_no hx, h2, ht, tAt_err hx]⟩
theorem takep_good {s : ByteArray} {a x : Int} (h : kErr s a x 8 = 0) : x = 0 := by
  refine Decidable.byContradiction fun hx => ?_
  have ht := tErr_err (s := s) (a := a) hx
  obtain ⟨_, h2⟩ := k_err (s := s) (a := a) (x := x) (m := 8) (by rw [ht]; exact hx)
  rw [h2, ht] at h
  exact hx h
theorem countp_le {s : ByteArray} {a x : Int} : kNum s a x 8 ≤ 8 := by
  unfold kNum
  split
  · rename_i h; exact h.2
  · decide
theorem btxt_le {s : ByteArray} {a m : Int} (hm : 0 ≤ m) (ha : 0 ≤ a) (ha' : a ≤ s.size) (h : bErr s a 0 m = 0) : ((bTxt s a 0 m).size : Int) ≤ m := by
  obtain ⟨_, _, h3, _, h5, _⟩ := blob_zero h
  have hp : pMax m = m := by unfold pMax; rw [if_neg (by omega)]
  rw [hp] at h3
  have ht := tNum_lt s a 0
  have hal := tAt_le (s := s) (a := a) (x := 0) ha ha'
  rw [h5]
  unfold cut
  rw [ByteArray.size_extract]
  omega
theorem prq_app {O : List Pr} {k : Nat} (h : O.length = k) (x : Pr) : prq (O ++ [x]) (k + 1) = some x.n := by
  rw [prq_succ (l := O ++ [x]) (k := k) (by rw [List.length_append, h]; show k < k + 1; omega)]
  congr 1
  rw [List.getElem_append_right (by rw [h]; exact Nat.le_refl _)]
  simp [h]
end Go.Proofs.YtoefibkhlhmlfaaGreat
namespace Go.Proofs.YtoefibkhlhmlfaaGreat
open Go.RowKit Go.WideShapes Go.ChangeShapes
set_option maxRecDepth 100000 in
theorem rd_pair {H : Type} {enc : TypeId × Value → H} {w : World} {cs : List Value} (h : Rd enc w 135 cs) : ∃ x : Pr, cs = x.cells ∧ x.n.size ≤ maxLen ∧ x.v.size ≤ maxLen := by
  obtain ⟨hl, hf⟩ := rd_struct Tryz.underlying135 h
  have hl2 : cs.length = 2 := hl.trans (by kernel_rfl)
  match cs, hl2 with
  | [v0, v1], _ =>
    have g0 := hf 0 _ rfl
    have g1 := hf 1 _ rfl
    have cs' : Tryz.prog.cellsOf 9 = 1 := by kernel_rfl
    simp [cs'] at g0 g1
    obtain ⟨s, e0, hs⟩ := rd_string Tryz.underlying9 g0
    obtain ⟨t, e1, ht⟩ := rd_string Tryz.underlying9 g1
    simp at e0 e1
    subst e0 e1
    exact ⟨⟨s, t⟩, rfl, hs, ht⟩
set_option maxRecDepth 100000 in
theorem rd_prs {H : Type} {enc : TypeId × Value → H} {w : World} {cs : List Value} (h : Rd enc w 59 cs) :
    ∃ (ao : Option Addr) (cap : Nat) (l : List Pr), cs = [.slice ao l.length cap] ∧ FitsP l ∧ PrsAt w ao l := by
  obtain ⟨ao, cap, es, h1, h2, h3, h4⟩ := rd_slice Tryz.underlying59 (by kernel_rfl : Tryz.prog.cellsOf 135 = 2) (by decide) h
  have hl : ∀ es : List (List Value), (∀ x ∈ es, ∃ f : Pr, x = f.cells ∧ f.n.size ≤ maxLen ∧ f.v.size ≤ maxLen) → ∃ l : List Pr, es = l.map Pr.cells ∧ ∀ f ∈ l, f.n.size ≤ maxLen ∧ f.v.size ≤ maxLen := by
    intro es
    induction es with
    | nil => exact fun _ => ⟨[], rfl, by simp⟩
    | cons x es ih =>
      intro h
      obtain ⟨a, rfl, ha⟩ := h x (by simp)
      obtain ⟨l, rfl, hl⟩ := ih (fun y hy => h y (by simp [hy]))
      exact ⟨a :: l, rfl, by simp; exact ⟨ha, hl⟩⟩
  obtain ⟨l, rfl, hok⟩ := hl es (fun x hx => rd_pair (h4 x hx))
  refine ⟨ao, cap, l, by simpa using h1, ⟨by simpa using h2, hok⟩, fun i hi => ?_⟩
  obtain ⟨b, off, e1, e2, e3⟩ := h3.cell i (by simpa using hi)
  refine ⟨b, off, e1, ?_, ?_⟩
  · simpa [Pr.cells] using e3 0 (by simp [Pr.cells])
  · simpa [Pr.cells] using e3 1 (by simp [Pr.cells])
theorem rd_cap {H : Type} {enc : TypeId × Value → H} {w : World} {t e : TypeId} {ao : Option Addr} {len cap : Nat} (ht : Tryz.prog.underlying t = some (.slice e)) (h : Rd enc w t [.slice ao len cap]) : len ≤ cap ∧ cap ≤ maxLen := by
  obtain ⟨fuel, x, h⟩ := h
  rcases Go.Deep.open_slice ht h with ⟨e1, _⟩ | ⟨a, l, c, m, n, D, Pl, e1, _, hl, hm, _⟩
  · cases e1
    exact ⟨Nat.le_refl _, Nat.zero_le _⟩
  · cases e1
    exact ⟨hl, hm⟩
end Go.Proofs.YtoefibkhlhmlfaaGreat
namespace Go.Proofs.YtoefibkhlhmlfaaGreat
open Go.RowKit
def RPrsE (r : List Pr × Int) (w : World) (e : Ending) (w' : World) : Prop := ∃ bo c, e = .returned (.tuple #[.slice bo r.1.length c, .int .i64 r.2]) ∧ PrsAt w' bo r.1 ∧ (∀ g off m, bo = some ⟨g, off, m⟩ → w.heap.size ≤ g) ∧ CapP r.1 c ∧ Keep0 w w'
theorem RPrsE.mk {r : List Pr} {x : Int} {w w' : World} {e : Ending} {bo : Option Addr} {c : Nat} (h : e = .returned (.tuple #[.slice bo r.length c, .int .i64 x])) (h1 : PrsAt w' bo r) (h2 : ∀ g off m, bo = some ⟨g, off, m⟩ → w.heap.size ≤ g) (h3 : CapP r c) (h4 : Keep0 w w') : RPrsE (r, x) w e w' := ⟨bo, c, h, h1, h2, h3, h4⟩
theorem RPrsE.bare {r : List Pr × Int} {x : Int} {w w' : World} {e : Ending} (h0 : r = ([], x)) (h : e = .returned (.tuple #[.slice none 0 0, .int .i64 x])) (h4 : Keep0 w w') : RPrsE r w e w' := by
  subst h0
  exact ⟨none, 0, h, prs_nil _ _, (fun _ _ _ e => by cases e), ⟨Nat.le_refl _, Nat.zero_le _⟩, h4⟩
end Go.Proofs.YtoefibkhlhmlfaaGreat
