/-
  What this seat's claims lean on of the texts Sib, RefVec3, QMem, RefPairs.
  Conditions: as each theorem states.
-/
import Derived.WalkKit
import Derived.ProofKit
import Derived.Below
import Derived.Deep.Draws
import Derived.Deep.RegionHeld
import Derived.Test.YtoefibkhlhmlfaaGreatChecked
import Derived.OpenShut
import Derived.ShutString
import Derived.WalkSpells
import Derived.WalkLawsBesides
import Derived.Deep.QuietTactic
import Derived.BigQuiet
import Derived.Laws.Bits64b
import Derived.PlainAid
import Derived.Lib.AppendStr
import Derived.Deep.AppendLies
import Derived.Laws.IdiomStrings
import Derived.Laws.BytesArg
import Derived.Deep.RegionWith
import Derived.Test.YtoefibkhlhmlfaaGreatY11
import Derived.Test.YtoefibkhlhmlfaaGreatY8
import Derived.Laws.AppendOwn
import Derived.Deep.DeepAppendWide
import Derived.Deep.Upon
import Derived.Laws.Rows
import Derived.Test.YtoefibkhlhmlfaaGreatY12
import Derived.Test.YtoefibkhlhmlfaaGreatY10
namespace Go.Proofs.YtoefibkhlhmlfaaGreat
open Go.RowKit
structure Sb where
  k : Ck
  m : List Pr
  d : Bool
  v : ByteArray
def zSb : Sb := ⟨zCk, [], false, ⟨#[]⟩⟩
def sCheck (x : Sb) : Int := if kCheck x.k = 0 then (if qCheck x.m = 0 then (if 32768 < x.v.size then 3 else 0) else qCheck x.m) else kCheck x.k
theorem sCheck_zero {x : Sb} : sCheck x = 0 ↔ kCheck x.k = 0 ∧ qCheck x.m = 0 ∧ x.v.size ≤ 32768 := by
  unfold sCheck
  by_cases h1 : kCheck x.k = 0
  · rw [if_pos h1]
    by_cases h2 : qCheck x.m = 0
    · rw [if_pos h2]
      by_cases h3 : 32768 < x.v.size
      · rw [if_pos h3]; exact ⟨fun e => absurd e (by decide), fun e => by omega⟩
      · rw [if_neg h3]; exact ⟨fun _ => ⟨h1, h2, by omega⟩, fun _ => rfl⟩
    · rw [if_neg h2]; exact ⟨fun e => absurd e h2, fun e => absurd e.2.1 h2⟩
  · rw [if_neg h1]; exact ⟨fun e => absurd e h1, fun e => absurd e.1 h1⟩
theorem sCheck_a {x : Sb} (h : kCheck x.k ≠ 0) : sCheck x = kCheck x.k := if_neg h
theorem sCheck_b {x : Sb} (h : kCheck x.k = 0) (h1 : qCheck x.m ≠ 0) : sCheck x = qCheck x.m := by unfold sCheck; rw [if_pos h, if_neg h1]
theorem sCheck_c {x : Sb} (h : kCheck x.k = 0) (h1 : qCheck x.m = 0) (h2 : 32768 < x.v.size) : sCheck x = 3 := by unfold sCheck; rw [if_pos h, if_pos h1, if_pos h2]
def okSib (x : Sb) : Prop := okClk x.k ∧ qCheck x.m = 0 ∧ x.v.size ≤ 32768
theorem okSib_iff {x : Sb} (h1 : ∀ y ∈ x.k.c, U64 y.n) (h2 : U64 x.k.x.n) : okSib x ↔ sCheck x = 0 := by
  rw [sCheck_zero]
  unfold okSib okClk
  exact ⟨fun h => ⟨h.1.1, h.2⟩, fun h => ⟨⟨h.1, h1, h2⟩, h.2⟩⟩
theorem okSib.zero {x : Sb} (h : okSib x) : sCheck x = 0 := sCheck_zero.2 ⟨h.1.1, h.2.1, h.2.2⟩
def rEnd : Rdr (Bool × ByteArray) := rSeq (false, ⟨#[]⟩) rFlag (fun _ => rBlob 32768)
def rMid : Rdr (List Pr × (Bool × ByteArray)) := rSeq ([], (false, ⟨#[]⟩)) rPrs (fun _ => rEnd)
def rSib : Rdr Sb := rMap (fun q : Ck × (List Pr × (Bool × ByteArray)) => (⟨q.1, q.2.1, q.2.2.1, q.2.2.2⟩ : Sb)) (rSeq (zCk, ([], (false, ⟨#[]⟩))) rClk (fun _ => rMid))
def eSib (x : Sb) : ByteArray := eClk x.k ++ (ePrs x.m ++ (eFlag x.d ++ bEncT x.v))
theorem sib_codec : Codec rSib okSib eSib := by
  have cE : Codec rEnd (fun q : Bool × ByteArray => True ∧ (q.2.size < 18446744073709551616 ∧ (q.2.size : Int) ≤ pMax 32768)) (fun q => eFlag q.1 ++ bEncT q.2) :=
    flag_codec.seq (B := fun _ => rBlob 32768) (okB := fun _ (s : ByteArray) => s.size < 18446744073709551616 ∧ (s.size : Int) ≤ pMax 32768) (encB := fun _ => bEncT) (false, ⟨#[]⟩) (fun _ _ => blob_codec 32768)
  have cM : Codec rMid (fun q : List Pr × (Bool × ByteArray) => qCheck q.1 = 0 ∧ (True ∧ (q.2.2.size < 18446744073709551616 ∧ (q.2.2.size : Int) ≤ pMax 32768))) (fun q => ePrs q.1 ++ (eFlag q.2.1 ++ bEncT q.2.2)) :=
    prs_codec.seq (B := fun _ => rEnd) (okB := fun _ (q : Bool × ByteArray) => True ∧ (q.2.size < 18446744073709551616 ∧ (q.2.size : Int) ≤ pMax 32768)) (encB := fun _ (q : Bool × ByteArray) => eFlag q.1 ++ bEncT q.2) ([], (false, ⟨#[]⟩)) (fun _ _ => cE)
  have c := (clk_codec.seq (B := fun _ => rMid) (okB := fun _ (q : List Pr × (Bool × ByteArray)) => qCheck q.1 = 0 ∧ (True ∧ (q.2.2.size < 18446744073709551616 ∧ (q.2.2.size : Int) ≤ pMax 32768))) (encB := fun _ (q : List Pr × (Bool × ByteArray)) => ePrs q.1 ++ (eFlag q.2.1 ++ bEncT q.2.2)) (zCk, ([], (false, ⟨#[]⟩))) (fun _ _ => cM)).map (fun q : Ck × (List Pr × (Bool × ByteArray)) => (⟨q.1, q.2.1, q.2.2.1, q.2.2.2⟩ : Sb)) (fun x => (x.k, (x.m, (x.d, x.v)))) (fun _ _ => rfl) (fun _ _ => rfl)
  refine c.weak (fun x => ?_) (fun _ _ => rfl)
  show okSib x ↔ okClk x.k ∧ (qCheck x.m = 0 ∧ (True ∧ (x.v.size < 18446744073709551616 ∧ (x.v.size : Int) ≤ pMax 32768)))
  unfold okSib
  rw [pMax15]
  exact ⟨fun h => ⟨h.1, h.2.1, trivial, by omega, by omega⟩, fun h => ⟨h.1, h.2.1, by omega⟩⟩
section
variable {s : ByteArray} {a b c : Int}
theorem sib_1 (h : (rClk s a).2.2 ≠ 0) : rSib s a = (zSb, (rClk s a).2) := by
  show rMap _ (rSeq (zCk, ([], (false, ⟨#[]⟩))) rClk (fun _ => rMid)) s a = _
  unfold rMap
  rw [rSeq_no h]
  rfl
theorem sib_rest {K : Ck} (h : rClk s a = (K, b, 0)) : rSib s a = if (rMid s b).2.2 = 0 then ((⟨K, (rMid s b).1.1, (rMid s b).1.2.1, (rMid s b).1.2.2⟩ : Sb), (rMid s b).2) else (zSb, (rMid s b).2) := by
  show rMap _ (rSeq (zCk, ([], (false, ⟨#[]⟩))) rClk (fun _ => rMid)) s a = _
  unfold rMap
  by_cases h1 : (rMid s b).2.2 = 0
  · rw [rSeq_yes (by rw [h]) (by rw [h]; exact h1), if_pos h1, h]
  · rw [rSeq_mid (by rw [h]) (by rw [h]; exact h1), if_neg h1, h]
    rfl
theorem sib_2 {K : Ck} (h : rClk s a = (K, b, 0)) (h1 : (rPrs s b).2.2 ≠ 0) : rSib s a = (zSb, (rPrs s b).2) := by
  have e : rMid s b = (([], (false, ⟨#[]⟩)), (rPrs s b).2) := rSeq_no h1
  rw [sib_rest h, e, if_neg h1]
theorem mid_rest {P : List Pr} (h : rPrs s b = (P, c, 0)) : rMid s b = if (rEnd s c).2.2 = 0 then ((P, (rEnd s c).1), (rEnd s c).2) else (([], (false, ⟨#[]⟩)), (rEnd s c).2) := by
  by_cases h1 : (rEnd s c).2.2 = 0
  · show rSeq ([], (false, ⟨#[]⟩)) rPrs (fun _ => rEnd) s b = _
    rw [rSeq_yes (by rw [h]) (by rw [h]; exact h1), if_pos h1, h]
  · show rSeq ([], (false, ⟨#[]⟩)) rPrs (fun _ => rEnd) s b = _
    rw [rSeq_mid (by rw [h]) (by rw [h]; exact h1), if_neg h1, h]
theorem sib_3 {K : Ck} {P : List Pr} (h : rClk s a = (K, b, 0)) (h1 : rPrs s b = (P, c, 0)) (h2 : gErr s c 0 ≠ 0) : rSib s a = (zSb, cAt s c 0 1, gErr s c 0) := by
  have e : rEnd s c = ((false, ⟨#[]⟩), cAt s c 0 1, gErr s c 0) := rSeq_no (A := rFlag) h2
  have e2 : rMid s b = (([], (false, ⟨#[]⟩)), cAt s c 0 1, gErr s c 0) := by rw [mid_rest h1, e, if_neg h2]
  rw [sib_rest h, e2, if_neg h2]
theorem sib_4 {K : Ck} {P : List Pr} (h : rClk s a = (K, b, 0)) (h1 : rPrs s b = (P, c, 0)) (h2 : gErr s c 0 = 0) (h3 : bErr s (cAt s c 0 1) 0 32768 ≠ 0) : rSib s a = (zSb, bAt s (cAt s c 0 1) 0 32768, bErr s (cAt s c 0 1) 0 32768) := by
  have e : rEnd s c = ((false, ⟨#[]⟩), bAt s (cAt s c 0 1) 0 32768, bErr s (cAt s c 0 1) 0 32768) := rSeq_mid (A := rFlag) (B := fun _ => rBlob 32768) h2 h3
  have e2 : rMid s b = (([], (false, ⟨#[]⟩)), bAt s (cAt s c 0 1) 0 32768, bErr s (cAt s c 0 1) 0 32768) := by rw [mid_rest h1, e, if_neg h3]
  rw [sib_rest h, e2, if_neg h3]
theorem sib_5 {K : Ck} {P : List Pr} (h : rClk s a = (K, b, 0)) (h1 : rPrs s b = (P, c, 0)) (h2 : gErr s c 0 = 0) (h3 : bErr s (cAt s c 0 1) 0 32768 = 0) : rSib s a = (⟨K, P, gSet s c 0, bTxt s (cAt s c 0 1) 0 32768⟩, bAt s (cAt s c 0 1) 0 32768, 0) := by
  have e : rEnd s c = ((gSet s c 0, bTxt s (cAt s c 0 1) 0 32768), bAt s (cAt s c 0 1) 0 32768, bErr s (cAt s c 0 1) 0 32768) := rSeq_yes (A := rFlag) (B := fun _ => rBlob 32768) h2 h3
  rw [h3] at e
  have e2 : rMid s b = ((P, (gSet s c 0, bTxt s (cAt s c 0 1) 0 32768)), bAt s (cAt s c 0 1) 0 32768, 0) := by rw [mid_rest h1, e, if_pos rfl]
  rw [sib_rest h, e2, if_pos rfl]
end
def pSib (M : Int) (p : ByteArray × Int) (x : Sb) : ByteArray × Int := if sCheck x = 0 then wPut M 32768 (wFlag M (pPrs M (pClk M p x.k) x.m) x.d) x.v else (p.1, pFail p.2 (sCheck x))
def pSibs (M : Int) (p : ByteArray × Int) (l : List Sb) : ByteArray × Int := l.foldl (pSib M) p
theorem pSib_yes {M : Int} {p : ByteArray × Int} {x : Sb} (h : sCheck x = 0) : pSib M p x = wPut M 32768 (wFlag M (pPrs M (pClk M p x.k) x.m) x.d) x.v := if_pos h
theorem Wr.ents : ∀ {l : List En}, (∀ x ∈ l, x.a.size ≤ 32) → Wr (fun M p => pEnts M p l) (eEnts l)
  | [], _ => Wr.nil
  | x :: l, h => by
    have hx := h x List.mem_cons_self
    have c1 : Wr (fun M p => pEnt M p x) (eEnt x) := (Wr.blob (m := 32) (s := x.a) (by rw [pMax32]; omega)).seq (Wr.one (vText x.n))
    exact c1.seq (Wr.ents (fun y hy => h y (List.mem_cons_of_mem _ hy)))
theorem Wr.vec {v : List En} (h : okVec v) : Wr (fun M p => pVec M p v) (eVec v) := by
  obtain ⟨_, h2⟩ := (check_zero v).1 h.1
  have c := (Wr.one (vText v.length)).seq (Wr.ents (fun x hx => (h2.1 x hx).2.1))
  have e : (fun (M : Int) (p : ByteArray × Int) => pVec M p v) = (fun M p => pEnts M (pOne M p (vText v.length)) v) := by
    funext M p
    exact pVec_yes h.1
  rw [e]
  exact c
theorem Wr.flag (b : Bool) : Wr (fun M p => wFlag M p b) (eFlag b) := Wr.one _
theorem Wr.clk {k : Ck} (h : okClk k) : Wr (fun M p => pClk M p k) (eClk k) := by
  obtain ⟨h1, _, h3⟩ := (okClk_iff k).1 h
  have e : (fun (M : Int) (p : ByteArray × Int) => pClk M p k) = (fun M p => pTail M (wFlag M (pVec M p k.c) k.d) k.d k.x) := by
    funext M p
    exact pClk_yes h.1
  rw [e]
  unfold okTail at h3
  cases hd : k.d with
  | true =>
    rw [hd, if_pos rfl] at h3
    have cT : Wr (fun M p => pTail M p true k.x) (eTail true k.x) := (Wr.blob (m := 32) (s := k.x.a) (by rw [pMax32]; have := (cOne_zero.1 h3.1.1).1.2.1; omega)).seq (Wr.one (vText k.x.n))
    have c := ((Wr.vec h1).seq (Wr.flag true)).seq cT
    refine c.eq ?_
    unfold eClk
    rw [hd, ByteArray.append_assoc]
  | false =>
    have cT : Wr (fun M p => pTail M p false k.x) (eTail false k.x) := Wr.nil
    have c := ((Wr.vec h1).seq (Wr.flag false)).seq cT
    refine c.eq ?_
    unfold eClk
    rw [hd, ByteArray.append_assoc]
theorem Wr.pairs : ∀ {l : List Pr}, (∀ x ∈ l, x.ok) → Wr (fun M p => pPairs M p l) (ePairs l)
  | [], _ => Wr.nil
  | x :: l, h => by
    have hx := h x List.mem_cons_self
    unfold Pr.ok at hx
    have c1 : Wr (fun M p => pPair M p x) (ePair x) := (Wr.blob (m := 32) (s := x.n) (by rw [pMax32]; omega)).seq (Wr.blob (m := 32768) (s := x.v) (by rw [pMax15]; omega))
    exact c1.seq (Wr.pairs (fun y hy => h y (List.mem_cons_of_mem _ hy)))
theorem Wr.prs {l : List Pr} (h : qCheck l = 0) : Wr (fun M p => pPrs M p l) (ePrs l) := by
  obtain ⟨_, h2⟩ := (qCheck_zero l).1 h
  have c := (Wr.one (vText l.length)).seq (Wr.pairs h2.1)
  have e : (fun (M : Int) (p : ByteArray × Int) => pPrs M p l) = (fun M p => pPairs M (pOne M p (vText l.length)) l) := by
    funext M p
    exact pPrs_yes h
  rw [e]
  exact c
theorem Wr.sib {x : Sb} (h : okSib x) : Wr (fun M p => pSib M p x) (eSib x) := by
  have e : (fun (M : Int) (p : ByteArray × Int) => pSib M p x) = (fun M p => wPut M 32768 (wFlag M (pPrs M (pClk M p x.k) x.m) x.d) x.v) := by
    funext M p
    exact pSib_yes h.zero
  rw [e]
  have c := (((Wr.clk h.1).seq (Wr.prs h.2.1)).seq (Wr.flag x.d)).seq (Wr.blob (m := 32768) (s := x.v) (by rw [pMax15]; have := h.2.2; omega))
  refine c.eq ?_
  unfold eSib
  simp only [ByteArray.append_assoc]
end Go.Proofs.YtoefibkhlhmlfaaGreat
namespace Go.Proofs.YtoefibkhlhmlfaaGreat
open Go.RowKit
def REns (l : List En) (w : World) (e : Ending) (w' : World) : Prop := ∃ ao cap, e = .returned (.slice ao l.length cap) ∧ EnsAt w' ao l ∧ (∀ g off m, ao = some ⟨g, off, m⟩ → w.heap.size ≤ g) ∧ Keep0 w w'
theorem REns.mk {l : List En} {w w' : World} {e : Ending} {ao : Option Addr} {cap : Nat} (h : e = .returned (.slice ao l.length cap)) (h1 : EnsAt w' ao l) (h2 : ∀ g off m, ao = some ⟨g, off, m⟩ → w.heap.size ≤ g) (h3 : Keep0 w w') : REns l w e w' := ⟨ao, cap, h, h1, h2, h3⟩
end Go.Proofs.YtoefibkhlhmlfaaGreat
namespace Go.Proofs.YtoefibkhlhmlfaaGreat
open Go.RowKit
theorem retCk {fn : Func} {p : Tmp} (h : fn.results = #[.cell p 58]) (tmps : Array Value) (w : World) (g : Nat) {v0 v1 v2 v3 : Value}
    (hp : tmps.getD p undef = .pointer (some ⟨g, 0, none⟩)) (hg : QAt w g v0 v1 v2 v3) : (results fn tmps).run Tryz.prog w = .ok (.agg #[v0, v1, v2, v3]) w := by
  obtain ⟨ty, hk⟩ := hg.blk
  exact results_cell_row h tmps w g ty _ _ _ hp hk Tryz.underlying58 rfl (by kernel_rfl)
end Go.Proofs.YtoefibkhlhmlfaaGreat
namespace Go.Proofs.YtoefibkhlhmlfaaGreat
open Go.RowKit
def FitsP (l : List Pr) : Prop := l.length ≤ maxLen ∧ ∀ x ∈ l, x.n.size ≤ maxLen ∧ x.v.size ≤ maxLen
def CapP (l : List Pr) (cap : Nat) : Prop := l.length ≤ cap ∧ cap ≤ maxLen
def qSame : List Pr → List Pr → Bool
  | [], [] => true
  | x :: l, y :: m => if x.n = y.n ∧ x.v = y.v then qSame l m else false
  | _, _ => false
theorem qSame_iff : ∀ {l m : List Pr}, qSame l m = true ↔ l = m
  | [], [] => ⟨fun _ => rfl, fun _ => rfl⟩
  | [], _ :: _ => ⟨fun h => (by cases h), fun h => (by cases h)⟩
  | _ :: _, [] => ⟨fun h => (by cases h), fun h => (by cases h)⟩
  | x :: l, y :: m => by
    rw [qSame]
    by_cases h : x.n = y.n ∧ x.v = y.v
    · rw [if_pos h, qSame_iff, Pr.eq h.1 h.2]
      exact ⟨fun e => by rw [e], fun e => by cases e; rfl⟩
    · rw [if_neg h]
      exact ⟨fun e => (by cases e), fun e => absurd (by cases e; exact ⟨rfl, rfl⟩) h⟩
theorem qSame_len {l m : List Pr} (h : l.length ≠ m.length) : qSame l m = false := by
  cases hb : qSame l m with
  | false => rfl
  | true => exact absurd (by rw [qSame_iff.1 hb]) h
theorem sameq_drop {l m : List Pr} {k : Nat} (hk : k < l.length) (hm : k < m.length) : qSame (l.drop k) (m.drop k) = if l[k].n = m[k].n ∧ l[k].v = m[k].v then qSame (l.drop (k + 1)) (m.drop (k + 1)) else false := by
  rw [List.drop_eq_getElem_cons hk, List.drop_eq_getElem_cons hm, qSame]
set_option maxRecDepth 100000 in
theorem rsame14 (w : World) (ao bo : Option Addr) (ca cb : Nat) (l m : List Pr) (hl : l.length ≤ maxLen) (hm : m.length ≤ maxLen) (ha : PrsAt w ao l) (hb : PrsAt w bo m) :
    Calls Tryz.prog 67 #[.slice ao l.length ca, .slice bo m.length cb] w fun e w' => e = .returned (.bool (qSame l m)) ∧ ∃ n, w' = w.drewN n := by
  have HA : Hid (PrsAt w ao l) := ha
  have HB : Hid (PrsAt w bo m) := hb
  have hl' : (l.length : Int) ≤ 9223372036854775807 := by unfold maxLen at hl; omega
  have hm' : (m.length : Int) ≤ 9223372036854775807 := by unfold maxLen at hm; omega
  clear ha hb
  by_cases he : l.length = m.length
  · obtain ⟨r, hr⟩ : ∃ r, qSame l m = r := ⟨_, rfl⟩
    rw [hr]
    have HR : Hid (qSame (l.drop 0) (m.drop 0) = r) := hr
    have HE : Hid (l.length = m.length) := he
    have i0 : ((l.length : Int) != (m.length : Int)) = false := by simp [he]
    clear hr he
    go_enter Tryz.func67, Tryz.ntmps67
    go_wp2_with fail
    go_loopw [5] (fun i wr => ∃ (k : Nat), i = .int .i64 (k : Int) ∧ k ≤ l.length ∧ Hid (qSame (l.drop k) (m.drop k) = r) ∧ ∃ n, wr = w.drewN n) (fun i _ => l.length - (intOf i).toNat)
    case atStart => exact ⟨0, rfl, by omega, HR, 0, rfl⟩
    case round =>
      obtain ⟨k, rfl, hk, HK, hWr⟩ := hrel
      have kr := keepN hWr
      have HW : Hid (∃ n, wr = w.drewN n) := hWr
      have he := HE.out
      clear hWr
      by_cases hlt : k < l.length
      · have i1 : (k : Int) < l.length := by omega
        have i2 : (k : Int) < m.length := by omega
        have hkm : k < m.length := by omega
        obtain ⟨b1, o1, rfl, p0, p1⟩ := HA.out k hlt
        obtain ⟨b2, o2, rfl, q0, q1⟩ := HB.out k hkm
        have x0 := kr.cell p0 (fun f => f)
        have x1 := kr.cell p1 (fun f => f)
        have y0 := kr.cell q0 (fun f => f)
        have y1 := kr.cell q1 (fun f => f)
        clear p0 p1 q0 q1
        have hd := HK.out
        rw [sameq_drop hlt hkm] at hd
        by_cases h1 : l[k].n = m[k].n
        · by_cases h2 : l[k].v = m[k].v
          · rw [if_pos ⟨h1, h2⟩] at hd
            have HD : Hid (qSame (l.drop (k + 1)) (m.drop (k + 1)) = r) := hd
            rw [← h1] at y0
            rw [← h2] at y1
            generalize l[k].n = A at *
            generalize l[k].v = N at *
            clear hd HK kr he h1 h2 HA HB
            go_wp2_with fail
            go_quiet (fail)
            go_wp2
            go_roundw
            case rel => exact ⟨k + 1, by go_num, by omega, HD, drewN_on HW.out _⟩
            case measure => simp [intOf]; omega
          · rw [if_neg (fun h => h2 h.2)] at hd
            have HD : Hid (false = r) := hd
            rw [← h1] at y0
            obtain ⟨e2, e3, e4⟩ := txt_ne h2
            generalize l[k].n = A at *
            generalize l[k].v = N at *
            generalize m[k].v = M at *
            clear hd HK kr he h1 HA HB
            go_wp2_with fail
            go_quiet (fail)
            go_wp2
            go_ret
            exact ⟨by rw [← HD.out]; rfl, drewN_on HW.out _⟩
        · rw [if_neg (fun h => h1 h.1)] at hd
          have HD : Hid (false = r) := hd
          obtain ⟨e2, e3, e4⟩ := txt_ne h1
          generalize l[k].n = A at *
          generalize m[k].n = A2 at *
          generalize l[k].v = N at *
          generalize m[k].v = M at *
          clear hd HK kr he HA HB
          go_wp2_with fail
          go_quiet (fail)
          go_wp2
          go_ret
          exact ⟨by rw [← HD.out]; rfl, drewN_on HW.out _⟩
      · have i1 : ¬ (k : Int) < l.length := by omega
        have hd := HK.out
        rw [List.drop_eq_nil_of_le (by omega), List.drop_eq_nil_of_le (by omega)] at hd
        have HD : Hid (true = r) := hd
        clear hd HK kr he
        go_wp2
        go_ret
        exact ⟨by rw [← HD.out]; rfl, HW.out⟩
  · rw [qSame_len he]
    have i0 : ((l.length : Int) != (m.length : Int)) = true := by simp; omega
    go_enter Tryz.func67, Tryz.ntmps67
    go_wp2
    go_ret
    exact ⟨rfl, 0, rfl⟩
def prq (l : List Pr) : Nat → Option ByteArray
  | 0 => none
  | k + 1 => (l[k]?).map (·.n)
theorem prq_zero (l : List Pr) : prq l 0 = none := rfl
theorem prq_succ {l : List Pr} {k : Nat} (h : k < l.length) : prq l (k + 1) = some l[k].n := by
  show (l[k]?).map (·.n) = _
  rw [List.getElem?_eq_getElem h]
  rfl
theorem goq_drop {l : List Pr} {k : Nat} (hk : k < l.length) : qGo (prq l k) (l.drop k) = if qOne (prq l k) l[k] = 0 then qGo (prq l (k + 1)) (l.drop (k + 1)) else qOne (prq l k) l[k] := by
  rw [List.drop_eq_getElem_cons hk, qGo, prq_succ hk]
theorem qOne_a {p : Option ByteArray} {x : Pr} (h : 32 < x.n.size) : qOne p x = 3 := if_pos h
theorem qOne_b {p : Option ByteArray} {x : Pr} (h : x.n.size = 0) : qOne p x = 14 := by unfold qOne; rw [if_neg (by omega), if_pos h]
theorem qOne_c {p : Option ByteArray} {x : Pr} (h1 : ¬ 32 < x.n.size) (h2 : x.n.size ≠ 0) (h3 : falls p x.n = true) : qOne p x = 6 := by unfold qOne; rw [if_neg h1, if_neg h2, if_pos h3]
theorem qOne_d {p : Option ByteArray} {x : Pr} (h1 : ¬ 32 < x.n.size) (h2 : x.n.size ≠ 0) (h3 : falls p x.n = false) (h4 : 32768 < x.v.size) : qOne p x = 3 := by unfold qOne; rw [if_neg h1, if_neg h2, h3, if_neg (by decide), if_pos h4]
theorem qOne_e {p : Option ByteArray} {x : Pr} (h1 : ¬ 32 < x.n.size) (h2 : x.n.size ≠ 0) (h3 : falls p x.n = false) (h4 : ¬ 32768 < x.v.size) : qOne p x = 0 := by unfold qOne; rw [if_neg h1, if_neg h2, h3, if_neg (by decide), if_neg h4]
set_option maxRecDepth 100000 in
set_option maxHeartbeats 4000000 in
theorem rcheck14 (w : World) (ao : Option Addr) (cap : Nat) (l : List Pr) (hf : FitsP l) (hc : PrsAt w ao l) :
    Calls Tryz.prog 83 #[.slice ao l.length cap] w fun e w' => e = .returned (.int .i64 (qCheck l)) ∧ ∃ n, w' = w.drewN n := by
  have HC : Hid (PrsAt w ao l) := hc
  have HF : Hid (∀ x ∈ l, x.n.size ≤ maxLen ∧ x.v.size ≤ maxLen) := hf.2
  have hl' : (l.length : Int) ≤ 9223372036854775807 := by have := hf.1; unfold maxLen at this; omega
  clear hc hf
  by_cases h8 : 8 < l.length
  · have i0 : (8 : Int) < l.length := by omega
    have e : qCheck l = 3 := if_pos h8
    rw [e]
    go_enter Tryz.func83, Tryz.ntmps83
    go_wp2
    go_ret
    exact ⟨rfl, 0, rfl⟩
  · have i0 : ¬ (8 : Int) < l.length := by omega
    have e : qCheck l = qGo (prq l 0) (l.drop 0) := if_neg h8
    obtain ⟨r, hr⟩ : ∃ r, qCheck l = r := ⟨_, rfl⟩
    rw [hr]
    rw [e] at hr
    have HR : Hid (qGo (prq l 0) (l.drop 0) = r) := hr
    clear hr e
    go_enter Tryz.func83, Tryz.ntmps83
    go_wp2_with fail
    go_loopw [3] (fun i wr => ∃ (k : Nat), i = .int .i64 (k : Int) ∧ k ≤ l.length ∧ Hid (qGo (prq l k) (l.drop k) = r) ∧ ∃ n, wr = w.drewN n) (fun i _ => l.length - (intOf i).toNat)
    case atStart => exact ⟨0, rfl, by omega, HR, 0, rfl⟩
    case round =>
      obtain ⟨k, rfl, hk, HK, hWr⟩ := hrel
      have kr := keepN hWr
      have HW : Hid (∃ n, wr = w.drewN n) := hWr
      clear hWr
      by_cases hlt : k < l.length
      · have i1 : (k : Int) < l.length := by omega
        obtain ⟨b, off, rfl, p0, p1⟩ := HC.out k hlt
        have x0 := kr.cell p0 (fun f => f)
        have x1 := kr.cell p1 (fun f => f)
        clear p0 p1
        have hm := (HF.out l[k] (List.getElem_mem hlt)).1
        have i2v : (l[k].v.size : Int) ≤ 9223372036854775807 := by have := (HF.out l[k] (List.getElem_mem hlt)).2; unfold maxLen at this; omega
        have i2 : (l[k].n.size : Int) ≤ 9223372036854775807 := by unfold maxLen at hm; omega
        have hd := HK.out
        rw [goq_drop hlt] at hd
        by_cases h1 : 32 < l[k].n.size
        · rw [qOne_a h1, if_neg (by decide)] at hd
          have HD : Hid ((3 : Int) = r) := hd
          have i3 : (32 : Int) < l[k].n.size := by omega
          clear hd HK kr hm h1 x1 i2v
          generalize l[k].n = A at *
          go_wp2
          go_ret
          exact ⟨by rw [← HD.out]; rfl, HW.out⟩
        by_cases h2 : l[k].n.size = 0
        · rw [qOne_b h2, if_neg (by decide)] at hd
          have HD : Hid ((14 : Int) = r) := hd
          have i3 : ¬ (32 : Int) < l[k].n.size := by omega
          have i4 : (l[k].n.size : Int) = 0 := by omega
          clear hd HK kr hm h1 x1 i2v
          generalize l[k].n = A at *
          go_wp2
          go_ret
          exact ⟨by rw [← HD.out]; rfl, HW.out⟩
        have i3 : ¬ (32 : Int) < l[k].n.size := by omega
        have i4 : ((l[k].n.size : Int) == 0) = false := beq_eq_false_iff_ne.2 (by omega)
        have i5 : ¬ (l[k].n.size : Int) = 0 := by omega
        cases k with
        | zero =>
          have hp : falls (prq l 0) l[0].n = false := rfl
          have v0 : wr.cell? ⟨b, off, none⟩ = some (.string l[0].n) := x0
          have v1 : wr.cell? ⟨b, off + 1, none⟩ = some (.string l[0].v) := x1
          clear x0 x1
          have HZ : Hid (qGo (prq l 1) (l.drop 1) = r ∨ (32768 < l[0].v.size ∧ (3 : Int) = r)) := by
            by_cases h4 : 32768 < l[0].v.size
            · rw [qOne_d h1 h2 hp h4, if_neg (by decide)] at hd
              exact Or.inr ⟨h4, hd⟩
            · rw [qOne_e h1 h2 hp h4, if_pos rfl] at hd
              exact Or.inl hd
          have HN : Hid (¬ 32768 < l[0].v.size → qGo (prq l 1) (l.drop 1) = r) := fun h => HZ.out.elim (fun e => e) (fun e => absurd e.1 h)
          have HN' : Hid (32768 < l[0].v.size → (3 : Int) = r) := by
            intro h4
            rw [qOne_d h1 h2 hp h4, if_neg (by decide)] at hd
            exact hd
          clear hd HK kr hm h1 h2 hp HZ HC HF HR
          by_cases h4 : 32768 < l[0].v.size
          · have HD : Hid ((3 : Int) = r) := HN'.out h4
            have i6 : (32768 : Int) < l[0].v.size := by omega
            clear HN HN' h4
            generalize l[0].n = A at *
            go_wp2_with fail
            go_quiet (fail)
            go_wp2
            go_ret
            exact ⟨by rw [← HD.out]; rfl, drewN_on HW.out _⟩
          · have i6 : ¬ (32768 : Int) < l[0].v.size := by omega
            have i7 : (l[0].v.size : Int) ≤ 9223372036854775807 := by omega
            have HD : Hid (qGo (prq l 1) (l.drop 1) = r) := HN.out h4
            clear HN HN' h4
            generalize l[0].n = A at *
            generalize l[0].v = N at *
            go_wp2_with fail
            go_quiet (fail)
            go_wp2
            go_roundw
            case rel => exact ⟨1, by go_num, by omega, HD, drewN_on HW.out _⟩
            case measure => simp [intOf]; omega
        | succ j =>
          have hj : j < l.length := by omega
          obtain ⟨b', off', e', p0, _⟩ := HC.out j hj
          cases e'
          have y0 := kr.cell p0 (fun f => f)
          clear p0
          have hmj := (HF.out l[j] (List.getElem_mem hj)).1
          have HQ : Hid (∀ n, Calls Tryz.prog 50 #[.string l[j].n, .string l[j + 1].n] (wr.drewN n) fun e w' => e = .returned (.bool (bl l[j].n l[j + 1].n)) ∧ ∃ m, w' = wr.drewN m) := fun n => rbelow_q wr n l[j].n l[j + 1].n hmj hm
          have hp : falls (prq l (j + 1)) l[j + 1].n = !bl l[j].n l[j + 1].n := by rw [prq_succ hj, falls_some]
          obtain ⟨q, hq⟩ : ∃ q : Nat, j + 1 = q := ⟨_, rfl⟩
          have i6 : (q : Int) - 1 = (j : Int) := by omega
          have i7 : IntKind.i64.wrap (j : Int) = (j : Int) := by rw [IntKind.wrap_i64]; omega
          have i8 : decide (0 < q) = true := decide_eq_true (by omega)
          have i8' : 0 < q := by omega
          have i9 : (j : Int) < l.length := by omega
          cases hB : bl l[j].n l[j + 1].n with
          | false =>
            rw [hB] at hp HQ
            rw [qOne_c h1 h2 hp, if_neg (by decide)] at hd
            have HD : Hid ((6 : Int) = r) := hd
            clear hd HK kr hm h1 h2 hp HC HF HR hB hmj x1 i2v
            subst hq
            have yq := HQ.out
            clear HQ
            generalize l[j + 1].n = A at *
            generalize l[j].n = A' at *
            generalize hq : j + 1 = q at *
            go_wp2_with fail
            go_quiet ((go_at_call 50; exact yq _))
            go_wp2
            go_ret
            exact ⟨by rw [← HD.out]; rfl, drewN_on HW.out _⟩
          | true =>
            rw [hB] at hp HQ
            have HN : Hid (¬ 32768 < l[j + 1].v.size → qGo (prq l (j + 2)) (l.drop (j + 2)) = r) := by
              intro h4
              rw [qOne_e h1 h2 hp h4, if_pos rfl] at hd
              exact hd
            have HN' : Hid (32768 < l[j + 1].v.size → (3 : Int) = r) := by
              intro h4
              rw [qOne_d h1 h2 hp h4, if_neg (by decide)] at hd
              exact hd
            have yq := HQ.out
            clear hd HK kr hm h1 h2 hp HC HF HR hB hmj HQ
            subst hq
            by_cases h4 : 32768 < l[j + 1].v.size
            · have HD : Hid ((3 : Int) = r) := HN'.out h4
              have i10 : (32768 : Int) < l[j + 1].v.size := by omega
              clear HN HN' h4
              generalize l[j + 1].n = A at *
              generalize l[j].n = A' at *
              generalize hq : j + 1 = q at *
              go_wp2_with fail
              go_quiet ((go_at_call 50; exact yq _))
              go_wp2
              go_ret
              exact ⟨by rw [← HD.out]; rfl, drewN_on HW.out _⟩
            · have i10 : ¬ (32768 : Int) < l[j + 1].v.size := by omega
              have i11 : (l[j + 1].v.size : Int) ≤ 9223372036854775807 := by omega
              have HD : Hid (qGo (prq l (j + 2)) (l.drop (j + 2)) = r) := HN.out h4
              clear HN HN' h4
              generalize l[j + 1].n = A at *
              generalize l[j].n = A' at *
              generalize l[j + 1].v = N at *
              have HQ2 : Hid (qGo (prq l (j + 1 + 1)) (l.drop (j + 1 + 1)) = r) := HD
              clear HD
              generalize hq : j + 1 = q at *
              go_wp2_with fail
              go_quiet ((go_at_call 50; exact yq _))
              go_wp2
              go_roundw
              case rel => exact ⟨q + 1, by go_num, by omega, HQ2, drewN_on HW.out _⟩
              case measure => simp [intOf]; omega
      · have i1 : ¬ (k : Int) < l.length := by omega
        have hd := HK.out
        rw [List.drop_eq_nil_of_le (by omega), qGo] at hd
        have HD : Hid ((0 : Int) = r) := hd
        clear hd HK kr
        go_wp2
        go_ret
        exact ⟨by rw [← HD.out]; rfl, HW.out⟩
end Go.Proofs.YtoefibkhlhmlfaaGreat
