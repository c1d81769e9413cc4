/-
  What this seat's claims lean on of the texts Sib, RefVec3, RefPairs.
  Conditions: as each theorem states.
-/
import Derived.WalkKit
import Derived.ProofKit
import Derived.Below
import Derived.Deep.Draws
import Derived.Deep.RegionHeld
import Derived.Test.YtmllchembkpdkaaChecked
import Derived.OpenShut
import Derived.ShutString
import Derived.WalkSpells
import Derived.WalkLawsBesides
import Derived.Deep.QuietTactic
import Derived.BigQuiet
import Derived.Laws.Bits64b
import Derived.PlainAid
import Derived.Lib.AppendStr
import Derived.Deep.AppendLies
import Derived.Laws.IdiomStrings
import Derived.Laws.BytesArg
import Derived.Deep.RegionWith
import Derived.Test.YtmllchembkpdkaaZ16
import Derived.Test.YtmllchembkpdkaaZ9
import Derived.Laws.AppendOwn
import Derived.Deep.DeepAppendWide
import Derived.Deep.Upon
import Derived.Test.YtmllchembkpdkaaZ17
import Derived.Test.YtmllchembkpdkaaZ18
import Derived.Test.YtmllchembkpdkaaZ15
namespace Go.Proofs.Ytmllchembkpdkaa
open Go.RowKit
structure Sb where
  k : Ck
  m : List Pr
  d : Bool
  v : ByteArray
def zSb : Sb := ⟨zCk, [], false, ⟨#[]⟩⟩
def sCheck (x : Sb) : Int := if kCheck x.k = 0 then (if qCheck x.m = 0 then (if 32768 < x.v.size then 3 else 0) else qCheck x.m) else kCheck x.k
theorem sCheck_zero {x : Sb} : sCheck x = 0 ↔ kCheck x.k = 0 ∧ qCheck x.m = 0 ∧ x.v.size ≤ 32768 := by
  unfold sCheck
  by_cases h1 : kCheck x.k = 0
  · rw [if_pos h1]
    by_cases h2 : qCheck x.m = 0
    · rw [if_pos h2]
      by_cases h3 : 32768 < x.v.size
      · rw [if_pos h3]; exact ⟨fun e => absurd e (by decide), fun e => by omega⟩
      · rw [if_neg h3]; exact ⟨fun _ => ⟨h1, h2, by omega⟩, fun _ => rfl⟩
    · rw [if_neg h2]; exact ⟨fun e => absurd e h2, fun e => absurd e.2.1 h2⟩
  · rw [if_neg h1]; exact ⟨fun e => absurd e h1, fun e => absurd e.1 h1⟩
def okSib (x : Sb) : Prop := okClk x.k ∧ qCheck x.m = 0 ∧ x.v.size ≤ 32768
theorem okSib.zero {x : Sb} (h : okSib x) : sCheck x = 0 := sCheck_zero.2 ⟨h.1.1, h.2.1, h.2.2⟩
def rEnd : Rdr (Bool × ByteArray) := rSeq (false, ⟨#[]⟩) rFlag (fun _ => rBlob 32768)
def eSib (x : Sb) : ByteArray := eClk x.k ++ (ePrs x.m ++ (eFlag x.d ++ bEncT x.v))
section
variable {s : ByteArray} {a b c : Int}
end
def pSib (M : Int) (p : ByteArray × Int) (x : Sb) : ByteArray × Int := if sCheck x = 0 then wPut M 32768 (wFlag M (pPrs M (pClk M p x.k) x.m) x.d) x.v else (p.1, pFail p.2 (sCheck x))
theorem pSib_yes {M : Int} {p : ByteArray × Int} {x : Sb} (h : sCheck x = 0) : pSib M p x = wPut M 32768 (wFlag M (pPrs M (pClk M p x.k) x.m) x.d) x.v := if_pos h
theorem Wr.ents : ∀ {l : List En}, (∀ x ∈ l, x.a.size ≤ 32) → Wr (fun M p => pEnts M p l) (eEnts l)
  | [], _ => Wr.nil
  | x :: l, h => by
    have hx := h x List.mem_cons_self
    have c1 : Wr (fun M p => pEnt M p x) (eEnt x) := (Wr.blob (m := 32) (s := x.a) (by rw [pMax32]; omega)).seq (Wr.one (vText x.n))
    exact c1.seq (Wr.ents (fun y hy => h y (List.mem_cons_of_mem _ hy)))
theorem Wr.vec {v : List En} (h : okVec v) : Wr (fun M p => pVec M p v) (eVec v) := by
  obtain ⟨_, h2⟩ := (check_zero v).1 h.1
  have c := (Wr.one (vText v.length)).seq (Wr.ents (fun x hx => (h2.1 x hx).2.1))
  have e : (fun (M : Int) (p : ByteArray × Int) => pVec M p v) = (fun M p => pEnts M (pOne M p (vText v.length)) v) := by
    funext M p
    exact pVec_yes h.1
  rw [e]
  exact c
theorem Wr.flag (b : Bool) : Wr (fun M p => wFlag M p b) (eFlag b) := Wr.one _
theorem Wr.clk {k : Ck} (h : okClk k) : Wr (fun M p => pClk M p k) (eClk k) := by
  obtain ⟨h1, _, h3⟩ := (okClk_iff k).1 h
  have e : (fun (M : Int) (p : ByteArray × Int) => pClk M p k) = (fun M p => pTail M (wFlag M (pVec M p k.c) k.d) k.d k.x) := by
    funext M p
    exact pClk_yes h.1
  rw [e]
  unfold okTail at h3
  cases hd : k.d with
  | true =>
    rw [hd, if_pos rfl] at h3
    have cT : Wr (fun M p => pTail M p true k.x) (eTail true k.x) := (Wr.blob (m := 32) (s := k.x.a) (by rw [pMax32]; have := (cOne_zero.1 h3.1.1).1.2.1; omega)).seq (Wr.one (vText k.x.n))
    have c := ((Wr.vec h1).seq (Wr.flag true)).seq cT
    refine c.eq ?_
    unfold eClk
    rw [hd, ByteArray.append_assoc]
  | false =>
    have cT : Wr (fun M p => pTail M p false k.x) (eTail false k.x) := Wr.nil
    have c := ((Wr.vec h1).seq (Wr.flag false)).seq cT
    refine c.eq ?_
    unfold eClk
    rw [hd, ByteArray.append_assoc]
theorem Wr.pairs : ∀ {l : List Pr}, (∀ x ∈ l, x.ok) → Wr (fun M p => pPairs M p l) (ePairs l)
  | [], _ => Wr.nil
  | x :: l, h => by
    have hx := h x List.mem_cons_self
    unfold Pr.ok at hx
    have c1 : Wr (fun M p => pPair M p x) (ePair x) := (Wr.blob (m := 32) (s := x.n) (by rw [pMax32]; omega)).seq (Wr.blob (m := 32768) (s := x.v) (by rw [pMax15]; omega))
    exact c1.seq (Wr.pairs (fun y hy => h y (List.mem_cons_of_mem _ hy)))
theorem Wr.prs {l : List Pr} (h : qCheck l = 0) : Wr (fun M p => pPrs M p l) (ePrs l) := by
  obtain ⟨_, h2⟩ := (qCheck_zero l).1 h
  have c := (Wr.one (vText l.length)).seq (Wr.pairs h2.1)
  have e : (fun (M : Int) (p : ByteArray × Int) => pPrs M p l) = (fun M p => pPairs M (pOne M p (vText l.length)) l) := by
    funext M p
    exact pPrs_yes h
  rw [e]
  exact c
theorem Wr.sib {x : Sb} (h : okSib x) : Wr (fun M p => pSib M p x) (eSib x) := by
  have e : (fun (M : Int) (p : ByteArray × Int) => pSib M p x) = (fun M p => wPut M 32768 (wFlag M (pPrs M (pClk M p x.k) x.m) x.d) x.v) := by
    funext M p
    exact pSib_yes h.zero
  rw [e]
  have c := (((Wr.clk h.1).seq (Wr.prs h.2.1)).seq (Wr.flag x.d)).seq (Wr.blob (m := 32768) (s := x.v) (by rw [pMax15]; have := h.2.2; omega))
  refine c.eq ?_
  unfold eSib
  simp only [ByteArray.append_assoc]
end Go.Proofs.Ytmllchembkpdkaa
namespace Go.Proofs.Ytmllchembkpdkaa
open Go.RowKit
def REns (l : List En) (w : World) (e : Ending) (w' : World) : Prop := ∃ ao cap, e = .returned (.slice ao l.length cap) ∧ EnsAt w' ao l ∧ (∀ g off m, ao = some ⟨g, off, m⟩ → w.heap.size ≤ g) ∧ Keep0 w w'
theorem REns.mk {l : List En} {w w' : World} {e : Ending} {ao : Option Addr} {cap : Nat} (h : e = .returned (.slice ao l.length cap)) (h1 : EnsAt w' ao l) (h2 : ∀ g off m, ao = some ⟨g, off, m⟩ → w.heap.size ≤ g) (h3 : Keep0 w w') : REns l w e w' := ⟨ao, cap, h, h1, h2, h3⟩
end Go.Proofs.Ytmllchembkpdkaa
namespace Go.Proofs.Ytmllchembkpdkaa
open Go.RowKit
def CapP (l : List Pr) (cap : Nat) : Prop := l.length ≤ cap ∧ cap ≤ maxLen
end Go.Proofs.Ytmllchembkpdkaa
