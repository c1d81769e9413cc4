/-
  What this seat's claims lean on of the texts Dcode, Pcode, DMem, RefVec2.
  Conditions: as each theorem states.
-/
import Derived.WalkKit
import Derived.ProofKit
import Derived.Below
import Derived.Deep.Draws
import Derived.Deep.RegionHeld
import Derived.Test.YtoefibkhlhmlfaaGreatChecked
import Derived.OpenShut
import Derived.ShutString
import Derived.WalkSpells
import Derived.WalkLawsBesides
import Derived.Deep.QuietTactic
import Derived.BigQuiet
import Derived.Laws.Bits64b
import Derived.PlainAid
import Derived.Lib.AppendStr
import Derived.Deep.AppendLies
import Derived.Laws.IdiomStrings
import Derived.Laws.BytesArg
import Derived.Deep.RegionWith
import Derived.Test.YtoefibkhlhmlfaaGreatY9
import Derived.Test.YtoefibkhlhmlfaaGreatY8
import Derived.Laws.AppendOwn
import Derived.Deep.DeepAppendWide
import Derived.Deep.Upon
import Derived.Test.YtoefibkhlhmlfaaGreatY10
namespace Go.Proofs.YtoefibkhlhmlfaaGreat
open Go.RowKit
def rFlag : Rdr Bool := fun s a => (gSet s a 0, cAt s a 0 1, gErr s a 0)
def eFlag (b : Bool) : ByteArray := one (flagByte b)
theorem eFlag_size (b : Bool) : (eFlag b).size = 1 := one_size _
theorem flag_short {s : ByteArray} {a : Int} (h : ¬ a < s.size) : gErr s a 0 = 2 ∧ cAt s a 0 1 = a ∧ gSet s a 0 = false := by
  have hb : cByte s a 0 = 0 := if_neg (fun e => h e.2)
  have he : cErr s a 0 1 = 2 := cErr_short (by decide) (by omega)
  refine ⟨?_, if_neg (by omega), ?_⟩
  · unfold gErr
    rw [hb, if_neg (by decide), he]
  · unfold gSet
    rw [hb]
    rfl
theorem flag_long {s : ByteArray} {a : Int} (h : a < s.size) : cAt s a 0 1 = a + 1 ∧ gErr s a 0 = (if 1 < cByte s a 0 then 13 else 0) := by
  have he : cErr s a 0 1 = 0 := cErr_fit (by decide) (by omega)
  refine ⟨cAt_fit (by decide) (by omega), ?_⟩
  unfold gErr
  rw [he]
  rfl
theorem flag_codec : Codec rFlag (fun _ => True) eFlag where
  place := by
    intro s a h0 h1
    show a ≤ cAt s a 0 1 ∧ cAt s a 0 1 ≤ s.size
    by_cases h : a < s.size
    · rw [(flag_long h).1]; omega
    · rw [(flag_short h).2.1]; omega
  back := by
    intro v t r _
    obtain ⟨h1, h2, h3⟩ := flag_back (rfl : t ++ (one (flagByte v) ++ r) = _)
    show (gSet (t ++ (one (flagByte v) ++ r)) t.size 0, cAt (t ++ (one (flagByte v) ++ r)) t.size 0 1, gErr (t ++ (one (flagByte v) ++ r)) t.size 0) = (v, (t.size : Int) + (eFlag v).size, 0)
    rw [h1, h2, h3, eFlag_size]
    rfl
  read := by
    intro s a h0 h1 h
    refine ⟨trivial, ?_⟩
    have h : gErr s a 0 = 0 := h
    show cut s a (cAt s a 0 1) = eFlag (gSet s a 0)
    by_cases hl : a < s.size
    · obtain ⟨e1, e2⟩ := flag_long hl
      rw [e2] at h
      have hb : ¬ 1 < cByte s a 0 := fun e => by rw [if_pos e] at h; exact absurd h (by decide)
      have hb0 : 0 ≤ cByte s a 0 := by unfold cByte; rw [if_pos ⟨rfl, hl⟩]; omega
      rw [e1, cut_byte h0 hl]
      unfold eFlag gSet
      have : cByte s a 0 = 0 ∨ cByte s a 0 = 1 := by omega
      rcases this with e | e <;> rw [e] <;> rfl
    · rw [(flag_short hl).1] at h
      exact absurd h (by decide)
  app := by
    intro s y a h0 h1
    by_cases hl : a < s.size
    · right
      have hl2 : a < (s ++ y).size := by rw [ByteArray.size_append]; omega
      have eb : cByte (s ++ y) a 0 = cByte s a 0 := by
        unfold cByte
        rw [if_pos ⟨rfl, hl2⟩, if_pos ⟨rfl, hl⟩, byteAt_app (by omega)]
      unfold rFlag
      rw [(flag_long hl).1, (flag_long hl).2, (flag_long hl2).1, (flag_long hl2).2, eb]
      unfold gSet
      rw [eb]
    · exact Or.inl (flag_short hl).1
def dTest (v : List En) (x : En) : Int := if x.n ≤ vCount v x.a then 15 else 0
def rDot (v : List En) : Rdr En := rTest ⟨⟨#[]⟩, 0⟩ (dTest v) (rEnt none)
def zEn : En := ⟨⟨#[]⟩, 0⟩
def rTail (v : List En) (b : Bool) : Rdr En := if b = true then rDot v else rNil zEn
def zCk : Ck := ⟨[], false, zEn⟩
def rRest (v : List En) : Rdr (Bool × En) := rSeq (false, zEn) rFlag (rTail v)
def rClk : Rdr Ck := rMap (fun q : List En × (Bool × En) => (⟨q.1, q.2.1, q.2.2⟩ : Ck)) (rSeq ([], (false, zEn)) rVec rRest)
def eTail (b : Bool) (x : En) : ByteArray := if b = true then eEnt x else ⟨#[]⟩
def eClk (k : Ck) : ByteArray := eVec k.c ++ (eFlag k.d ++ eTail k.d k.x)
def okTail (v : List En) (b : Bool) (x : En) : Prop := if b = true then (cOne none x = 0 ∧ U64 x.n) ∧ dTest v x = 0 else x = zEn
theorem tail_codec (v : List En) (b : Bool) : Codec (rTail v b) (okTail v b) (eTail b) := by
  cases b with
  | true => exact ((ent_codec none).test zEn (dTest v)).weak (fun _ => Iff.rfl) (fun _ _ => rfl)
  | false => exact (Codec.nil zEn).weak (fun _ => Iff.rfl) (fun _ _ => rfl)
def okClk (k : Ck) : Prop := kCheck k = 0 ∧ (∀ x ∈ k.c, U64 x.n) ∧ U64 k.x.n
theorem zEn_of {x : En} (h : x.a.size = 0 ∧ x.n = 0) : x = zEn := En.eq (ByteArray.ext (Array.eq_empty_of_size_eq_zero h.1)) h.2
theorem okClk_iff (k : Ck) : okClk k ↔ okVec k.c ∧ True ∧ okTail k.c k.d k.x := by
  unfold okClk okVec okTail
  rw [right_iff]
  constructor
  · rintro ⟨h, h1, h2⟩
    refine ⟨⟨h.vec, h1⟩, trivial, ?_⟩
    cases hd : k.d with
    | true =>
      obtain ⟨a1, a2⟩ := h.dot hd
      rw [if_pos rfl]
      refine ⟨⟨cOne_zero.2 ⟨a1, fun q e => by cases e⟩, h2⟩, ?_⟩
      unfold dTest
      rw [if_neg (by omega)]
    | false =>
      rw [if_neg (by decide)]
      exact zEn_of (h.plain hd)
  · rintro ⟨⟨h1, h2⟩, _, h3⟩
    cases hd : k.d with
    | true =>
      rw [hd, if_pos rfl] at h3
      obtain ⟨⟨h4, h5⟩, h6⟩ := h3
      refine ⟨⟨h1, ((check_zero _).1 h1).2, (fun e => by rw [hd] at e; cases e), fun _ => ⟨(cOne_zero.1 h4).1, ?_⟩⟩, h2, h5⟩
      unfold dTest at h6
      by_cases h7 : k.x.n ≤ vCount k.c k.x.a
      · rw [if_pos h7] at h6; exact absurd h6 (by decide)
      · omega
    | false =>
      rw [hd, if_neg (by decide)] at h3
      refine ⟨⟨h1, ((check_zero _).1 h1).2, (fun _ => by rw [h3]; exact ⟨rfl, rfl⟩), fun e => by rw [hd] at e; cases e⟩, h2, by rw [h3]; show 0 < 18446744073709551616; omega⟩
theorem clk_codec : Codec rClk okClk eClk := by
  have cR : ∀ v, okVec v → Codec (rRest v) (fun q : Bool × En => True ∧ okTail v q.1 q.2) (fun q => eFlag q.1 ++ eTail q.1 q.2) := fun v _ =>
    flag_codec.seq (okB := fun b => okTail v b) (encB := fun b => eTail b) (false, zEn) (fun b _ => tail_codec v b)
  have c := (vec_codec.seq (okB := fun v (q : Bool × En) => True ∧ okTail v q.1 q.2) (encB := fun _ (q : Bool × En) => eFlag q.1 ++ eTail q.1 q.2) ([], (false, zEn)) cR).map (fun q : List En × (Bool × En) => (⟨q.1, q.2.1, q.2.2⟩ : Ck)) (fun k => (k.c, (k.d, k.x))) (fun _ _ => rfl) (fun _ _ => rfl)
  exact c.weak (fun k => okClk_iff k) (fun _ _ => rfl)
theorem eClk_size {k : Ck} (h : okClk k) : (eClk k).size ≤ 2797 := by
  obtain ⟨h1, _, h3⟩ := (okClk_iff k).1 h
  have h4 := eVec_size h1
  have h5 : (eTail k.d k.x).size ≤ 43 := by
    unfold eTail
    unfold okTail at h3
    cases hd : k.d with
    | true =>
      rw [hd, if_pos rfl] at h3
      rw [if_pos rfl]
      exact eEnt_size (cOne_zero.1 h3.1.1).1.2.1 h3.1.2
    | false => rw [if_neg (by decide)]; exact Nat.zero_le _
  unfold eClk
  rw [ByteArray.size_append, ByteArray.size_append, eFlag_size]
  omega
def pTail (M : Int) (p : ByteArray × Int) (b : Bool) (x : En) : ByteArray × Int := if b = true then pEnt M p x else p
def pClk (M : Int) (p : ByteArray × Int) (k : Ck) : ByteArray × Int := if kCheck k = 0 then pTail M (wFlag M (pVec M p k.c) k.d) k.d k.x else (p.1, pFail p.2 (kCheck k))
def pClks (M : Int) (p : ByteArray × Int) (l : List Ck) : ByteArray × Int := l.foldl (pClk M) p
theorem pClk_yes {M : Int} {p : ByteArray × Int} {k : Ck} (h : kCheck k = 0) : pClk M p k = pTail M (wFlag M (pVec M p k.c) k.d) k.d k.x := if_pos h
theorem pClk_no {M : Int} {p : ByteArray × Int} {k : Ck} (h : kCheck k ≠ 0) : pClk M p k = (p.1, pFail p.2 (kCheck k)) := if_neg h
theorem pTail_yes {M : Int} {p : ByteArray × Int} {x : En} : pTail M p true x = pEnt M p x := rfl
theorem pTail_no {M : Int} {p : ByteArray × Int} {x : En} : pTail M p false x = p := rfl
theorem pClks_take {M : Int} {p : ByteArray × Int} {l : List Ck} {i : Nat} (h : i < l.length) : pClks M p (l.take (i + 1)) = pClk M (pClks M p (l.take i)) l[i] := by
  rw [List.take_succ_eq_append_getElem h]
  unfold pClks
  rw [List.foldl_append]
  rfl
theorem wFlag_err {M : Int} {t : ByteArray} {x : Int} (h : x ≠ 0) (b : Bool) : wFlag M (t, x) b = (t, x) := pOne_err h
theorem pClk_err {M : Int} {t : ByteArray} {x : Int} (h : x ≠ 0) (k : Ck) : pClk M (t, x) k = (t, x) := by
  by_cases h0 : kCheck k = 0
  · rw [pClk_yes h0, pVec_err h, wFlag_err h]
    cases k.d with
    | true => rw [pTail_yes, pEnt_err h]
    | false => rfl
  · rw [pClk_no h0]
    show (t, pFail x (kCheck k)) = _
    unfold pFail
    rw [if_neg h]
theorem pClks_err {M : Int} {t : ByteArray} {x : Int} (h : x ≠ 0) : ∀ l, pClks M (t, x) l = (t, x)
  | [] => rfl
  | k :: l => by
    show pClks M (pClk M (t, x) k) l = _
    rw [pClk_err h]
    exact pClks_err h l
theorem pClks_stop {M : Int} {p : ByteArray × Int} {l : List Ck} {i : Nat} {t : ByteArray} {x : Int} (h : pClks M p (l.take i) = (t, x)) (hx : x ≠ 0) : pClks M p l = (t, x) := by
  have e : l = l.take i ++ l.drop i := (List.take_append_drop i l).symm
  rw [e]
  unfold pClks at h ⊢
  rw [List.foldl_append, h]
  exact pClks_err hx _
theorem pClk_size (M : Int) (q : ByteArray × Int) {k : Ck} (hn : ∀ x ∈ k.c, U64 x.n) (hx : U64 k.x.n) : (pClk M q k).1.size ≤ q.1.size + 3400 := by
  by_cases h0 : kCheck k = 0
  · rw [pClk_yes h0]
    have h1 := pVec_size M q hn
    have h2 := wFlag_size M (pVec M q k.c) k.d
    cases hd : k.d with
    | true =>
      rw [hd] at h2
      have h3 := pEnt_size M (wFlag M (pVec M q k.c) true) (((right_iff k).1 h0).dot hd).1.2.1 hx
      rw [pTail_yes]
      omega
    | false =>
      rw [hd] at h2
      rw [pTail_no]
      omega
  · rw [pClk_no h0]
    show q.1.size ≤ _
    omega
theorem pEnt_fit {M : Int} {t : ByteArray} {x : En} (h : x.a.size ≤ 32) (hm : (t.size : Int) + (eEnt x).size ≤ M) : pEnt M (t, 0) x = (t ++ eEnt x, 0) := by
  have e1 : eEnts [x] = eEnt x := ByteArray.append_empty
  have := pEnts_fit (M := M) (l := [x]) (t := t) (fun y hy => by rw [List.mem_singleton.1 hy]; exact h) (by rw [e1]; exact hm)
  rw [e1] at this
  exact this
theorem pClk_fit {M : Int} {t : ByteArray} {k : Ck} (h : okClk k) (hm : (t.size : Int) + (eClk k).size ≤ M) : pClk M (t, 0) k = (t ++ eClk k, 0) := by
  obtain ⟨h1, _, h3⟩ := (okClk_iff k).1 h
  have hz : (eClk k).size = (eVec k.c).size + (1 + (eTail k.d k.x).size) := by unfold eClk; rw [ByteArray.size_append, ByteArray.size_append, eFlag_size]
  rw [pClk_yes h.1, pVec_fit h1 (by omega)]
  have e1 : wFlag M (t ++ eVec k.c, 0) k.d = (t ++ eVec k.c ++ eFlag k.d, 0) := pOne_yes (by rw [ByteArray.size_append, one_size]; omega)
  rw [e1]
  unfold eClk
  unfold okTail at h3
  cases hd : k.d with
  | true =>
    rw [hd] at hz h3
    rw [if_pos rfl] at h3
    have e2 : eTail true k.x = eEnt k.x := rfl
    rw [e2] at hz
    rw [pTail_yes, pEnt_fit (cOne_zero.1 h3.1.1).1.2.1 (by rw [ByteArray.size_append, ByteArray.size_append, eFlag_size]; omega), e2, ByteArray.append_assoc (a := t), ByteArray.append_assoc (a := t), ByteArray.append_assoc]
  | false =>
    have e2 : eFlag false ++ eTail false k.x = eFlag false := ByteArray.append_empty
    rw [pTail_no, e2, ByteArray.append_assoc]
def encK (k : Ck) : ByteArray × Int := if kCheck k = 0 then (eClk k, 0) else (⟨#[]⟩, kCheck k)
theorem encK_pen {k : Ck} (hn : ∀ x ∈ k.c, U64 x.n) (hx : U64 k.x.n) : (pEnd (pClk 65536 (⟨#[]⟩, 0) k).1 (pClk 65536 (⟨#[]⟩, 0) k).2, (pClk 65536 (⟨#[]⟩, 0) k).2) = encK k := by
  unfold encK
  by_cases h0 : kCheck k = 0
  · have hs := eClk_size ⟨h0, hn, hx⟩
    have e : (⟨#[]⟩ : ByteArray) ++ eClk k = eClk k := ByteArray.empty_append
    rw [if_pos h0, pClk_fit ⟨h0, hn, hx⟩ (by show ((0 : Nat) : Int) + _ ≤ _; omega), e]
    unfold pEnd
    rw [if_pos rfl]
  · rw [if_neg h0, pClk_no h0]
    show (pEnd ⟨#[]⟩ (pFail 0 (kCheck k)), pFail 0 (kCheck k)) = _
    have e : pFail 0 (kCheck k) = kCheck k := if_pos rfl
    rw [e]
    unfold pEnd
    rw [if_neg h0]
end Go.Proofs.YtoefibkhlhmlfaaGreat
namespace Go.Proofs.YtoefibkhlhmlfaaGreat
open Go.RowKit
def rPair (p : Option ByteArray) : Rdr Pr := rMap (fun q : ByteArray × ByteArray => (⟨q.1, q.2⟩ : Pr)) (rSeq (⟨#[]⟩, ⟨#[]⟩) (rActor p) (fun _ => rBlob 32768))
def ePair (x : Pr) : ByteArray := bEncT x.n ++ bEncT x.v
theorem pMax8 : pMax 8 = 8 := rfl
theorem pMax15 : pMax 32768 = 32768 := rfl
theorem pair_ok {p : Option ByteArray} {x : Pr} : qOne p x = 0 ↔ ((x.n.size < 18446744073709551616 ∧ (x.n.size : Int) ≤ pMax 32) ∧ aTest p x.n = 0) ∧ (x.v.size < 18446744073709551616 ∧ (x.v.size : Int) ≤ pMax 32768) := by
  rw [pMax32, pMax15]
  constructor
  · intro h
    obtain ⟨⟨h1, h2, h3⟩, h4⟩ := qOne_zero.1 h
    refine ⟨⟨⟨by omega, by omega⟩, ?_⟩, by omega, by omega⟩
    unfold aTest
    rw [if_neg (by omega)]
    cases p with
    | none => rfl
    | some q => rw [falls_some, h4 q rfl]; rfl
  · rintro ⟨⟨⟨_, h2⟩, h3⟩, _, h4⟩
    refine qOne_zero.2 ⟨⟨?_, by omega, by omega⟩, fun q hq => ?_⟩
    · refine Nat.pos_of_ne_zero fun e => ?_
      unfold aTest at h3; rw [if_pos e] at h3; exact absurd h3 (by decide)
    · subst hq
      cases hb : bl q x.n with
      | true => rfl
      | false =>
        unfold aTest at h3
        by_cases h0 : x.n.size = 0
        · rw [if_pos h0] at h3; exact absurd h3 (by decide)
        · rw [if_neg h0, falls_some, hb, if_pos (by decide)] at h3; exact absurd h3 (by decide)
theorem pair_codec (p : Option ByteArray) : Codec (rPair p) (fun x => qOne p x = 0) ePair := by
  have c1 := (blob_codec 32).test ⟨#[]⟩ (aTest p)
  have c := ((c1.seq (⟨#[]⟩, ⟨#[]⟩) (B := fun _ => rBlob 32768) (okB := fun _ v => v.size < 18446744073709551616 ∧ (v.size : Int) ≤ pMax 32768) (encB := fun _ v => bEncT v) (fun _ _ => blob_codec 32768)).map (fun q : ByteArray × ByteArray => (⟨q.1, q.2⟩ : Pr)) (fun x => (x.n, x.v)) (fun _ _ => rfl) (fun _ _ => rfl))
  exact c.weak (fun v => pair_ok) (fun _ _ => rfl)
def rPairs : Nat → Option ByteArray → Rdr (List Pr)
  | 0, _ => rNil []
  | n + 1, p => rMap (fun q : Pr × List Pr => q.1 :: q.2) (rSeq (⟨⟨#[]⟩, ⟨#[]⟩⟩, []) (rPair p) (fun x => rPairs n (some x.n)))
def ePairs : List Pr → ByteArray
  | [] => ⟨#[]⟩
  | x :: l => ePair x ++ ePairs l
def okPairs (n : Nat) (p : Option ByteArray) (l : List Pr) : Prop := l.length = n ∧ qGo p l = 0
def unconsP (l : List Pr) : Pr × List Pr := match l with
  | [] => (⟨⟨#[]⟩, ⟨#[]⟩⟩, [])
  | x :: r => (x, r)
theorem pairs_codec : ∀ (n : Nat) (p : Option ByteArray), Codec (rPairs n p) (okPairs n p) ePairs
  | 0, p => by
    refine (Codec.nil ([] : List Pr)).weak (fun v => ?_) (fun v hv => ?_)
    · exact ⟨fun h => List.eq_nil_of_length_eq_zero h.1, fun h => by subst h; exact ⟨rfl, rfl⟩⟩
    · rw [hv]; rfl
  | n + 1, p => by
    have c := ((pair_codec p).seq (⟨⟨#[]⟩, ⟨#[]⟩⟩, []) (B := fun x => rPairs n (some x.n)) (okB := fun x => okPairs n (some x.n)) (encB := fun _ => ePairs) (fun x _ => pairs_codec n (some x.n)))
    have c2 := c.map (fun q : Pr × List Pr => q.1 :: q.2) unconsP (fun _ _ => rfl) (fun u hu => by
      cases u with
      | nil => exact absurd (qOne_zero.1 hu.1).1.1 (by decide)
      | cons x r => rfl)
    refine c2.weak (fun v => ?_) (fun v hv => ?_)
    · cases v with
      | nil => exact ⟨fun h => absurd h.1 (by simp), fun h => absurd (qOne_zero.1 h.1).1.1 (by decide)⟩
      | cons x r =>
        show okPairs (n + 1) p (x :: r) ↔ qOne p x = 0 ∧ okPairs n (some x.n) r
        unfold okPairs
        rw [qGo, List.length_cons]
        constructor
        · rintro ⟨h1, h2⟩
          by_cases h0 : qOne p x = 0
          · rw [if_pos h0] at h2
            exact ⟨h0, by omega, h2⟩
          · rw [if_neg h0] at h2; exact absurd h2 h0
        · rintro ⟨h0, h1, h2⟩
          rw [if_pos h0]
          exact ⟨by omega, h2⟩
    · cases v with
      | nil => exact absurd (qOne_zero.1 hv.1).1.1 (by decide)
      | cons x r => rfl
def rPrs : Rdr (List Pr) := rMap (fun q : Nat × List Pr => q.2) (rSeq (0, []) (rCount 8) (fun n => rPairs n none))
def ePrs (l : List Pr) : ByteArray := vText l.length ++ ePairs l
theorem prs_codec : Codec rPrs (fun l => qCheck l = 0) ePrs := by
  have c := (((count_codec 8).seq (0, []) (B := fun n => rPairs n none) (okB := fun n => okPairs n none) (encB := fun _ => ePairs) (fun n _ => pairs_codec n none)).map (fun q : Nat × List Pr => q.2) (fun l => (l.length, l)) (fun v hv => by
    obtain ⟨n, l⟩ := v
    have h : l.length = n := hv.2.1
    rw [h]) (fun _ _ => rfl))
  refine c.weak (fun v => ?_) (fun _ _ => rfl)
  show qCheck v = 0 ↔ (v.length < 18446744073709551616 ∧ (v.length : Int) ≤ pMax 8) ∧ okPairs v.length none v
  unfold okPairs
  rw [pMax8]
  constructor
  · intro h
    obtain ⟨h1, h2⟩ := (qCheck_zero v).1 h
    exact ⟨⟨by omega, by omega⟩, rfl, (qGo_zero v none).2 ⟨h2, fun _ e => by cases e⟩⟩
  · rintro ⟨⟨_, h1⟩, _, h2⟩
    exact (qCheck_zero v).2 ⟨by omega, ((qGo_zero v none).1 h2).1⟩
def liftP (O : List Pr) (r : List Pr × Int × Int) : List Pr × Int × Int := if r.2.2 = 0 then (O ++ r.1, r.2) else ([], r.2)
theorem prs_zero (p : Option ByteArray) (s : ByteArray) (a : Int) (O : List Pr) : liftP O (rPairs 0 p s a) = (O, a, 0) := by
  show liftP O ([], a, 0) = _
  unfold liftP
  rw [if_pos rfl, List.append_nil]
theorem prs_bad {n : Nat} {p : Option ByteArray} {s : ByteArray} {a : Int} (O : List Pr) (h : (rPair p s a).2.2 ≠ 0) : liftP O (rPairs (n + 1) p s a) = ([], (rPair p s a).2) := by
  have e : (rPairs (n + 1) p s a).2 = (rPair p s a).2 := by
    show (rSeq (⟨⟨#[]⟩, ⟨#[]⟩⟩, []) (rPair p) (fun x => rPairs n (some x.n)) s a).2 = _
    rw [rSeq_no h]
  unfold liftP
  rw [if_neg (by rw [e]; exact h), e]
theorem prs_more {n : Nat} {p : Option ByteArray} {s : ByteArray} {a : Int} (O : List Pr) (h : (rPair p s a).2.2 = 0) : liftP O (rPairs (n + 1) p s a) = liftP (O ++ [(rPair p s a).1]) (rPairs n (some (rPair p s a).1.n) s (rPair p s a).2.1) := by
  by_cases h1 : (rPairs n (some (rPair p s a).1.n) s (rPair p s a).2.1).2.2 = 0
  · have e : rPairs (n + 1) p s a = ((rPair p s a).1 :: (rPairs n (some (rPair p s a).1.n) s (rPair p s a).2.1).1, (rPairs n (some (rPair p s a).1.n) s (rPair p s a).2.1).2) := by
      show rMap (fun q : Pr × List Pr => q.1 :: q.2) (rSeq (⟨⟨#[]⟩, ⟨#[]⟩⟩, []) (rPair p) (fun x => rPairs n (some x.n))) s a = _
      unfold rMap
      rw [rSeq_yes h h1]
    unfold liftP
    rw [e, if_pos h1, if_pos h1, List.append_assoc]
    rfl
  · have e : (rPairs (n + 1) p s a).2 = (rPairs n (some (rPair p s a).1.n) s (rPair p s a).2.1).2 := by
      show (rSeq (⟨⟨#[]⟩, ⟨#[]⟩⟩, []) (rPair p) (fun x => rPairs n (some x.n)) s a).2 = _
      rw [rSeq_mid h h1]
    unfold liftP
    rw [e, if_neg h1, if_neg h1]
theorem pr_a {p : Option ByteArray} {s : ByteArray} {a : Int} (h : bErr s a 0 32 ≠ 0) : (rPair p s a).2 = (bAt s a 0 32, bErr s a 0 32) := by
  have e : (rActor p s a).2 = (bAt s a 0 32, bErr s a 0 32) := by unfold rActor; rw [rTest_no (show (rBlob 32 s a).2.2 ≠ 0 from h)]; rfl
  show (rSeq (⟨#[]⟩, ⟨#[]⟩) (rActor p) (fun _ => rBlob 32768) s a).2 = _
  rw [rSeq_no (by rw [e]; exact h), e]
theorem pr_b {p : Option ByteArray} {s : ByteArray} {a : Int} (h : bErr s a 0 32 = 0) (h1 : aTest p (bTxt s a 0 32) ≠ 0) : (rPair p s a).2 = (bAt s a 0 32, aTest p (bTxt s a 0 32)) := by
  have e : (rActor p s a).2 = (bAt s a 0 32, aTest p (bTxt s a 0 32)) := by unfold rActor; rw [rTest_bad (show (rBlob 32 s a).2.2 = 0 from h) h1]; rfl
  show (rSeq (⟨#[]⟩, ⟨#[]⟩) (rActor p) (fun _ => rBlob 32768) s a).2 = _
  rw [rSeq_no (by rw [e]; exact h1), e]
theorem pr_c {p : Option ByteArray} {s : ByteArray} {a : Int} (h : bErr s a 0 32 = 0) (h1 : aTest p (bTxt s a 0 32) = 0) (h2 : bErr s (bAt s a 0 32) 0 32768 ≠ 0) : (rPair p s a).2 = (bAt s (bAt s a 0 32) 0 32768, bErr s (bAt s a 0 32) 0 32768) := by
  have e := actor_yes h h1
  show (rSeq (⟨#[]⟩, ⟨#[]⟩) (rActor p) (fun _ => rBlob 32768) s a).2 = _
  rw [rSeq_mid (by rw [e]) (by rw [e]; exact h2), e]
  rfl
theorem pr_d {p : Option ByteArray} {s : ByteArray} {a : Int} (h : bErr s a 0 32 = 0) (h1 : aTest p (bTxt s a 0 32) = 0) (h2 : bErr s (bAt s a 0 32) 0 32768 = 0) : rPair p s a = (⟨bTxt s a 0 32, bTxt s (bAt s a 0 32) 0 32768⟩, bAt s (bAt s a 0 32) 0 32768, 0) := by
  have e := actor_yes h h1
  show rMap (fun q : ByteArray × ByteArray => (⟨q.1, q.2⟩ : Pr)) (rSeq (⟨#[]⟩, ⟨#[]⟩) (rActor p) (fun _ => rBlob 32768)) s a = _
  unfold rMap
  rw [rSeq_yes (by rw [e]) (by rw [e]; exact h2), e]
  show ((⟨bTxt s a 0 32, bTxt s (bAt s a 0 32) 0 32768⟩ : Pr), bAt s (bAt s a 0 32) 0 32768, bErr s (bAt s a 0 32) 0 32768) = _
  rw [h2]
theorem rprs_a {s : ByteArray} {a : Int} (h : kErr s a 0 8 ≠ 0) : rPrs s a = ([], tAt s a 0, kErr s a 0 8) := by
  show rMap (fun q : Nat × List Pr => q.2) (rSeq (0, []) (rCount 8) (fun n => rPairs n none)) s a = _
  unfold rMap
  rw [rSeq_no (show (rCount 8 s a).2.2 ≠ 0 from h)]
  rfl
theorem rprs_b {s : ByteArray} {a : Int} (h : kErr s a 0 8 = 0) : rPrs s a = liftP [] (rPairs (kNum s a 0 8).toNat none s (tAt s a 0)) := by
  show rMap (fun q : Nat × List Pr => q.2) (rSeq (0, []) (rCount 8) (fun n => rPairs n none)) s a = _
  unfold rMap liftP
  by_cases h1 : (rPairs (kNum s a 0 8).toNat none s (tAt s a 0)).2.2 = 0
  · rw [rSeq_yes (show (rCount 8 s a).2.2 = 0 from h) h1, if_pos h1]; rfl
  · rw [rSeq_mid (show (rCount 8 s a).2.2 = 0 from h) h1, if_neg h1]; rfl
def pPair (M : Int) (q : ByteArray × Int) (x : Pr) : ByteArray × Int := wPut M 32768 (wPut M 32 q x.n) x.v
def pPairs (M : Int) (p : ByteArray × Int) (l : List Pr) : ByteArray × Int := l.foldl (pPair M) p
def pPrs (M : Int) (p : ByteArray × Int) (l : List Pr) : ByteArray × Int := if qCheck l = 0 then pPairs M (pOne M p (vText l.length)) l else (p.1, pFail p.2 (qCheck l))
theorem pPrs_yes {M : Int} {p : ByteArray × Int} {l : List Pr} (h : qCheck l = 0) : pPrs M p l = pPairs M (pOne M p (vText l.length)) l := if_pos h
end Go.Proofs.YtoefibkhlhmlfaaGreat
namespace Go.Proofs.YtoefibkhlhmlfaaGreat
open Go.RowKit
structure DAt (w : World) (g : Nat) (v0 v1 : Value) : Prop where
  blk : ∃ ty, w.heap[g]? = some (.cells #[v0, v1] ty)
section
variable {w : World} {g : Nat} {v0 v1 : Value}
theorem DAt.lt (h : DAt w g v0 v1) : g < w.heap.size := by
  obtain ⟨ty, hk⟩ := h.blk
  exact (Array.getElem?_eq_some_iff.mp hk).1
theorem DAt.cells (h : DAt w g v0 v1) : w.cell? ⟨g, 0, none⟩ = some v0 ∧ w.cell? ⟨g, 1, none⟩ = some v1 ∧ w.frozen? ⟨g, 0, none⟩ = false ∧ w.frozen? ⟨g, 1, none⟩ = false := by
  obtain ⟨ty, hk⟩ := h.blk
  simp [World.cell?, World.frozen?, hk]
theorem DAt.keep {R : Nat → Prop} {w' : World} (h : DAt w g v0 v1) (K : Keep R w w') (hn : ¬ R g) : DAt w' g v0 v1 := by
  obtain ⟨ty, hk⟩ := h.blk
  exact ⟨ty, by rw [K.block g h.lt hn]; exact hk⟩
theorem DAt.keep0 {w' : World} (h : DAt w g v0 v1) (K : Keep0 w w') : DAt w' g v0 v1 := h.keep K (fun f => f)
theorem DAt.new (w : World) (ty : TypeId) (v0 v1 : Value) : DAt (w.alloc (.cells #[v0, v1] ty)) w.heap.size v0 v1 := ⟨ty, (MapKept.heap_alloc w _).1⟩
theorem DAt.set0 (h : DAt w g v0 v1) (u : Value) : DAt (w.setCell ⟨g, 0, none⟩ u) g u v1 := by
  obtain ⟨ty, hk⟩ := h.blk
  exact ⟨ty, by rw [heap_setCell_at hk]; rfl⟩
theorem DAt.set1 (h : DAt w g v0 v1) (u : Value) : DAt (w.setCell ⟨g, 1, none⟩ u) g v0 u := by
  obtain ⟨ty, hk⟩ := h.blk
  exact ⟨ty, by rw [heap_setCell_at hk]; rfl⟩
theorem DAt.put (h : DAt w g v0 v1) (u0 u1 : Value) : DAt ((w.setCell ⟨g, 0, none⟩ u0).setCell ⟨g, 1, none⟩ u1) g u0 u1 := (h.set0 u0).set1 u1
end
theorem put2_keep (w : World) (g : Nat) (u0 u1 : Value) : Keep1 g w ((w.setCell ⟨g, 0, none⟩ u0).setCell ⟨g, 1, none⟩ u1) := ((Keep.refl _ w).set1 _ _).set1 _ _
end Go.Proofs.YtoefibkhlhmlfaaGreat
namespace Go.Proofs.YtoefibkhlhmlfaaGreat
open Go.RowKit
def prv (l : List En) : Nat → Option ByteArray
  | 0 => none
  | k + 1 => (l[k]?).map (·.a)
theorem prv_zero (l : List En) : prv l 0 = none := rfl
theorem prv_succ {l : List En} {k : Nat} (h : k < l.length) : prv l (k + 1) = some l[k].a := by
  show (l[k]?).map (·.a) = _
  rw [List.getElem?_eq_getElem h]
  rfl
theorem go_drop {l : List En} {k : Nat} (hk : k < l.length) : cGo (prv l k) (l.drop k) = if cOne (prv l k) l[k] = 0 then cGo (prv l (k + 1)) (l.drop (k + 1)) else cOne (prv l k) l[k] := by
  rw [List.drop_eq_getElem_cons hk, cGo, prv_succ hk]
theorem cOne_a {p : Option ByteArray} {x : En} (h : 32 < x.a.size) : cOne p x = 3 := if_pos h
theorem cOne_b {p : Option ByteArray} {x : En} (h : x.a.size = 0) : cOne p x = 14 := by unfold cOne; rw [if_neg (by omega), if_pos h]
theorem cOne_c {p : Option ByteArray} {x : En} (h1 : ¬ 32 < x.a.size) (h2 : x.a.size ≠ 0) (h3 : falls p x.a = true) : cOne p x = 6 := by unfold cOne; rw [if_neg h1, if_neg h2, if_pos h3]
theorem cOne_d {p : Option ByteArray} {x : En} (h1 : ¬ 32 < x.a.size) (h2 : x.a.size ≠ 0) (h3 : falls p x.a = false) (h4 : x.n = 0) : cOne p x = 7 := by unfold cOne; rw [if_neg h1, if_neg h2, h3, if_neg (by decide), if_pos h4]
theorem cOne_e {p : Option ByteArray} {x : En} (h1 : ¬ 32 < x.a.size) (h2 : x.a.size ≠ 0) (h3 : falls p x.a = false) (h4 : x.n ≠ 0) : cOne p x = 0 := by unfold cOne; rw [if_neg h1, if_neg h2, h3, if_neg (by decide), if_neg h4]
set_option maxRecDepth 100000 in
set_option maxHeartbeats 4000000 in
theorem rcheck10 (w : World) (ao : Option Addr) (cap : Nat) (l : List En) (hf : Fits l) (hc : EnsAt w ao l) :
    Calls Tryz.prog 40 #[.slice ao l.length cap] w fun e w' => e = .returned (.int .i64 (vCheck l)) ∧ ∃ n, w' = w.drewN n := by
  have HC : Hid (EnsAt w ao l) := hc
  have HF : Hid (∀ x ∈ l, x.a.size ≤ maxLen ∧ x.n < 18446744073709551616) := hf.2
  have hl' : (l.length : Int) ≤ 9223372036854775807 := by have := hf.1; unfold maxLen at this; omega
  clear hc hf
  by_cases h64 : 64 < l.length
  · have i0 : (64 : Int) < l.length := by omega
    have e : vCheck l = 3 := if_pos h64
    rw [e]
    go_enter Tryz.func40, Tryz.ntmps40
    go_wp2
    go_ret
    exact ⟨rfl, 0, rfl⟩
  · have i0 : ¬ (64 : Int) < l.length := by omega
    have e : vCheck l = cGo (prv l 0) (l.drop 0) := if_neg h64
    obtain ⟨r, hr⟩ : ∃ r, vCheck l = r := ⟨_, rfl⟩
    rw [hr]
    rw [e] at hr
    have HR : Hid (cGo (prv l 0) (l.drop 0) = r) := hr
    clear hr e
    go_enter Tryz.func40, Tryz.ntmps40
    go_wp2_with fail
    go_loopw [3] (fun i wr => ∃ (k : Nat), i = .int .i64 (k : Int) ∧ k ≤ l.length ∧ Hid (cGo (prv l k) (l.drop k) = r) ∧ ∃ n, wr = w.drewN n) (fun i _ => l.length - (intOf i).toNat)
    case atStart => exact ⟨0, rfl, by omega, HR, 0, rfl⟩
    case round =>
      obtain ⟨k, rfl, hk, HK, hWr⟩ := hrel
      have kr := keepN hWr
      have HW : Hid (∃ n, wr = w.drewN n) := hWr
      clear hWr
      by_cases hlt : k < l.length
      · have i1 : (k : Int) < l.length := by omega
        obtain ⟨b, off, rfl, p0, p1⟩ := HC.out k hlt
        have x0 := kr.cell p0 (fun f => f)
        have x1 := kr.cell p1 (fun f => f)
        clear p0 p1
        have hm := (HF.out l[k] (List.getElem_mem hlt)).1
        have i2 : (l[k].a.size : Int) ≤ 9223372036854775807 := by unfold maxLen at hm; omega
        have hd := HK.out
        rw [go_drop hlt] at hd
        by_cases h1 : 32 < l[k].a.size
        · rw [cOne_a h1, if_neg (by decide)] at hd
          have HD : Hid ((3 : Int) = r) := hd
          have i3 : (32 : Int) < l[k].a.size := by omega
          clear hd HK kr hm h1 x1
          generalize l[k].a = A at *
          go_wp2
          go_ret
          exact ⟨by rw [← HD.out]; rfl, HW.out⟩
        by_cases h2 : l[k].a.size = 0
        · rw [cOne_b h2, if_neg (by decide)] at hd
          have HD : Hid ((14 : Int) = r) := hd
          have i3 : ¬ (32 : Int) < l[k].a.size := by omega
          have i4 : (l[k].a.size : Int) = 0 := by omega
          clear hd HK kr hm h1 x1
          generalize l[k].a = A at *
          go_wp2
          go_ret
          exact ⟨by rw [← HD.out]; rfl, HW.out⟩
        have i3 : ¬ (32 : Int) < l[k].a.size := by omega
        have i4 : ((l[k].a.size : Int) == 0) = false := beq_eq_false_iff_ne.2 (by omega)
        have i5 : ¬ (l[k].a.size : Int) = 0 := by omega
        cases k with
        | zero =>
          have hp : falls (prv l 0) l[0].a = false := rfl
          have v0 : wr.cell? ⟨b, off, none⟩ = some (.string l[0].a) := x0
          have v1 : wr.cell? ⟨b, off + 1, none⟩ = some (.int .u64 (l[0].n : Int)) := x1
          clear x0 x1
          have HZ : Hid (cGo (prv l 1) (l.drop 1) = r ∨ (l[0].n = 0 ∧ (7 : Int) = r)) := by
            by_cases h4 : l[0].n = 0
            · rw [cOne_d h1 h2 hp h4, if_neg (by decide)] at hd
              exact Or.inr ⟨h4, hd⟩
            · rw [cOne_e h1 h2 hp h4, if_pos rfl] at hd
              exact Or.inl hd
          have HN : Hid (l[0].n ≠ 0 → cGo (prv l 1) (l.drop 1) = r) := fun h => HZ.out.elim (fun e => e) (fun e => absurd e.1 h)
          have HN' : Hid (l[0].n = 0 → (7 : Int) = r) := by
            intro h4
            rw [cOne_d h1 h2 hp h4, if_neg (by decide)] at hd
            exact hd
          clear hd HK kr hm h1 h2 hp HZ HC HF HR
          by_cases h4 : l[0].n = 0
          · have HD : Hid ((7 : Int) = r) := HN'.out h4
            have i6 : (l[0].n : Int) = 0 := by omega
            rw [i6] at v1
            clear HN HN' h4 i6
            generalize l[0].a = A at *
            go_wp2_with fail
            go_quiet (fail)
            go_wp2
            go_ret
            exact ⟨by rw [← HD.out]; rfl, drewN_on HW.out _⟩
          · have i6 : ((l[0].n : Int) == 0) = false := beq_eq_false_iff_ne.2 (by omega)
            have i7 : ¬ (l[0].n : Int) = 0 := by omega
            have HD : Hid (cGo (prv l 1) (l.drop 1) = r) := HN.out h4
            clear HN HN' h4
            generalize l[0].a = A at *
            generalize (l[0].n : Int) = N at *
            go_wp2_with fail
            go_quiet (fail)
            go_wp2
            go_roundw
            case rel => exact ⟨1, by go_num, by omega, HD, drewN_on HW.out _⟩
            case measure => simp [intOf]; omega
        | succ j =>
          have hj : j < l.length := by omega
          obtain ⟨b', off', e', p0, _⟩ := HC.out j hj
          cases e'
          have y0 := kr.cell p0 (fun f => f)
          clear p0
          have hmj := (HF.out l[j] (List.getElem_mem hj)).1
          have HQ : Hid (∀ n, Calls Tryz.prog 50 #[.string l[j].a, .string l[j + 1].a] (wr.drewN n) fun e w' => e = .returned (.bool (bl l[j].a l[j + 1].a)) ∧ ∃ m, w' = wr.drewN m) := fun n => rbelow_q wr n l[j].a l[j + 1].a hmj hm
          have hp : falls (prv l (j + 1)) l[j + 1].a = !bl l[j].a l[j + 1].a := by rw [prv_succ hj, falls_some]
          obtain ⟨q, hq⟩ : ∃ q : Nat, j + 1 = q := ⟨_, rfl⟩
          have i6 : (q : Int) - 1 = (j : Int) := by omega
          have i7 : IntKind.i64.wrap (j : Int) = (j : Int) := by rw [IntKind.wrap_i64]; omega
          have i8 : decide (0 < q) = true := decide_eq_true (by omega)
          have i8' : 0 < q := by omega
          have i9 : (j : Int) < l.length := by omega
          cases hB : bl l[j].a l[j + 1].a with
          | false =>
            rw [hB] at hp HQ
            rw [cOne_c h1 h2 hp, if_neg (by decide)] at hd
            have HD : Hid ((6 : Int) = r) := hd
            clear hd HK kr hm h1 h2 hp HC HF HR hB hmj x1
            subst hq
            have yq := HQ.out
            clear HQ
            generalize l[j + 1].a = A at *
            generalize l[j].a = A' at *
            generalize hq : j + 1 = q at *
            go_wp2_with fail
            go_quiet ((go_at_call 50; exact yq _))
            go_wp2
            go_ret
            exact ⟨by rw [← HD.out]; rfl, drewN_on HW.out _⟩
          | true =>
            rw [hB] at hp HQ
            have HN : Hid (l[j + 1].n ≠ 0 → cGo (prv l (j + 2)) (l.drop (j + 2)) = r) := by
              intro h4
              rw [cOne_e h1 h2 hp h4, if_pos rfl] at hd
              exact hd
            have HN' : Hid (l[j + 1].n = 0 → (7 : Int) = r) := by
              intro h4
              rw [cOne_d h1 h2 hp h4, if_neg (by decide)] at hd
              exact hd
            have yq := HQ.out
            clear hd HK kr hm h1 h2 hp HC HF HR hB hmj HQ
            subst hq
            by_cases h4 : l[j + 1].n = 0
            · have HD : Hid ((7 : Int) = r) := HN'.out h4
              have i10 : (l[j + 1].n : Int) = 0 := by omega
              rw [i10] at x1
              clear HN HN' h4 i10
              generalize l[j + 1].a = A at *
              generalize l[j].a = A' at *
              generalize hq : j + 1 = q at *
              go_wp2_with fail
              go_quiet ((go_at_call 50; exact yq _))
              go_wp2
              go_ret
              exact ⟨by rw [← HD.out]; rfl, drewN_on HW.out _⟩
            · have i10 : ((l[j + 1].n : Int) == 0) = false := beq_eq_false_iff_ne.2 (by omega)
              have i11 : ¬ (l[j + 1].n : Int) = 0 := by omega
              have HD : Hid (cGo (prv l (j + 2)) (l.drop (j + 2)) = r) := HN.out h4
              clear HN HN' h4
              generalize l[j + 1].a = A at *
              generalize l[j].a = A' at *
              generalize (l[j + 1].n : Int) = N at *
              have HQ2 : Hid (cGo (prv l (j + 1 + 1)) (l.drop (j + 1 + 1)) = r) := HD
              clear HD
              generalize hq : j + 1 = q at *
              go_wp2_with fail
              go_quiet ((go_at_call 50; exact yq _))
              go_wp2
              go_roundw
              case rel => exact ⟨q + 1, by go_num, by omega, HQ2, drewN_on HW.out _⟩
              case measure => simp [intOf]; omega
      · have i1 : ¬ (k : Int) < l.length := by omega
        have hd := HK.out
        rw [List.drop_eq_nil_of_le (by omega), cGo] at hd
        have HD : Hid ((0 : Int) = r) := hd
        clear hd HK kr
        go_wp2
        go_ret
        exact ⟨by rw [← HD.out]; rfl, HW.out⟩
end Go.Proofs.YtoefibkhlhmlfaaGreat
