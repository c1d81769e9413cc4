/-
  What this seat's claims lean on of the texts Dcode, Pairs.
  Conditions: as each theorem states.
-/
import Derived.WalkKit
import Derived.ProofKit
import Derived.Below
import Derived.Deep.Draws
import Derived.Deep.RegionHeld
import Derived.Test.YtfpahdnhnhkcdaaChecked
import Derived.OpenShut
import Derived.ShutString
import Derived.WalkSpells
import Derived.WalkLawsBesides
import Derived.Deep.QuietTactic
import Derived.BigQuiet
import Derived.Laws.Bits64b
import Derived.PlainAid
import Derived.Lib.AppendStr
import Derived.Deep.AppendLies
import Derived.Laws.IdiomStrings
import Derived.Laws.BytesArg
import Derived.Deep.RegionWith
import Derived.Test.YtfpahdnhnhkcdaaZ7
import Derived.Test.YtfpahdnhnhkcdaaZ6
namespace Go.Proofs.Ytfpahdnhnhkcdaa
open Go.RowKit
def rFlag : Rdr Bool := fun s a => (gSet s a 0, cAt s a 0 1, gErr s a 0)
def eFlag (b : Bool) : ByteArray := one (flagByte b)
theorem eFlag_size (b : Bool) : (eFlag b).size = 1 := one_size _
theorem flag_short {s : ByteArray} {a : Int} (h : ¬ a < s.size) : gErr s a 0 = 2 ∧ cAt s a 0 1 = a ∧ gSet s a 0 = false := by
  have hb : cByte s a 0 = 0 := if_neg (fun e => h e.2)
  have he : cErr s a 0 1 = 2 := cErr_short (by decide) (by omega)
  refine ⟨?_, if_neg (by omega), ?_⟩
  · unfold gErr
    rw [hb, if_neg (by decide), he]
  · unfold gSet
    rw [hb]
    rfl
theorem flag_long {s : ByteArray} {a : Int} (h : a < s.size) : cAt s a 0 1 = a + 1 ∧ gErr s a 0 = (if 1 < cByte s a 0 then 13 else 0) := by
  have he : cErr s a 0 1 = 0 := cErr_fit (by decide) (by omega)
  refine ⟨cAt_fit (by decide) (by omega), ?_⟩
  unfold gErr
  rw [he]
  rfl
theorem flag_codec : Codec rFlag (fun _ => True) eFlag where
  place := by
    intro s a h0 h1
    show a ≤ cAt s a 0 1 ∧ cAt s a 0 1 ≤ s.size
    by_cases h : a < s.size
    · rw [(flag_long h).1]; omega
    · rw [(flag_short h).2.1]; omega
  back := by
    intro v t r _
    obtain ⟨h1, h2, h3⟩ := flag_back (rfl : t ++ (one (flagByte v) ++ r) = _)
    show (gSet (t ++ (one (flagByte v) ++ r)) t.size 0, cAt (t ++ (one (flagByte v) ++ r)) t.size 0 1, gErr (t ++ (one (flagByte v) ++ r)) t.size 0) = (v, (t.size : Int) + (eFlag v).size, 0)
    rw [h1, h2, h3, eFlag_size]
    rfl
  read := by
    intro s a h0 h1 h
    refine ⟨trivial, ?_⟩
    have h : gErr s a 0 = 0 := h
    show cut s a (cAt s a 0 1) = eFlag (gSet s a 0)
    by_cases hl : a < s.size
    · obtain ⟨e1, e2⟩ := flag_long hl
      rw [e2] at h
      have hb : ¬ 1 < cByte s a 0 := fun e => by rw [if_pos e] at h; exact absurd h (by decide)
      have hb0 : 0 ≤ cByte s a 0 := by unfold cByte; rw [if_pos ⟨rfl, hl⟩]; omega
      rw [e1, cut_byte h0 hl]
      unfold eFlag gSet
      have : cByte s a 0 = 0 ∨ cByte s a 0 = 1 := by omega
      rcases this with e | e <;> rw [e] <;> rfl
    · rw [(flag_short hl).1] at h
      exact absurd h (by decide)
  app := by
    intro s y a h0 h1
    by_cases hl : a < s.size
    · right
      have hl2 : a < (s ++ y).size := by rw [ByteArray.size_append]; omega
      have eb : cByte (s ++ y) a 0 = cByte s a 0 := by
        unfold cByte
        rw [if_pos ⟨rfl, hl2⟩, if_pos ⟨rfl, hl⟩, byteAt_app (by omega)]
      unfold rFlag
      rw [(flag_long hl).1, (flag_long hl).2, (flag_long hl2).1, (flag_long hl2).2, eb]
      unfold gSet
      rw [eb]
    · exact Or.inl (flag_short hl).1
def dTest (v : List En) (x : En) : Int := if x.n ≤ vCount v x.a then 15 else 0
def rDot (v : List En) : Rdr En := rTest ⟨⟨#[]⟩, 0⟩ (dTest v) (rEnt none)
def zEn : En := ⟨⟨#[]⟩, 0⟩
def rTail (v : List En) (b : Bool) : Rdr En := if b = true then rDot v else rNil zEn
def zCk : Ck := ⟨[], false, zEn⟩
def rRest (v : List En) : Rdr (Bool × En) := rSeq (false, zEn) rFlag (rTail v)
def rClk : Rdr Ck := rMap (fun q : List En × (Bool × En) => (⟨q.1, q.2.1, q.2.2⟩ : Ck)) (rSeq ([], (false, zEn)) rVec rRest)
def eTail (b : Bool) (x : En) : ByteArray := if b = true then eEnt x else ⟨#[]⟩
def eClk (k : Ck) : ByteArray := eVec k.c ++ (eFlag k.d ++ eTail k.d k.x)
def okTail (v : List En) (b : Bool) (x : En) : Prop := if b = true then (cOne none x = 0 ∧ U64 x.n) ∧ dTest v x = 0 else x = zEn
theorem tail_codec (v : List En) (b : Bool) : Codec (rTail v b) (okTail v b) (eTail b) := by
  cases b with
  | true => exact ((ent_codec none).test zEn (dTest v)).weak (fun _ => Iff.rfl) (fun _ _ => rfl)
  | false => exact (Codec.nil zEn).weak (fun _ => Iff.rfl) (fun _ _ => rfl)
def okClk (k : Ck) : Prop := kCheck k = 0 ∧ (∀ x ∈ k.c, U64 x.n) ∧ U64 k.x.n
theorem zEn_of {x : En} (h : x.a.size = 0 ∧ x.n = 0) : x = zEn := En.eq (ByteArray.ext (Array.eq_empty_of_size_eq_zero h.1)) h.2
theorem okClk_iff (k : Ck) : okClk k ↔ okVec k.c ∧ True ∧ okTail k.c k.d k.x := by
  unfold okClk okVec okTail
  rw [right_iff]
  constructor
  · rintro ⟨h, h1, h2⟩
    refine ⟨⟨h.vec, h1⟩, trivial, ?_⟩
    cases hd : k.d with
    | true =>
      obtain ⟨a1, a2⟩ := h.dot hd
      rw [if_pos rfl]
      refine ⟨⟨cOne_zero.2 ⟨a1, fun q e => by cases e⟩, h2⟩, ?_⟩
      unfold dTest
      rw [if_neg (by omega)]
    | false =>
      rw [if_neg (by decide)]
      exact zEn_of (h.plain hd)
  · rintro ⟨⟨h1, h2⟩, _, h3⟩
    cases hd : k.d with
    | true =>
      rw [hd, if_pos rfl] at h3
      obtain ⟨⟨h4, h5⟩, h6⟩ := h3
      refine ⟨⟨h1, ((check_zero _).1 h1).2, (fun e => by rw [hd] at e; cases e), fun _ => ⟨(cOne_zero.1 h4).1, ?_⟩⟩, h2, h5⟩
      unfold dTest at h6
      by_cases h7 : k.x.n ≤ vCount k.c k.x.a
      · rw [if_pos h7] at h6; exact absurd h6 (by decide)
      · omega
    | false =>
      rw [hd, if_neg (by decide)] at h3
      refine ⟨⟨h1, ((check_zero _).1 h1).2, (fun _ => by rw [h3]; exact ⟨rfl, rfl⟩), fun e => by rw [hd] at e; cases e⟩, h2, by rw [h3]; show 0 < 18446744073709551616; omega⟩
theorem clk_codec : Codec rClk okClk eClk := by
  have cR : ∀ v, okVec v → Codec (rRest v) (fun q : Bool × En => True ∧ okTail v q.1 q.2) (fun q => eFlag q.1 ++ eTail q.1 q.2) := fun v _ =>
    flag_codec.seq (okB := fun b => okTail v b) (encB := fun b => eTail b) (false, zEn) (fun b _ => tail_codec v b)
  have c := (vec_codec.seq (okB := fun v (q : Bool × En) => True ∧ okTail v q.1 q.2) (encB := fun _ (q : Bool × En) => eFlag q.1 ++ eTail q.1 q.2) ([], (false, zEn)) cR).map (fun q : List En × (Bool × En) => (⟨q.1, q.2.1, q.2.2⟩ : Ck)) (fun k => (k.c, (k.d, k.x))) (fun _ _ => rfl) (fun _ _ => rfl)
  exact c.weak (fun k => okClk_iff k) (fun _ _ => rfl)
def pTail (M : Int) (p : ByteArray × Int) (b : Bool) (x : En) : ByteArray × Int := if b = true then pEnt M p x else p
def pClk (M : Int) (p : ByteArray × Int) (k : Ck) : ByteArray × Int := if kCheck k = 0 then pTail M (wFlag M (pVec M p k.c) k.d) k.d k.x else (p.1, pFail p.2 (kCheck k))
def pClks (M : Int) (p : ByteArray × Int) (l : List Ck) : ByteArray × Int := l.foldl (pClk M) p
theorem pClk_yes {M : Int} {p : ByteArray × Int} {k : Ck} (h : kCheck k = 0) : pClk M p k = pTail M (wFlag M (pVec M p k.c) k.d) k.d k.x := if_pos h
theorem pClk_no {M : Int} {p : ByteArray × Int} {k : Ck} (h : kCheck k ≠ 0) : pClk M p k = (p.1, pFail p.2 (kCheck k)) := if_neg h
theorem pTail_yes {M : Int} {p : ByteArray × Int} {x : En} : pTail M p true x = pEnt M p x := rfl
theorem pTail_no {M : Int} {p : ByteArray × Int} {x : En} : pTail M p false x = p := rfl
theorem pClks_take {M : Int} {p : ByteArray × Int} {l : List Ck} {i : Nat} (h : i < l.length) : pClks M p (l.take (i + 1)) = pClk M (pClks M p (l.take i)) l[i] := by
  rw [List.take_succ_eq_append_getElem h]
  unfold pClks
  rw [List.foldl_append]
  rfl
theorem wFlag_err {M : Int} {t : ByteArray} {x : Int} (h : x ≠ 0) (b : Bool) : wFlag M (t, x) b = (t, x) := pOne_err h
theorem pClk_err {M : Int} {t : ByteArray} {x : Int} (h : x ≠ 0) (k : Ck) : pClk M (t, x) k = (t, x) := by
  by_cases h0 : kCheck k = 0
  · rw [pClk_yes h0, pVec_err h, wFlag_err h]
    cases k.d with
    | true => rw [pTail_yes, pEnt_err h]
    | false => rfl
  · rw [pClk_no h0]
    show (t, pFail x (kCheck k)) = _
    unfold pFail
    rw [if_neg h]
theorem pClks_err {M : Int} {t : ByteArray} {x : Int} (h : x ≠ 0) : ∀ l, pClks M (t, x) l = (t, x)
  | [] => rfl
  | k :: l => by
    show pClks M (pClk M (t, x) k) l = _
    rw [pClk_err h]
    exact pClks_err h l
theorem pClks_stop {M : Int} {p : ByteArray × Int} {l : List Ck} {i : Nat} {t : ByteArray} {x : Int} (h : pClks M p (l.take i) = (t, x)) (hx : x ≠ 0) : pClks M p l = (t, x) := by
  have e : l = l.take i ++ l.drop i := (List.take_append_drop i l).symm
  rw [e]
  unfold pClks at h ⊢
  rw [List.foldl_append, h]
  exact pClks_err hx _
theorem pClk_size (M : Int) (q : ByteArray × Int) {k : Ck} (hn : ∀ x ∈ k.c, U64 x.n) (hx : U64 k.x.n) : (pClk M q k).1.size ≤ q.1.size + 3400 := by
  by_cases h0 : kCheck k = 0
  · rw [pClk_yes h0]
    have h1 := pVec_size M q hn
    have h2 := wFlag_size M (pVec M q k.c) k.d
    cases hd : k.d with
    | true =>
      rw [hd] at h2
      have h3 := pEnt_size M (wFlag M (pVec M q k.c) true) (((right_iff k).1 h0).dot hd).1.2.1 hx
      rw [pTail_yes]
      omega
    | false =>
      rw [hd] at h2
      rw [pTail_no]
      omega
  · rw [pClk_no h0]
    show q.1.size ≤ _
    omega
end Go.Proofs.Ytfpahdnhnhkcdaa
namespace Go.Proofs.Ytfpahdnhnhkcdaa
open Go.RowKit
structure Pr where
  n : ByteArray
  v : ByteArray
theorem Pr.eq {x y : Pr} (h1 : x.n = y.n) (h2 : x.v = y.v) : x = y := by cases x; cases y; cases h1; cases h2; rfl
def Pr.ok (x : Pr) : Prop := 0 < x.n.size ∧ x.n.size ≤ 32 ∧ x.v.size ≤ 32768
def GoodP (l : List Pr) : Prop := (∀ x ∈ l, x.ok) ∧ l.Pairwise (fun x y => bl x.n y.n = true)
def qOne (p : Option ByteArray) (x : Pr) : Int := if 32 < x.n.size then 3 else if x.n.size = 0 then 14 else if falls p x.n = true then 6 else if 32768 < x.v.size then 3 else 0
def qGo : Option ByteArray → List Pr → Int
  | _, [] => 0
  | p, x :: l => if qOne p x = 0 then qGo (some x.n) l else qOne p x
def qCheck (l : List Pr) : Int := if 8 < l.length then 3 else qGo none l
theorem qOne_zero {p : Option ByteArray} {x : Pr} : qOne p x = 0 ↔ x.ok ∧ ∀ q, p = some q → bl q x.n = true := by
  unfold qOne Pr.ok
  constructor
  · intro h
    by_cases h1 : 32 < x.n.size
    · rw [if_pos h1] at h; exact absurd h (by decide)
    rw [if_neg h1] at h
    by_cases h2 : x.n.size = 0
    · rw [if_pos h2] at h; exact absurd h (by decide)
    rw [if_neg h2] at h
    by_cases h3 : falls p x.n = true
    · rw [if_pos h3] at h; exact absurd h (by decide)
    rw [if_neg h3] at h
    by_cases h4 : 32768 < x.v.size
    · rw [if_pos h4] at h; exact absurd h (by decide)
    refine ⟨⟨by omega, by omega, by omega⟩, fun q e => ?_⟩
    subst e
    rw [falls_some] at h3
    simpa using h3
  · rintro ⟨⟨h1, h2, h3⟩, h4⟩
    rw [if_neg (by omega), if_neg (by omega)]
    cases p with
    | none => rw [falls_none, if_neg (by decide), if_neg (by omega)]
    | some q => rw [falls_some, h4 q rfl, if_neg (by decide), if_neg (by omega)]
theorem qGo_zero : ∀ (l : List Pr) (p : Option ByteArray), qGo p l = 0 ↔ GoodP l ∧ ∀ q, p = some q → ∀ x ∈ l, bl q x.n = true
  | [], p => ⟨fun _ => ⟨⟨(fun _ h => by cases h), List.Pairwise.nil⟩, (fun _ _ _ h => by cases h)⟩, fun _ => rfl⟩
  | x :: l, p => by
    rw [qGo]
    constructor
    · intro h
      by_cases h0 : qOne p x = 0
      · rw [if_pos h0] at h
        obtain ⟨⟨g1, g2⟩, g3⟩ := (qGo_zero l (some x.n)).1 h
        obtain ⟨o1, o2⟩ := qOne_zero.1 h0
        refine ⟨⟨?_, List.pairwise_cons.2 ⟨fun y hy => g3 x.n rfl y hy, g2⟩⟩, fun q e y hy => ?_⟩
        · intro y hy
          rcases List.mem_cons.1 hy with rfl | hy
          · exact o1
          · exact g1 y hy
        · rcases List.mem_cons.1 hy with rfl | hy
          · exact o2 q e
          · exact bl_trans (o2 q e) (g3 x.n rfl y hy)
      · rw [if_neg h0] at h
        exact absurd h h0
    · rintro ⟨⟨g1, g2⟩, g3⟩
      obtain ⟨p1, p2⟩ := List.pairwise_cons.1 g2
      have h0 : qOne p x = 0 := qOne_zero.2 ⟨g1 x List.mem_cons_self, fun q e => g3 q e x List.mem_cons_self⟩
      rw [if_pos h0]
      exact (qGo_zero l (some x.n)).2 ⟨⟨fun y hy => g1 y (List.mem_cons_of_mem _ hy), p2⟩, fun q e y hy => by cases e; exact p1 y hy⟩
theorem qCheck_zero (l : List Pr) : qCheck l = 0 ↔ l.length ≤ 8 ∧ GoodP l := by
  unfold qCheck
  by_cases h : 8 < l.length
  · rw [if_pos h]
    exact ⟨fun e => absurd e (by decide), fun e => absurd e.1 (by omega)⟩
  · rw [if_neg h, qGo_zero]
    exact ⟨fun e => ⟨by omega, e.1⟩, fun e => ⟨e.2, fun q h => by cases h⟩⟩
theorem GoodP.nil : GoodP [] := ⟨(fun _ h => by cases h), List.Pairwise.nil⟩
theorem GoodP.cons {x : Pr} {l : List Pr} (h1 : x.ok) (h2 : GoodP l) (h3 : ∀ y ∈ l, bl x.n y.n = true) : GoodP (x :: l) :=
  ⟨(fun y hy => (List.mem_cons.1 hy).elim (fun e => e ▸ h1) (fun h => h2.1 y h)), List.pairwise_cons.2 ⟨h3, h2.2⟩⟩
theorem one_okP {m : Pr} : qCheck [m] = 0 ↔ m.ok := by
  rw [qCheck_zero]
  constructor
  · rintro ⟨_, h⟩
    exact h.1 m List.mem_cons_self
  · intro h
    exact ⟨by show 1 ≤ 8; omega, GoodP.cons h GoodP.nil (fun _ h => by cases h)⟩
end Go.Proofs.Ytfpahdnhnhkcdaa
