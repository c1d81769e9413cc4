/-
  What this seat's claims lean on of the texts VcPen, Dotted, Dcode.
  Conditions: as each theorem states.
-/
import Derived.WalkKit
import Derived.ProofKit
import Derived.Below
import Derived.Deep.Draws
import Derived.Deep.RegionHeld
import Derived.Test.YteonkfedgopdiaaGreatChecked
import Derived.OpenShut
import Derived.ShutString
import Derived.WalkSpells
import Derived.WalkLawsBesides
import Derived.Deep.QuietTactic
import Derived.BigQuiet
import Derived.Laws.Bits64b
import Derived.PlainAid
import Derived.Lib.AppendStr
import Derived.Deep.AppendLies
import Derived.Laws.IdiomStrings
import Derived.Laws.BytesArg
import Derived.Deep.RegionWith
import Derived.Test.YteonkfedgopdiaaGreatZ6
namespace Go.Proofs.YteonkfedgopdiaaGreat
open Go.RowKit
def pEnt (M : Int) (q : ByteArray × Int) (x : En) : ByteArray × Int := pOne M (wPut M 32 q x.a) (vText x.n)
def pEnts (M : Int) (p : ByteArray × Int) (l : List En) : ByteArray × Int := l.foldl (pEnt M) p
def pVec (M : Int) (p : ByteArray × Int) (v : List En) : ByteArray × Int := if vCheck v = 0 then pEnts M (pOne M p (vText v.length)) v else (p.1, pFail p.2 (vCheck v))
def pVecs (M : Int) (p : ByteArray × Int) (l : List (List En)) : ByteArray × Int := l.foldl (pVec M) p
theorem pEnts_take {M : Int} {p : ByteArray × Int} {l : List En} {k : Nat} (h : k < l.length) : pEnts M p (l.take (k + 1)) = pEnt M (pEnts M p (l.take k)) l[k] := by
  rw [List.take_succ_eq_append_getElem h]
  unfold pEnts
  rw [List.foldl_append]
  rfl
theorem pVecs_take {M : Int} {p : ByteArray × Int} {l : List (List En)} {k : Nat} (h : k < l.length) : pVecs M p (l.take (k + 1)) = pVec M (pVecs M p (l.take k)) l[k] := by
  rw [List.take_succ_eq_append_getElem h]
  unfold pVecs
  rw [List.foldl_append]
  rfl
theorem pVec_yes {M : Int} {p : ByteArray × Int} {v : List En} (h : vCheck v = 0) : pVec M p v = pEnts M (pOne M p (vText v.length)) v := if_pos h
theorem pVec_no {M : Int} {p : ByteArray × Int} {v : List En} (h : vCheck v ≠ 0) : pVec M p v = (p.1, pFail p.2 (vCheck v)) := if_neg h
theorem pEnt_err {M : Int} {t : ByteArray} {x : Int} (h : x ≠ 0) (y : En) : pEnt M (t, x) y = (t, x) := by
  unfold pEnt
  rw [wPut_err h, pOne_err h]
theorem pEnts_err {M : Int} {t : ByteArray} {x : Int} (h : x ≠ 0) : ∀ l, pEnts M (t, x) l = (t, x)
  | [] => rfl
  | y :: l => by
    show pEnts M (pEnt M (t, x) y) l = _
    rw [pEnt_err h]
    exact pEnts_err h l
theorem pVec_err {M : Int} {t : ByteArray} {x : Int} (h : x ≠ 0) (v : List En) : pVec M (t, x) v = (t, x) := by
  by_cases h0 : vCheck v = 0
  · rw [pVec_yes h0, pOne_err h, pEnts_err h]
  · rw [pVec_no h0]
    show (t, pFail x (vCheck v)) = _
    unfold pFail
    rw [if_neg h]
theorem pVecs_err {M : Int} {t : ByteArray} {x : Int} (h : x ≠ 0) : ∀ l, pVecs M (t, x) l = (t, x)
  | [] => rfl
  | v :: l => by
    show pVecs M (pVec M (t, x) v) l = _
    rw [pVec_err h]
    exact pVecs_err h l
theorem pVecs_stop {M : Int} {p : ByteArray × Int} {l : List (List En)} {k : Nat} {t : ByteArray} {x : Int} (h : pVecs M p (l.take k) = (t, x)) (hx : x ≠ 0) : pVecs M p l = (t, x) := by
  have e : l = l.take k ++ l.drop k := (List.take_append_drop k l).symm
  rw [e]
  unfold pVecs at h ⊢
  rw [List.foldl_append, h]
  exact pVecs_err hx _
theorem pEnt_size (M : Int) (q : ByteArray × Int) {x : En} (h : x.a.size ≤ 32) (hn : U64 x.n) : (pEnt M q x).1.size ≤ q.1.size + 52 := by
  have h1 := pOne_size M (wPut M 32 q x.a) (vText x.n)
  have h2 := wPut_size M 32 q x.a (by omega)
  have h3 := (vText_le hn).2
  unfold pEnt
  omega
theorem pEnts_size (M : Int) : ∀ (l : List En) (q : ByteArray × Int), (∀ x ∈ l, x.a.size ≤ 32 ∧ U64 x.n) → (pEnts M q l).1.size ≤ q.1.size + 52 * l.length
  | [], _, _ => by show _ ≤ _ + 52 * 0; exact Nat.le_refl _
  | x :: l, q, h => by
    have h1 := pEnt_size M q (h x List.mem_cons_self).1 (h x List.mem_cons_self).2
    have h2 := pEnts_size M l (pEnt M q x) (fun y hy => h y (List.mem_cons_of_mem _ hy))
    show (pEnts M (pEnt M q x) l).1.size ≤ _
    rw [List.length_cons]
    omega
theorem pVec_size (M : Int) (q : ByteArray × Int) {v : List En} (hn : ∀ x ∈ v, U64 x.n) : (pVec M q v).1.size ≤ q.1.size + 3338 := by
  by_cases h0 : vCheck v = 0
  · obtain ⟨h1, h2⟩ := (check_zero v).1 h0
    have h3 := pEnts_size M v (pOne M q (vText v.length)) (fun x hx => ⟨(h2.1 x hx).2.1, hn x hx⟩)
    have h4 := pOne_size M q (vText v.length)
    have h5 := (vText_le (n := v.length) (by omega)).2
    rw [pVec_yes h0]
    omega
  · rw [pVec_no h0]
    show q.1.size ≤ _
    omega
theorem pEnts_fit {M : Int} : ∀ {l : List En} {t : ByteArray}, (∀ x ∈ l, x.a.size ≤ 32) → (t.size : Int) + (eEnts l).size ≤ M → pEnts M (t, 0) l = (t ++ eEnts l, 0)
  | [], t, _, _ => by
    have e : t ++ eEnts [] = t := ByteArray.append_empty
    rw [e]
    rfl
  | x :: l, t, h, hm => by
    have hx := h x List.mem_cons_self
    have hz : (eEnts (x :: l)).size = (vText x.a.size).size + x.a.size + (vText x.n).size + (eEnts l).size := by
      show ((vText x.a.size ++ x.a) ++ vText x.n ++ eEnts l).size = _
      rw [ByteArray.size_append, ByteArray.size_append, ByteArray.size_append]
    have hp : pMax 32 = 32 := rfl
    have e1 : pEnt M (t, 0) x = (t ++ eEnt x, 0) := by
      unfold pEnt
      rw [wPut_fit (by rw [hp]; omega), pOne_yes (by omega), pOne_yes (by rw [ByteArray.size_append]; omega), pOne_yes (by rw [ByteArray.size_append, ByteArray.size_append]; omega)]
      unfold eEnt bEncT
      rw [ByteArray.append_assoc, ByteArray.append_assoc, ByteArray.append_assoc]
    show pEnts M (pEnt M (t, 0) x) l = _
    rw [e1, pEnts_fit (fun y hy => h y (List.mem_cons_of_mem _ hy)) (by
      have : (eEnt x).size = (vText x.a.size).size + x.a.size + (vText x.n).size := by
        show ((vText x.a.size ++ x.a) ++ vText x.n).size = _
        rw [ByteArray.size_append, ByteArray.size_append]
      rw [ByteArray.size_append]
      omega), ByteArray.append_assoc]
    rfl
theorem pVec_fit {M : Int} {t : ByteArray} {v : List En} (h : okVec v) (hm : (t.size : Int) + (eVec v).size ≤ M) : pVec M (t, 0) v = (t ++ eVec v, 0) := by
  obtain ⟨h1, h2⟩ := (check_zero v).1 h.1
  have hz : (eVec v).size = (vText v.length).size + (eEnts v).size := ByteArray.size_append
  rw [pVec_yes h.1, pOne_yes (by omega), pEnts_fit (fun x hx => (h2.1 x hx).2.1) (by rw [ByteArray.size_append]; omega), ByteArray.append_assoc]
  rfl
def decV (s : ByteArray) : List En × Int := if cEnd s (rVec s 0).2.1 (rVec s 0).2.2 = 0 then ((rVec s 0).1, 0) else ([], cEnd s (rVec s 0).2.1 (rVec s 0).2.2)
theorem dec_enc {v : List En} (h : okVec v) : decV (eVec v) = (v, 0) := by
  have h1 := vec_codec.only h
  unfold decV
  rw [h1]
  have e : cEnd (eVec v) ((eVec v).size : Int) 0 = 0 := if_neg (by omega)
  show (if cEnd (eVec v) ((eVec v).size : Int) 0 = 0 then (v, (0 : Int)) else _) = _
  rw [if_pos e]
theorem dec_zero {s : ByteArray} (h : (decV s).2 = 0) : okVec (decV s).1 ∧ eVec (decV s).1 = s := by
  unfold decV at h ⊢
  by_cases h0 : cEnd s (rVec s 0).2.1 (rVec s 0).2.2 = 0
  · rw [if_pos h0]
    have hp := (vec_codec.place (s := s) (a := 0) (by decide) (by omega)).2
    unfold cEnd cFail at h0
    by_cases hl : (rVec s 0).2.1 < s.size
    · rw [if_pos hl] at h0
      split at h0
      · exact absurd h0 (by decide)
      · rename_i hx; exact absurd h0 hx
    · rw [if_neg hl] at h0
      obtain ⟨h1, h2⟩ := vec_codec.all h0 (by omega)
      exact ⟨h1, h2.symm⟩
  · rw [if_neg h0] at h
    exact absurd h h0
theorem dec_short {v : List En} (h : okVec v) {i : Nat} (hi : i < (eVec v).size) : (decV ((eVec v).extract 0 i)).2 = 2 := by
  have e : (eVec v).extract 0 i ++ (eVec v).extract i (eVec v).size = eVec v := by
    have e1 := cut_head (s := eVec v) (j := (i : Int)) (by omega) (by omega)
    have e2 : cut (eVec v) 0 (i : Int) = (eVec v).extract 0 i := rfl
    have e3 : cut (eVec v) (i : Int) (eVec v).size = (eVec v).extract i (eVec v).size := rfl
    rw [e2, e3] at e1
    exact e1.symm
  have h2 := vec_codec.short h e (by rw [ByteArray.size_extract]; omega)
  have h3 : ∀ s : ByteArray, ∀ a : Int, cEnd s a 2 = 2 := by
    intro s a
    unfold cEnd cFail
    split <;> rfl
  unfold decV
  rw [h2, h3, if_neg (by decide)]
theorem dec_more {v : List En} (h : okVec v) {y : ByteArray} (hy : 0 < y.size) : (decV (eVec v ++ y)).2 = 8 := by
  have h1 := vec_codec.more h y
  have e : cEnd (eVec v ++ y) ((eVec v).size : Int) 0 = 8 := by
    unfold cEnd
    rw [if_pos (by rw [ByteArray.size_append]; omega)]
    rfl
  unfold decV
  rw [h1]
  show (if cEnd (eVec v ++ y) ((eVec v).size : Int) 0 = 0 then (v, (0 : Int)) else ([], cEnd (eVec v ++ y) ((eVec v).size : Int) 0)).2 = 8
  rw [e]
  rfl
end Go.Proofs.YteonkfedgopdiaaGreat
namespace Go.Proofs.YteonkfedgopdiaaGreat
open Go.RowKit
structure Ck where
  c : List En
  d : Bool
  x : En
def kDot (k : Ck) : Int :=
  if k.d = true then (if 32 < k.x.a.size then 3 else if k.x.a.size = 0 then 14 else if k.x.n = 0 then 7 else if k.x.n ≤ vCount k.c k.x.a then 15 else 0)
  else (if k.x.a.size = 0 ∧ k.x.n = 0 then 0 else 1)
def kCheck (k : Ck) : Int := if vCheck k.c = 0 then kDot k else vCheck k.c
structure Right (k : Ck) : Prop where
  vec : vCheck k.c = 0
  good : Good k.c
  plain : k.d = false → k.x.a.size = 0 ∧ k.x.n = 0
  dot : k.d = true → k.x.ok ∧ vCount k.c k.x.a < k.x.n
theorem dot_zero (k : Ck) : kDot k = 0 ↔ (k.d = false → k.x.a.size = 0 ∧ k.x.n = 0) ∧ (k.d = true → k.x.ok ∧ vCount k.c k.x.a < k.x.n) := by
  unfold kDot En.ok
  cases k.d with
  | false =>
    rw [if_neg (by decide)]
    constructor
    · intro h
      refine ⟨fun _ => ?_, (fun e => by cases e)⟩
      by_cases h0 : k.x.a.size = 0 ∧ k.x.n = 0
      · exact h0
      · rw [if_neg h0] at h; exact absurd h (by decide)
    · intro h
      rw [if_pos (h.1 rfl)]
  | true =>
    rw [if_pos rfl]
    constructor
    · intro h
      refine ⟨(fun e => by cases e), fun _ => ?_⟩
      by_cases h1 : 32 < k.x.a.size
      · rw [if_pos h1] at h; exact absurd h (by decide)
      rw [if_neg h1] at h
      by_cases h2 : k.x.a.size = 0
      · rw [if_pos h2] at h; exact absurd h (by decide)
      rw [if_neg h2] at h
      by_cases h3 : k.x.n = 0
      · rw [if_pos h3] at h; exact absurd h (by decide)
      rw [if_neg h3] at h
      by_cases h4 : k.x.n ≤ vCount k.c k.x.a
      · rw [if_pos h4] at h; exact absurd h (by decide)
      exact ⟨⟨by omega, by omega, h3⟩, by omega⟩
    · intro h
      obtain ⟨⟨h1, h2, h3⟩, h4⟩ := h.2 rfl
      rw [if_neg (by omega), if_neg (by omega), if_neg h3, if_neg (by omega)]
theorem right_iff (k : Ck) : kCheck k = 0 ↔ Right k := by
  unfold kCheck
  by_cases h : vCheck k.c = 0
  · rw [if_pos h, dot_zero]
    exact ⟨fun e => ⟨h, ((check_zero _).1 h).2, e.1, e.2⟩, fun e => ⟨e.plain, e.dot⟩⟩
  · rw [if_neg h]
    exact ⟨fun e => absurd e h, fun e => absurd e.vec h⟩
end Go.Proofs.YteonkfedgopdiaaGreat
namespace Go.Proofs.YteonkfedgopdiaaGreat
open Go.RowKit
def rFlag : Rdr Bool := fun s a => (gSet s a 0, cAt s a 0 1, gErr s a 0)
def eFlag (b : Bool) : ByteArray := one (flagByte b)
theorem eFlag_size (b : Bool) : (eFlag b).size = 1 := one_size _
theorem flag_short {s : ByteArray} {a : Int} (h : ¬ a < s.size) : gErr s a 0 = 2 ∧ cAt s a 0 1 = a ∧ gSet s a 0 = false := by
  have hb : cByte s a 0 = 0 := if_neg (fun e => h e.2)
  have he : cErr s a 0 1 = 2 := cErr_short (by decide) (by omega)
  refine ⟨?_, if_neg (by omega), ?_⟩
  · unfold gErr
    rw [hb, if_neg (by decide), he]
  · unfold gSet
    rw [hb]
    rfl
theorem flag_long {s : ByteArray} {a : Int} (h : a < s.size) : cAt s a 0 1 = a + 1 ∧ gErr s a 0 = (if 1 < cByte s a 0 then 13 else 0) := by
  have he : cErr s a 0 1 = 0 := cErr_fit (by decide) (by omega)
  refine ⟨cAt_fit (by decide) (by omega), ?_⟩
  unfold gErr
  rw [he]
  rfl
theorem flag_codec : Codec rFlag (fun _ => True) eFlag where
  place := by
    intro s a h0 h1
    show a ≤ cAt s a 0 1 ∧ cAt s a 0 1 ≤ s.size
    by_cases h : a < s.size
    · rw [(flag_long h).1]; omega
    · rw [(flag_short h).2.1]; omega
  back := by
    intro v t r _
    obtain ⟨h1, h2, h3⟩ := flag_back (rfl : t ++ (one (flagByte v) ++ r) = _)
    show (gSet (t ++ (one (flagByte v) ++ r)) t.size 0, cAt (t ++ (one (flagByte v) ++ r)) t.size 0 1, gErr (t ++ (one (flagByte v) ++ r)) t.size 0) = (v, (t.size : Int) + (eFlag v).size, 0)
    rw [h1, h2, h3, eFlag_size]
    rfl
  read := by
    intro s a h0 h1 h
    refine ⟨trivial, ?_⟩
    have h : gErr s a 0 = 0 := h
    show cut s a (cAt s a 0 1) = eFlag (gSet s a 0)
    by_cases hl : a < s.size
    · obtain ⟨e1, e2⟩ := flag_long hl
      rw [e2] at h
      have hb : ¬ 1 < cByte s a 0 := fun e => by rw [if_pos e] at h; exact absurd h (by decide)
      have hb0 : 0 ≤ cByte s a 0 := by unfold cByte; rw [if_pos ⟨rfl, hl⟩]; omega
      rw [e1, cut_byte h0 hl]
      unfold eFlag gSet
      have : cByte s a 0 = 0 ∨ cByte s a 0 = 1 := by omega
      rcases this with e | e <;> rw [e] <;> rfl
    · rw [(flag_short hl).1] at h
      exact absurd h (by decide)
  app := by
    intro s y a h0 h1
    by_cases hl : a < s.size
    · right
      have hl2 : a < (s ++ y).size := by rw [ByteArray.size_append]; omega
      have eb : cByte (s ++ y) a 0 = cByte s a 0 := by
        unfold cByte
        rw [if_pos ⟨rfl, hl2⟩, if_pos ⟨rfl, hl⟩, byteAt_app (by omega)]
      unfold rFlag
      rw [(flag_long hl).1, (flag_long hl).2, (flag_long hl2).1, (flag_long hl2).2, eb]
      unfold gSet
      rw [eb]
    · exact Or.inl (flag_short hl).1
def dTest (v : List En) (x : En) : Int := if x.n ≤ vCount v x.a then 15 else 0
def rDot (v : List En) : Rdr En := rTest ⟨⟨#[]⟩, 0⟩ (dTest v) (rEnt none)
def zEn : En := ⟨⟨#[]⟩, 0⟩
def rTail (v : List En) (b : Bool) : Rdr En := if b = true then rDot v else rNil zEn
def zCk : Ck := ⟨[], false, zEn⟩
def rRest (v : List En) : Rdr (Bool × En) := rSeq (false, zEn) rFlag (rTail v)
def rClk : Rdr Ck := rMap (fun q : List En × (Bool × En) => (⟨q.1, q.2.1, q.2.2⟩ : Ck)) (rSeq ([], (false, zEn)) rVec rRest)
def eTail (b : Bool) (x : En) : ByteArray := if b = true then eEnt x else ⟨#[]⟩
def eClk (k : Ck) : ByteArray := eVec k.c ++ (eFlag k.d ++ eTail k.d k.x)
def okTail (v : List En) (b : Bool) (x : En) : Prop := if b = true then (cOne none x = 0 ∧ U64 x.n) ∧ dTest v x = 0 else x = zEn
theorem tail_codec (v : List En) (b : Bool) : Codec (rTail v b) (okTail v b) (eTail b) := by
  cases b with
  | true => exact ((ent_codec none).test zEn (dTest v)).weak (fun _ => Iff.rfl) (fun _ _ => rfl)
  | false => exact (Codec.nil zEn).weak (fun _ => Iff.rfl) (fun _ _ => rfl)
def okClk (k : Ck) : Prop := kCheck k = 0 ∧ (∀ x ∈ k.c, U64 x.n) ∧ U64 k.x.n
theorem zEn_of {x : En} (h : x.a.size = 0 ∧ x.n = 0) : x = zEn := En.eq (ByteArray.ext (Array.eq_empty_of_size_eq_zero h.1)) h.2
theorem okClk_iff (k : Ck) : okClk k ↔ okVec k.c ∧ True ∧ okTail k.c k.d k.x := by
  unfold okClk okVec okTail
  rw [right_iff]
  constructor
  · rintro ⟨h, h1, h2⟩
    refine ⟨⟨h.vec, h1⟩, trivial, ?_⟩
    cases hd : k.d with
    | true =>
      obtain ⟨a1, a2⟩ := h.dot hd
      rw [if_pos rfl]
      refine ⟨⟨cOne_zero.2 ⟨a1, fun q e => by cases e⟩, h2⟩, ?_⟩
      unfold dTest
      rw [if_neg (by omega)]
    | false =>
      rw [if_neg (by decide)]
      exact zEn_of (h.plain hd)
  · rintro ⟨⟨h1, h2⟩, _, h3⟩
    cases hd : k.d with
    | true =>
      rw [hd, if_pos rfl] at h3
      obtain ⟨⟨h4, h5⟩, h6⟩ := h3
      refine ⟨⟨h1, ((check_zero _).1 h1).2, (fun e => by rw [hd] at e; cases e), fun _ => ⟨(cOne_zero.1 h4).1, ?_⟩⟩, h2, h5⟩
      unfold dTest at h6
      by_cases h7 : k.x.n ≤ vCount k.c k.x.a
      · rw [if_pos h7] at h6; exact absurd h6 (by decide)
      · omega
    | false =>
      rw [hd, if_neg (by decide)] at h3
      refine ⟨⟨h1, ((check_zero _).1 h1).2, (fun _ => by rw [h3]; exact ⟨rfl, rfl⟩), fun e => by rw [hd] at e; cases e⟩, h2, by rw [h3]; show 0 < 18446744073709551616; omega⟩
theorem clk_codec : Codec rClk okClk eClk := by
  have cR : ∀ v, okVec v → Codec (rRest v) (fun q : Bool × En => True ∧ okTail v q.1 q.2) (fun q => eFlag q.1 ++ eTail q.1 q.2) := fun v _ =>
    flag_codec.seq (okB := fun b => okTail v b) (encB := fun b => eTail b) (false, zEn) (fun b _ => tail_codec v b)
  have c := (vec_codec.seq (okB := fun v (q : Bool × En) => True ∧ okTail v q.1 q.2) (encB := fun _ (q : Bool × En) => eFlag q.1 ++ eTail q.1 q.2) ([], (false, zEn)) cR).map (fun q : List En × (Bool × En) => (⟨q.1, q.2.1, q.2.2⟩ : Ck)) (fun k => (k.c, (k.d, k.x))) (fun _ _ => rfl) (fun _ _ => rfl)
  exact c.weak (fun k => okClk_iff k) (fun _ _ => rfl)
theorem eClk_size {k : Ck} (h : okClk k) : (eClk k).size ≤ 2797 := by
  obtain ⟨h1, _, h3⟩ := (okClk_iff k).1 h
  have h4 := eVec_size h1
  have h5 : (eTail k.d k.x).size ≤ 43 := by
    unfold eTail
    unfold okTail at h3
    cases hd : k.d with
    | true =>
      rw [hd, if_pos rfl] at h3
      rw [if_pos rfl]
      exact eEnt_size (cOne_zero.1 h3.1.1).1.2.1 h3.1.2
    | false => rw [if_neg (by decide)]; exact Nat.zero_le _
  unfold eClk
  rw [ByteArray.size_append, ByteArray.size_append, eFlag_size]
  omega
def pTail (M : Int) (p : ByteArray × Int) (b : Bool) (x : En) : ByteArray × Int := if b = true then pEnt M p x else p
def pClk (M : Int) (p : ByteArray × Int) (k : Ck) : ByteArray × Int := if kCheck k = 0 then pTail M (wFlag M (pVec M p k.c) k.d) k.d k.x else (p.1, pFail p.2 (kCheck k))
def pClks (M : Int) (p : ByteArray × Int) (l : List Ck) : ByteArray × Int := l.foldl (pClk M) p
theorem pClk_yes {M : Int} {p : ByteArray × Int} {k : Ck} (h : kCheck k = 0) : pClk M p k = pTail M (wFlag M (pVec M p k.c) k.d) k.d k.x := if_pos h
theorem pClk_no {M : Int} {p : ByteArray × Int} {k : Ck} (h : kCheck k ≠ 0) : pClk M p k = (p.1, pFail p.2 (kCheck k)) := if_neg h
theorem pTail_yes {M : Int} {p : ByteArray × Int} {x : En} : pTail M p true x = pEnt M p x := rfl
theorem pTail_no {M : Int} {p : ByteArray × Int} {x : En} : pTail M p false x = p := rfl
theorem pClks_take {M : Int} {p : ByteArray × Int} {l : List Ck} {i : Nat} (h : i < l.length) : pClks M p (l.take (i + 1)) = pClk M (pClks M p (l.take i)) l[i] := by
  rw [List.take_succ_eq_append_getElem h]
  unfold pClks
  rw [List.foldl_append]
  rfl
theorem wFlag_err {M : Int} {t : ByteArray} {x : Int} (h : x ≠ 0) (b : Bool) : wFlag M (t, x) b = (t, x) := pOne_err h
theorem pClk_err {M : Int} {t : ByteArray} {x : Int} (h : x ≠ 0) (k : Ck) : pClk M (t, x) k = (t, x) := by
  by_cases h0 : kCheck k = 0
  · rw [pClk_yes h0, pVec_err h, wFlag_err h]
    cases k.d with
    | true => rw [pTail_yes, pEnt_err h]
    | false => rfl
  · rw [pClk_no h0]
    show (t, pFail x (kCheck k)) = _
    unfold pFail
    rw [if_neg h]
theorem pClks_err {M : Int} {t : ByteArray} {x : Int} (h : x ≠ 0) : ∀ l, pClks M (t, x) l = (t, x)
  | [] => rfl
  | k :: l => by
    show pClks M (pClk M (t, x) k) l = _
    rw [pClk_err h]
    exact pClks_err h l
theorem pClks_stop {M : Int} {p : ByteArray × Int} {l : List Ck} {i : Nat} {t : ByteArray} {x : Int} (h : pClks M p (l.take i) = (t, x)) (hx : x ≠ 0) : pClks M p l = (t, x) := by
  have e : l = l.take i ++ l.drop i := (List.take_append_drop i l).symm
  rw [e]
  unfold pClks at h ⊢
  rw [List.foldl_append, h]
  exact pClks_err hx _
theorem pClk_size (M : Int) (q : ByteArray × Int) {k : Ck} (hn : ∀ x ∈ k.c, U64 x.n) (hx : U64 k.x.n) : (pClk M q k).1.size ≤ q.1.size + 3400 := by
  by_cases h0 : kCheck k = 0
  · rw [pClk_yes h0]
    have h1 := pVec_size M q hn
    have h2 := wFlag_size M (pVec M q k.c) k.d
    cases hd : k.d with
    | true =>
      rw [hd] at h2
      have h3 := pEnt_size M (wFlag M (pVec M q k.c) true) (((right_iff k).1 h0).dot hd).1.2.1 hx
      rw [pTail_yes]
      omega
    | false =>
      rw [hd] at h2
      rw [pTail_no]
      omega
  · rw [pClk_no h0]
    show q.1.size ≤ _
    omega
theorem pEnt_fit {M : Int} {t : ByteArray} {x : En} (h : x.a.size ≤ 32) (hm : (t.size : Int) + (eEnt x).size ≤ M) : pEnt M (t, 0) x = (t ++ eEnt x, 0) := by
  have e1 : eEnts [x] = eEnt x := ByteArray.append_empty
  have := pEnts_fit (M := M) (l := [x]) (t := t) (fun y hy => by rw [List.mem_singleton.1 hy]; exact h) (by rw [e1]; exact hm)
  rw [e1] at this
  exact this
theorem pClk_fit {M : Int} {t : ByteArray} {k : Ck} (h : okClk k) (hm : (t.size : Int) + (eClk k).size ≤ M) : pClk M (t, 0) k = (t ++ eClk k, 0) := by
  obtain ⟨h1, _, h3⟩ := (okClk_iff k).1 h
  have hz : (eClk k).size = (eVec k.c).size + (1 + (eTail k.d k.x).size) := by unfold eClk; rw [ByteArray.size_append, ByteArray.size_append, eFlag_size]
  rw [pClk_yes h.1, pVec_fit h1 (by omega)]
  have e1 : wFlag M (t ++ eVec k.c, 0) k.d = (t ++ eVec k.c ++ eFlag k.d, 0) := pOne_yes (by rw [ByteArray.size_append, one_size]; omega)
  rw [e1]
  unfold eClk
  unfold okTail at h3
  cases hd : k.d with
  | true =>
    rw [hd] at hz h3
    rw [if_pos rfl] at h3
    have e2 : eTail true k.x = eEnt k.x := rfl
    rw [e2] at hz
    rw [pTail_yes, pEnt_fit (cOne_zero.1 h3.1.1).1.2.1 (by rw [ByteArray.size_append, ByteArray.size_append, eFlag_size]; omega), e2, ByteArray.append_assoc (a := t), ByteArray.append_assoc (a := t), ByteArray.append_assoc]
  | false =>
    have e2 : eFlag false ++ eTail false k.x = eFlag false := ByteArray.append_empty
    rw [pTail_no, e2, ByteArray.append_assoc]
def encK (k : Ck) : ByteArray × Int := if kCheck k = 0 then (eClk k, 0) else (⟨#[]⟩, kCheck k)
theorem encK_pen {k : Ck} (hn : ∀ x ∈ k.c, U64 x.n) (hx : U64 k.x.n) : (pEnd (pClk 65536 (⟨#[]⟩, 0) k).1 (pClk 65536 (⟨#[]⟩, 0) k).2, (pClk 65536 (⟨#[]⟩, 0) k).2) = encK k := by
  unfold encK
  by_cases h0 : kCheck k = 0
  · have hs := eClk_size ⟨h0, hn, hx⟩
    have e : (⟨#[]⟩ : ByteArray) ++ eClk k = eClk k := ByteArray.empty_append
    rw [if_pos h0, pClk_fit ⟨h0, hn, hx⟩ (by show ((0 : Nat) : Int) + _ ≤ _; omega), e]
    unfold pEnd
    rw [if_pos rfl]
  · rw [if_neg h0, pClk_no h0]
    show (pEnd ⟨#[]⟩ (pFail 0 (kCheck k)), pFail 0 (kCheck k)) = _
    have e : pFail 0 (kCheck k) = kCheck k := if_pos rfl
    rw [e]
    unfold pEnd
    rw [if_neg h0]
end Go.Proofs.YteonkfedgopdiaaGreat
