/-
  Dotted clocks as bytes, on rows of bytes: reading and writing as a pair; a clock's bytes, and a text's clock, as a whole. No program.
  Conditions: none beyond what each lemma states.
-/
import Derived.Test.YtfahpnkliecppaaVcPen
import Derived.Test.YtfahpnkliecppaaDotted
namespace Go.Proofs.Ytfahpnkliecppaa
open Go.RowKit

/-! ### a flag -/
def rFlag : Rdr Bool := fun s a => (gSet s a 0, cAt s a 0 1, gErr s a 0)
def eFlag (b : Bool) : ByteArray := one (flagByte b)
theorem eFlag_size (b : Bool) : (eFlag b).size = 1 := one_size _
theorem flag_short {s : ByteArray} {a : Int} (h : ¬ a < s.size) : gErr s a 0 = 2 ∧ cAt s a 0 1 = a ∧ gSet s a 0 = false := by
  have hb : cByte s a 0 = 0 := if_neg (fun e => h e.2)
  have he : cErr s a 0 1 = 2 := cErr_short (by decide) (by omega)
  refine ⟨?_, if_neg (by omega), ?_⟩
  · unfold gErr
    rw [hb, if_neg (by decide), he]
  · unfold gSet
    rw [hb]
    rfl
theorem flag_long {s : ByteArray} {a : Int} (h : a < s.size) : cAt s a 0 1 = a + 1 ∧ gErr s a 0 = (if 1 < cByte s a 0 then 13 else 0) := by
  have he : cErr s a 0 1 = 0 := cErr_fit (by decide) (by omega)
  refine ⟨cAt_fit (by decide) (by omega), ?_⟩
  unfold gErr
  rw [he]
  rfl
theorem flag_codec : Codec rFlag (fun _ => True) eFlag where
  place := by
    intro s a h0 h1
    show a ≤ cAt s a 0 1 ∧ cAt s a 0 1 ≤ s.size
    by_cases h : a < s.size
    · rw [(flag_long h).1]; omega
    · rw [(flag_short h).2.1]; omega
  back := by
    intro v t r _
    obtain ⟨h1, h2, h3⟩ := flag_back (rfl : t ++ (one (flagByte v) ++ r) = _)
    show (gSet (t ++ (one (flagByte v) ++ r)) t.size 0, cAt (t ++ (one (flagByte v) ++ r)) t.size 0 1, gErr (t ++ (one (flagByte v) ++ r)) t.size 0) = (v, (t.size : Int) + (eFlag v).size, 0)
    rw [h1, h2, h3, eFlag_size]
    rfl
  read := by
    intro s a h0 h1 h
    refine ⟨trivial, ?_⟩
    have h : gErr s a 0 = 0 := h
    show cut s a (cAt s a 0 1) = eFlag (gSet s a 0)
    by_cases hl : a < s.size
    · obtain ⟨e1, e2⟩ := flag_long hl
      rw [e2] at h
      have hb : ¬ 1 < cByte s a 0 := fun e => by rw [if_pos e] at h; exact absurd h (by decide)
      have hb0 : 0 ≤ cByte s a 0 := by unfold cByte; rw [if_pos ⟨rfl, hl⟩]; omega
      rw [e1, cut_byte h0 hl]
      unfold eFlag gSet
      have : cByte s a 0 = 0 ∨ cByte s a 0 = 1 := by omega
      rcases this with e | e <;> rw [e] <;> rfl
    · rw [(flag_short hl).1] at h
      exact absurd h (by decide)
  app := by
    intro s y a h0 h1
    by_cases hl : a < s.size
    · right
      have hl2 : a < (s ++ y).size := by rw [ByteArray.size_append]; omega
      have eb : cByte (s ++ y) a 0 = cByte s a 0 := by
        unfold cByte
        rw [if_pos ⟨rfl, hl2⟩, if_pos ⟨rfl, hl⟩, byteAt_app (by omega)]
      unfold rFlag
      rw [(flag_long hl).1, (flag_long hl).2, (flag_long hl2).1, (flag_long hl2).2, eb]
      unfold gSet
      rw [eb]
    · exact Or.inl (flag_short hl).1

/-! ### a clock -/
def dTest (v : List En) (x : En) : Int := if x.n ≤ vCount v x.a then 15 else 0
def rDot (v : List En) : Rdr En := rTest ⟨⟨#[]⟩, 0⟩ (dTest v) (rEnt none)
def zEn : En := ⟨⟨#[]⟩, 0⟩
/-- The dot, if there is one. -/
def rTail (v : List En) (b : Bool) : Rdr En := if b = true then rDot v else rNil zEn
def zCk : Ck := ⟨[], false, zEn⟩
def rRest (v : List En) : Rdr (Bool × En) := rSeq (false, zEn) rFlag (rTail v)
def rClk : Rdr Ck := rMap (fun q : List En × (Bool × En) => (⟨q.1, q.2.1, q.2.2⟩ : Ck)) (rSeq ([], (false, zEn)) rVec rRest)
def eTail (b : Bool) (x : En) : ByteArray := if b = true then eEnt x else ⟨#[]⟩
def eClk (k : Ck) : ByteArray := eVec k.c ++ (eFlag k.d ++ eTail k.d k.x)
def okTail (v : List En) (b : Bool) (x : En) : Prop := if b = true then (cOne none x = 0 ∧ U64 x.n) ∧ dTest v x = 0 else x = zEn
theorem tail_codec (v : List En) (b : Bool) : Codec (rTail v b) (okTail v b) (eTail b) := by
  cases b with
  | true => exact ((ent_codec none).test zEn (dTest v)).weak (fun _ => Iff.rfl) (fun _ _ => rfl)
  | false => exact (Codec.nil zEn).weak (fun _ => Iff.rfl) (fun _ _ => rfl)
def okClk (k : Ck) : Prop := kCheck k = 0 ∧ (∀ x ∈ k.c, U64 x.n) ∧ U64 k.x.n
theorem zEn_of {x : En} (h : x.a.size = 0 ∧ x.n = 0) : x = zEn := En.eq (ByteArray.ext (Array.eq_empty_of_size_eq_zero h.1)) h.2
theorem okClk_iff (k : Ck) : okClk k ↔ okVec k.c ∧ True ∧ okTail k.c k.d k.x := by
  unfold okClk okVec okTail
  rw [right_iff]
  constructor
  · rintro ⟨h, h1, h2⟩
    refine ⟨⟨h.vec, h1⟩, trivial, ?_⟩
    cases hd : k.d with
    | true =>
      obtain ⟨a1, a2⟩ := h.dot hd
      rw [if_pos rfl]
      refine ⟨⟨cOne_zero.2 ⟨a1, fun q e => by cases e⟩, h2⟩, ?_⟩
      unfold dTest
      rw [if_neg (by omega)]
    | false =>
      rw [if_neg (by decide)]
      exact zEn_of (h.plain hd)
  · rintro ⟨⟨h1, h2⟩, _, h3⟩
    cases hd : k.d with
    | true =>
      rw [hd, if_pos rfl] at h3
      obtain ⟨⟨h4, h5⟩, h6⟩ := h3
      refine ⟨⟨h1, ((check_zero _).1 h1).2, (fun e => by rw [hd] at e; cases e), fun _ => ⟨(cOne_zero.1 h4).1, ?_⟩⟩, h2, h5⟩
      unfold dTest at h6
      by_cases h7 : k.x.n ≤ vCount k.c k.x.a
      · rw [if_pos h7] at h6; exact absurd h6 (by decide)
      · omega
    | false =>
      rw [hd, if_neg (by decide)] at h3
      refine ⟨⟨h1, ((check_zero _).1 h1).2, (fun _ => by rw [h3]; exact ⟨rfl, rfl⟩), fun e => by rw [hd] at e; cases e⟩, h2, by rw [h3]; show 0 < 18446744073709551616; omega⟩
theorem clk_codec : Codec rClk okClk eClk := by
  have cR : ∀ v, okVec v → Codec (rRest v) (fun q : Bool × En => True ∧ okTail v q.1 q.2) (fun q => eFlag q.1 ++ eTail q.1 q.2) := fun v _ =>
    flag_codec.seq (okB := fun b => okTail v b) (encB := fun b => eTail b) (false, zEn) (fun b _ => tail_codec v b)
  have c := (vec_codec.seq (okB := fun v (q : Bool × En) => True ∧ okTail v q.1 q.2) (encB := fun _ (q : Bool × En) => eFlag q.1 ++ eTail q.1 q.2) ([], (false, zEn)) cR).map (fun q : List En × (Bool × En) => (⟨q.1, q.2.1, q.2.2⟩ : Ck)) (fun k => (k.c, (k.d, k.x))) (fun _ _ => rfl) (fun _ _ => rfl)
  exact c.weak (fun k => okClk_iff k) (fun _ _ => rfl)
theorem eClk_size {k : Ck} (h : okClk k) : (eClk k).size ≤ 2797 := by
  obtain ⟨h1, _, h3⟩ := (okClk_iff k).1 h
  have h4 := eVec_size h1
  have h5 : (eTail k.d k.x).size ≤ 43 := by
    unfold eTail
    unfold okTail at h3
    cases hd : k.d with
    | true =>
      rw [hd, if_pos rfl] at h3
      rw [if_pos rfl]
      exact eEnt_size (cOne_zero.1 h3.1.1).1.2.1 h3.1.2
    | false => rw [if_neg (by decide)]; exact Nat.zero_le _
  unfold eClk
  rw [ByteArray.size_append, ByteArray.size_append, eFlag_size]
  omega

/-! ### written to a pen -/
def pTail (M : Int) (p : ByteArray × Int) (b : Bool) (x : En) : ByteArray × Int := if b = true then pEnt M p x else p
def pClk (M : Int) (p : ByteArray × Int) (k : Ck) : ByteArray × Int := if kCheck k = 0 then pTail M (wFlag M (pVec M p k.c) k.d) k.d k.x else (p.1, pFail p.2 (kCheck k))
def pClks (M : Int) (p : ByteArray × Int) (l : List Ck) : ByteArray × Int := l.foldl (pClk M) p
theorem pClk_yes {M : Int} {p : ByteArray × Int} {k : Ck} (h : kCheck k = 0) : pClk M p k = pTail M (wFlag M (pVec M p k.c) k.d) k.d k.x := if_pos h
theorem pClk_no {M : Int} {p : ByteArray × Int} {k : Ck} (h : kCheck k ≠ 0) : pClk M p k = (p.1, pFail p.2 (kCheck k)) := if_neg h
theorem pTail_yes {M : Int} {p : ByteArray × Int} {x : En} : pTail M p true x = pEnt M p x := rfl
theorem pTail_no {M : Int} {p : ByteArray × Int} {x : En} : pTail M p false x = p := rfl
theorem pClks_take {M : Int} {p : ByteArray × Int} {l : List Ck} {i : Nat} (h : i < l.length) : pClks M p (l.take (i + 1)) = pClk M (pClks M p (l.take i)) l[i] := by
  rw [List.take_succ_eq_append_getElem h]
  unfold pClks
  rw [List.foldl_append]
  rfl
theorem wFlag_err {M : Int} {t : ByteArray} {x : Int} (h : x ≠ 0) (b : Bool) : wFlag M (t, x) b = (t, x) := pOne_err h
theorem pClk_err {M : Int} {t : ByteArray} {x : Int} (h : x ≠ 0) (k : Ck) : pClk M (t, x) k = (t, x) := by
  by_cases h0 : kCheck k = 0
  · rw [pClk_yes h0, pVec_err h, wFlag_err h]
    cases k.d with
    | true => rw [pTail_yes, pEnt_err h]
    | false => rfl
  · rw [pClk_no h0]
    show (t, pFail x (kCheck k)) = _
    unfold pFail
    rw [if_neg h]
theorem pClks_err {M : Int} {t : ByteArray} {x : Int} (h : x ≠ 0) : ∀ l, pClks M (t, x) l = (t, x)
  | [] => rfl
  | k :: l => by
    show pClks M (pClk M (t, x) k) l = _
    rw [pClk_err h]
    exact pClks_err h l
theorem pClks_stop {M : Int} {p : ByteArray × Int} {l : List Ck} {i : Nat} {t : ByteArray} {x : Int} (h : pClks M p (l.take i) = (t, x)) (hx : x ≠ 0) : pClks M p l = (t, x) := by
  have e : l = l.take i ++ l.drop i := (List.take_append_drop i l).symm
  rw [e]
  unfold pClks at h ⊢
  rw [List.foldl_append, h]
  exact pClks_err hx _
theorem pClk_size (M : Int) (q : ByteArray × Int) {k : Ck} (hn : ∀ x ∈ k.c, U64 x.n) (hx : U64 k.x.n) : (pClk M q k).1.size ≤ q.1.size + 3400 := by
  by_cases h0 : kCheck k = 0
  · rw [pClk_yes h0]
    have h1 := pVec_size M q hn
    have h2 := wFlag_size M (pVec M q k.c) k.d
    cases hd : k.d with
    | true =>
      rw [hd] at h2
      have h3 := pEnt_size M (wFlag M (pVec M q k.c) true) (((right_iff k).1 h0).dot hd).1.2.1 hx
      rw [pTail_yes]
      omega
    | false =>
      rw [hd] at h2
      rw [pTail_no]
      omega
  · rw [pClk_no h0]
    show q.1.size ≤ _
    omega
theorem pEnt_fit {M : Int} {t : ByteArray} {x : En} (h : x.a.size ≤ 32) (hm : (t.size : Int) + (eEnt x).size ≤ M) : pEnt M (t, 0) x = (t ++ eEnt x, 0) := by
  have e1 : eEnts [x] = eEnt x := ByteArray.append_empty
  have := pEnts_fit (M := M) (l := [x]) (t := t) (fun y hy => by rw [List.mem_singleton.1 hy]; exact h) (by rw [e1]; exact hm)
  rw [e1] at this
  exact this
theorem pClk_fit {M : Int} {t : ByteArray} {k : Ck} (h : okClk k) (hm : (t.size : Int) + (eClk k).size ≤ M) : pClk M (t, 0) k = (t ++ eClk k, 0) := by
  obtain ⟨h1, _, h3⟩ := (okClk_iff k).1 h
  have hz : (eClk k).size = (eVec k.c).size + (1 + (eTail k.d k.x).size) := by unfold eClk; rw [ByteArray.size_append, ByteArray.size_append, eFlag_size]
  rw [pClk_yes h.1, pVec_fit h1 (by omega)]
  have e1 : wFlag M (t ++ eVec k.c, 0) k.d = (t ++ eVec k.c ++ eFlag k.d, 0) := pOne_yes (by rw [ByteArray.size_append, one_size]; omega)
  rw [e1]
  unfold eClk
  unfold okTail at h3
  cases hd : k.d with
  | true =>
    rw [hd] at hz h3
    rw [if_pos rfl] at h3
    have e2 : eTail true k.x = eEnt k.x := rfl
    rw [e2] at hz
    rw [pTail_yes, pEnt_fit (cOne_zero.1 h3.1.1).1.2.1 (by rw [ByteArray.size_append, ByteArray.size_append, eFlag_size]; omega), e2, ByteArray.append_assoc (a := t), ByteArray.append_assoc (a := t), ByteArray.append_assoc]
  | false =>
    have e2 : eFlag false ++ eTail false k.x = eFlag false := ByteArray.append_empty
    rw [pTail_no, e2, ByteArray.append_assoc]

/-! ### as a whole -/
def encK (k : Ck) : ByteArray × Int := if kCheck k = 0 then (eClk k, 0) else (⟨#[]⟩, kCheck k)
def decK (s : ByteArray) : Ck × Int := if cEnd s (rClk s 0).2.1 (rClk s 0).2.2 = 0 then ((rClk s 0).1, 0) else (zCk, cEnd s (rClk s 0).2.1 (rClk s 0).2.2)
theorem encK_pen {k : Ck} (hn : ∀ x ∈ k.c, U64 x.n) (hx : U64 k.x.n) : (pEnd (pClk 65536 (⟨#[]⟩, 0) k).1 (pClk 65536 (⟨#[]⟩, 0) k).2, (pClk 65536 (⟨#[]⟩, 0) k).2) = encK k := by
  unfold encK
  by_cases h0 : kCheck k = 0
  · have hs := eClk_size ⟨h0, hn, hx⟩
    have e : (⟨#[]⟩ : ByteArray) ++ eClk k = eClk k := ByteArray.empty_append
    rw [if_pos h0, pClk_fit ⟨h0, hn, hx⟩ (by show ((0 : Nat) : Int) + _ ≤ _; omega), e]
    unfold pEnd
    rw [if_pos rfl]
  · rw [if_neg h0, pClk_no h0]
    show (pEnd ⟨#[]⟩ (pFail 0 (kCheck k)), pFail 0 (kCheck k)) = _
    have e : pFail 0 (kCheck k) = kCheck k := if_pos rfl
    rw [e]
    unfold pEnd
    rw [if_neg h0]
theorem decK_enc {k : Ck} (h : okClk k) : decK (eClk k) = (k, 0) := by
  have h1 := clk_codec.only h
  unfold decK
  rw [h1]
  have e : cEnd (eClk k) ((eClk k).size : Int) 0 = 0 := if_neg (by omega)
  show (if cEnd (eClk k) ((eClk k).size : Int) 0 = 0 then (k, (0 : Int)) else _) = _
  rw [if_pos e]
theorem decK_zero {s : ByteArray} (h : (decK s).2 = 0) : okClk (decK s).1 ∧ eClk (decK s).1 = s := by
  unfold decK at h ⊢
  by_cases h0 : cEnd s (rClk s 0).2.1 (rClk s 0).2.2 = 0
  · rw [if_pos h0]
    have hp := (clk_codec.place (s := s) (a := 0) (by decide) (by omega)).2
    unfold cEnd cFail at h0
    by_cases hl : (rClk s 0).2.1 < s.size
    · rw [if_pos hl] at h0
      split at h0
      · exact absurd h0 (by decide)
      · rename_i hx; exact absurd h0 hx
    · rw [if_neg hl] at h0
      obtain ⟨h1, h2⟩ := clk_codec.all h0 (by omega)
      exact ⟨h1, h2.symm⟩
  · rw [if_neg h0] at h
    exact absurd h h0
theorem decK_bad {s : ByteArray} (h : (decK s).2 ≠ 0) : (decK s).1 = zCk := by
  unfold decK at h ⊢
  split
  · rename_i h0; rw [if_pos h0] at h; exact absurd rfl h
  · rfl
theorem decK_short {k : Ck} (h : okClk k) {i : Nat} (hi : i < (eClk k).size) : (decK ((eClk k).extract 0 i)).2 = 2 := by
  have e : (eClk k).extract 0 i ++ (eClk k).extract i (eClk k).size = eClk k := by
    have e1 := cut_head (s := eClk k) (j := (i : Int)) (by omega) (by omega)
    have e2 : cut (eClk k) 0 (i : Int) = (eClk k).extract 0 i := rfl
    have e3 : cut (eClk k) (i : Int) (eClk k).size = (eClk k).extract i (eClk k).size := rfl
    rw [e2, e3] at e1
    exact e1.symm
  have h2 := clk_codec.short h e (by rw [ByteArray.size_extract]; omega)
  have h3 : ∀ s : ByteArray, ∀ a : Int, cEnd s a 2 = 2 := by
    intro s a
    unfold cEnd cFail
    split <;> rfl
  unfold decK
  rw [h2, h3, if_neg (by decide)]
theorem decK_more {k : Ck} (h : okClk k) {y : ByteArray} (hy : 0 < y.size) : (decK (eClk k ++ y)).2 = 8 := by
  have h1 := clk_codec.more h y
  have e : cEnd (eClk k ++ y) ((eClk k).size : Int) 0 = 8 := by
    unfold cEnd
    rw [if_pos (by rw [ByteArray.size_append]; omega)]
    rfl
  unfold decK
  rw [h1]
  show (if cEnd (eClk k ++ y) ((eClk k).size : Int) 0 = 0 then (k, (0 : Int)) else (zCk, cEnd (eClk k ++ y) ((eClk k).size : Int) 0)).2 = 8
  rw [e]
  rfl
end Go.Proofs.Ytfahpnkliecppaa
