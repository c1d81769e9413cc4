/-
  Pairs of names and values, on lists: which are right, reading and writing them as a pair, what is asked of them by name, and others put in their places. No program.
  Conditions: none beyond what each lemma states.
-/
import Derived.Test.YtmcinehbhgaiaaaVcode
namespace Go.Proofs.Ytmcinehbhgaiaaa
open Go.RowKit

structure Pr where
  n : ByteArray
  v : ByteArray
theorem Pr.eq {x y : Pr} (h1 : x.n = y.n) (h2 : x.v = y.v) : x = y := by cases x; cases y; cases h1; cases h2; rfl
/-- A pair that may stand by itself. -/
def Pr.ok (x : Pr) : Prop := 0 < x.n.size ∧ x.n.size ≤ 32 ∧ x.v.size ≤ 32768
def GoodP (l : List Pr) : Prop := (∀ x ∈ l, x.ok) ∧ l.Pairwise (fun x y => bl x.n y.n = true)
def qOne (p : Option ByteArray) (x : Pr) : Int := if 32 < x.n.size then 3 else if x.n.size = 0 then 14 else if falls p x.n = true then 6 else if 32768 < x.v.size then 3 else 0
def qGo : Option ByteArray → List Pr → Int
  | _, [] => 0
  | p, x :: l => if qOne p x = 0 then qGo (some x.n) l else qOne p x
def qCheck (l : List Pr) : Int := if 8 < l.length then 3 else qGo none l
theorem qOne_zero {p : Option ByteArray} {x : Pr} : qOne p x = 0 ↔ x.ok ∧ ∀ q, p = some q → bl q x.n = true := by
  unfold qOne Pr.ok
  constructor
  · intro h
    by_cases h1 : 32 < x.n.size
    · rw [if_pos h1] at h; exact absurd h (by decide)
    rw [if_neg h1] at h
    by_cases h2 : x.n.size = 0
    · rw [if_pos h2] at h; exact absurd h (by decide)
    rw [if_neg h2] at h
    by_cases h3 : falls p x.n = true
    · rw [if_pos h3] at h; exact absurd h (by decide)
    rw [if_neg h3] at h
    by_cases h4 : 32768 < x.v.size
    · rw [if_pos h4] at h; exact absurd h (by decide)
    refine ⟨⟨by omega, by omega, by omega⟩, fun q e => ?_⟩
    subst e
    rw [falls_some] at h3
    simpa using h3
  · rintro ⟨⟨h1, h2, h3⟩, h4⟩
    rw [if_neg (by omega), if_neg (by omega)]
    cases p with
    | none => rw [falls_none, if_neg (by decide), if_neg (by omega)]
    | some q => rw [falls_some, h4 q rfl, if_neg (by decide), if_neg (by omega)]
theorem qGo_zero : ∀ (l : List Pr) (p : Option ByteArray), qGo p l = 0 ↔ GoodP l ∧ ∀ q, p = some q → ∀ x ∈ l, bl q x.n = true
  | [], p => ⟨fun _ => ⟨⟨(fun _ h => by cases h), List.Pairwise.nil⟩, (fun _ _ _ h => by cases h)⟩, fun _ => rfl⟩
  | x :: l, p => by
    rw [qGo]
    constructor
    · intro h
      by_cases h0 : qOne p x = 0
      · rw [if_pos h0] at h
        obtain ⟨⟨g1, g2⟩, g3⟩ := (qGo_zero l (some x.n)).1 h
        obtain ⟨o1, o2⟩ := qOne_zero.1 h0
        refine ⟨⟨?_, List.pairwise_cons.2 ⟨fun y hy => g3 x.n rfl y hy, g2⟩⟩, fun q e y hy => ?_⟩
        · intro y hy
          rcases List.mem_cons.1 hy with rfl | hy
          · exact o1
          · exact g1 y hy
        · rcases List.mem_cons.1 hy with rfl | hy
          · exact o2 q e
          · exact bl_trans (o2 q e) (g3 x.n rfl y hy)
      · rw [if_neg h0] at h
        exact absurd h h0
    · rintro ⟨⟨g1, g2⟩, g3⟩
      obtain ⟨p1, p2⟩ := List.pairwise_cons.1 g2
      have h0 : qOne p x = 0 := qOne_zero.2 ⟨g1 x List.mem_cons_self, fun q e => g3 q e x List.mem_cons_self⟩
      rw [if_pos h0]
      exact (qGo_zero l (some x.n)).2 ⟨⟨fun y hy => g1 y (List.mem_cons_of_mem _ hy), p2⟩, fun q e y hy => by cases e; exact p1 y hy⟩
theorem qCheck_zero (l : List Pr) : qCheck l = 0 ↔ l.length ≤ 8 ∧ GoodP l := by
  unfold qCheck
  by_cases h : 8 < l.length
  · rw [if_pos h]
    exact ⟨fun e => absurd e (by decide), fun e => absurd e.1 (by omega)⟩
  · rw [if_neg h, qGo_zero]
    exact ⟨fun e => ⟨by omega, e.1⟩, fun e => ⟨e.2, fun q h => by cases h⟩⟩
theorem GoodP.tail {x : Pr} {l : List Pr} (h : GoodP (x :: l)) : GoodP l := ⟨fun y hy => h.1 y (List.mem_cons_of_mem _ hy), (List.pairwise_cons.1 h.2).2⟩
theorem GoodP.above {x : Pr} {l : List Pr} (h : GoodP (x :: l)) : ∀ y ∈ l, bl x.n y.n = true := (List.pairwise_cons.1 h.2).1
theorem GoodP.nil : GoodP [] := ⟨(fun _ h => by cases h), List.Pairwise.nil⟩
theorem GoodP.cons {x : Pr} {l : List Pr} (h1 : x.ok) (h2 : GoodP l) (h3 : ∀ y ∈ l, bl x.n y.n = true) : GoodP (x :: l) :=
  ⟨(fun y hy => (List.mem_cons.1 hy).elim (fun e => e ▸ h1) (fun h => h2.1 y h)), List.pairwise_cons.2 ⟨h3, h2.2⟩⟩

/-! ### by name -/
def qVal : List Pr → ByteArray → Option ByteArray
  | [], _ => none
  | x :: l, s => if x.n = s then some x.v else qVal l s
theorem qVal_cons (x : Pr) (l : List Pr) (s : ByteArray) : qVal (x :: l) s = if x.n = s then some x.v else qVal l s := rfl
theorem qVal_none : ∀ {l : List Pr} {s : ByteArray}, (∀ x ∈ l, x.n ≠ s) → qVal l s = none
  | [], _, _ => rfl
  | x :: l, s, h => by rw [qVal_cons, if_neg (h x List.mem_cons_self)]; exact qVal_none (fun y hy => h y (List.mem_cons_of_mem _ hy))
theorem qVal_app : ∀ (l m : List Pr) (s : ByteArray), qVal (l ++ m) s = match qVal l s with | some v => some v | none => qVal m s
  | [], _, _ => rfl
  | x :: l, m, s => by
    rw [List.cons_append, qVal_cons, qVal_cons, qVal_app l m s]
    by_cases h : x.n = s
    · rw [if_pos h, if_pos h]
    · rw [if_neg h, if_neg h]
/-- Two lists that rise and tell the same of each name are the same. -/
theorem pair_ext : ∀ {a b : List Pr}, GoodP a → GoodP b → (∀ s, qVal a s = qVal b s) → a = b
  | [], [], _, _, _ => rfl
  | [], y :: m, _, _, h => by
    have := h y.n
    rw [qVal_cons, if_pos rfl] at this
    cases this
  | x :: l, [], _, _, h => by
    have := h x.n
    rw [qVal_cons, if_pos rfl] at this
    cases this
  | x :: l, y :: m, ha, hb, h => by
    have hx := h x.n
    have hy := h y.n
    rw [qVal_cons x l, if_pos rfl] at hx
    rw [qVal_cons y m, if_pos rfl] at hy
    have e : x.n = y.n := by
      cases hxy : bl x.n y.n with
      | true =>
        rw [qVal_none (l := y :: m) (fun z hz e => by
          rcases List.mem_cons.1 hz with rfl | hz
          · exact bl_ne hxy e.symm
          · exact bl_ne (bl_trans hxy (hb.above z hz)) e.symm)] at hx
        cases hx
      | false =>
        rcases bl_tri hxy with hyx | e
        · rw [qVal_none (l := x :: l) (fun z hz e => by
            rcases List.mem_cons.1 hz with rfl | hz
            · exact bl_ne hyx e.symm
            · exact bl_ne (bl_trans hyx (ha.above z hz)) e.symm)] at hy
          cases hy
        · exact e
    have ev : x.v = y.v := by
      rw [qVal_cons, if_pos e.symm] at hx
      exact Option.some.inj hx
    have exy : x = y := Pr.eq e ev
    subst exy
    congr 1
    refine pair_ext ha.tail hb.tail (fun s => ?_)
    by_cases hs : x.n = s
    · subst hs
      rw [qVal_none (fun z hz e => bl_ne (ha.above z hz) e.symm), qVal_none (fun z hz e => bl_ne (hb.above z hz) e.symm)]
    · have := h s
      rwa [qVal_cons, qVal_cons, if_neg hs, if_neg hs] at this

/-! ### others in their places -/
/-- As the document's own With puts one in: q: is it in already? -/
def wIns : Bool → List Pr → Pr → List Pr
  | q, [], m => if q = true then [] else [m]
  | q, y :: l, m => (if q = false ∧ bl y.n m.n = false then [m] else []) ++ ((if y.n = m.n then [] else [y]) ++ wIns (q || !bl y.n m.n) l m)
def wAll (out more : List Pr) : List Pr := more.foldl (wIns false) out
theorem wIns_mem : ∀ {l : List Pr} {q : Bool} {m x : Pr}, x ∈ wIns q l m → x = m ∨ x ∈ l
  | [], q, m, x, h => by
    rw [wIns] at h
    split at h
    · cases h
    · exact Or.inl (List.mem_singleton.1 h)
  | y :: l, q, m, x, h => by
    rw [wIns] at h
    rcases List.mem_append.1 h with h | h
    · split at h
      · exact Or.inl (List.mem_singleton.1 h)
      · cases h
    · rcases List.mem_append.1 h with h | h
      · split at h
        · cases h
        · exact Or.inr (by rw [List.mem_singleton.1 h]; exact List.mem_cons_self)
      · rcases wIns_mem h with h | h
        · exact Or.inl h
        · exact Or.inr (List.mem_cons_of_mem _ h)
/-- It is in: what is behind stands, but one of its name. -/
theorem wIns_in : ∀ {l : List Pr} {m : Pr}, wIns true l m = l.filter (fun y => decide (y.n ≠ m.n))
  | [], _ => rfl
  | y :: l, m => by
    rw [wIns, Bool.true_or, wIns_in, if_neg (fun e => by cases e.1)]
    by_cases h : y.n = m.n
    · rw [if_pos h, List.filter_cons_of_neg (by simpa using h)]
      rfl
    · rw [if_neg h, List.filter_cons_of_pos (by simpa using h)]
      rfl
theorem qVal_filter : ∀ {l : List Pr} {m : Pr} {s : ByteArray}, m.n ≠ s → qVal (l.filter (fun y => decide (y.n ≠ m.n))) s = qVal l s
  | [], _, _, _ => rfl
  | y :: l, m, s, h => by
    by_cases hy : y.n = m.n
    · rw [List.filter_cons_of_neg (by simpa using hy), qVal_filter h, qVal_cons, if_neg (fun e => h (hy.symm.trans e))]
    · rw [List.filter_cons_of_pos (by simpa using hy), qVal_cons, qVal_cons, qVal_filter h]
/-- What is asked by name behind it, of whatever list. -/
theorem wIns_val : ∀ {l : List Pr} {m : Pr} {s : ByteArray}, qVal (wIns false l m) s = if m.n = s then some m.v else qVal l s
  | [], m, s => by
    show qVal [m] s = _
    rw [qVal_cons]
  | y :: l, m, s => by
    rw [wIns]
    cases hb : bl y.n m.n with
    | true =>
      have hne : y.n ≠ m.n := bl_ne hb
      rw [if_neg (fun e => by cases e.2), if_neg hne]
      show qVal (y :: wIns false l m) s = _
      rw [qVal_cons, wIns_val, qVal_cons]
      by_cases hs : m.n = s
      · rw [if_pos hs, if_pos hs, if_neg (fun e => hne (e.trans hs.symm))]
      · rw [if_neg hs, if_neg hs]
    | false =>
      rw [if_pos ⟨rfl, rfl⟩]
      show qVal (m :: ((if y.n = m.n then [] else [y]) ++ wIns true l m)) s = _
      rw [qVal_cons]
      by_cases hs : m.n = s
      · rw [if_pos hs, if_pos hs]
      · rw [if_neg hs, if_neg hs, wIns_in]
        by_cases hy : y.n = m.n
        · rw [if_pos hy, qVal_cons, if_neg (fun e => hs (hy.symm.trans e))]
          exact qVal_filter hs
        · rw [if_neg hy]
          show qVal (y :: l.filter _) s = _
          rw [qVal_cons, qVal_cons, qVal_filter hs]
theorem wIns_good : ∀ {l : List Pr} {m : Pr}, GoodP l → m.ok → GoodP (wIns false l m)
  | [], m, _, hm => GoodP.cons hm GoodP.nil (fun _ h => by cases h)
  | y :: l, m, h, hm => by
    rw [wIns]
    cases hb : bl y.n m.n with
    | true =>
      rw [if_neg (fun e => by cases e.2), if_neg (bl_ne hb)]
      show GoodP (y :: wIns false l m)
      refine GoodP.cons (h.1 y List.mem_cons_self) (wIns_good h.tail hm) (fun z hz => ?_)
      rcases wIns_mem hz with rfl | hz
      · exact hb
      · exact h.above z hz
    | false =>
      rw [if_pos ⟨rfl, rfl⟩]
      show GoodP (m :: ((if y.n = m.n then [] else [y]) ++ wIns true l m))
      rw [wIns_in]
      have hf : GoodP (l.filter (fun z => decide (z.n ≠ m.n))) := ⟨fun z hz => h.tail.1 z (List.mem_filter.1 hz).1, h.tail.2.filter _⟩
      by_cases hy : y.n = m.n
      · rw [if_pos hy]
        refine GoodP.cons hm hf (fun z hz => ?_)
        rw [← hy]
        exact h.above z (List.mem_filter.1 hz).1
      · rw [if_neg hy]
        have hmy : bl m.n y.n = true := (bl_tri hb).elim (fun e => e) (fun e => absurd e hy)
        refine GoodP.cons hm (GoodP.cons (h.1 y List.mem_cons_self) hf (fun z hz => h.above z (List.mem_filter.1 hz).1)) (fun z hz => ?_)
        rcases List.mem_cons.1 hz with rfl | hz
        · exact hmy
        · exact bl_trans hmy (h.above z (List.mem_filter.1 hz).1)
/-- The value that was put last under a name. -/
def lastV (more : List Pr) (s : ByteArray) : Option ByteArray := qVal more.reverse s
theorem wAll_val : ∀ (more out : List Pr) (s : ByteArray), qVal (wAll out more) s = match lastV more s with | some v => some v | none => qVal out s
  | [], _, _ => rfl
  | m :: more, out, s => by
    show qVal (wAll (wIns false out m) more) s = _
    rw [wAll_val more _ s, wIns_val]
    unfold lastV
    rw [List.reverse_cons, qVal_app]
    cases hq : qVal more.reverse s with
    | some v => rfl
    | none =>
      show (if m.n = s then some m.v else qVal out s) = (match qVal [m] s with | some v => some v | none => qVal out s)
      rw [qVal_cons]
      by_cases hs : m.n = s
      · rw [if_pos hs, if_pos hs]
      · rw [if_neg hs, if_neg hs]
        rfl
theorem wAll_good : ∀ {more out : List Pr}, GoodP out → (∀ m ∈ more, m.ok) → GoodP (wAll out more)
  | [], _, h, _ => h
  | m :: more, _, h, hm => wAll_good (more := more) (wIns_good h (hm m List.mem_cons_self)) (fun x hx => hm x (List.mem_cons_of_mem _ hx))
theorem one_okP {m : Pr} : qCheck [m] = 0 ↔ m.ok := by
  rw [qCheck_zero]
  constructor
  · rintro ⟨_, h⟩
    exact h.1 m List.mem_cons_self
  · intro h
    exact ⟨by show 1 ≤ 8; omega, GoodP.cons h GoodP.nil (fun _ h => by cases h)⟩
def oks (more : List Pr) : Bool := more.all (fun m => qCheck [m] == 0)
theorem oks_iff {more : List Pr} : oks more = true ↔ ∀ m ∈ more, m.ok := by
  unfold oks
  rw [List.all_eq_true]
  exact ⟨fun h m hm => one_okP.1 (by simpa using h m hm), fun h m hm => by simpa using one_okP.2 (h m hm)⟩
def qWith (l more : List Pr) : List Pr × Int := if qCheck l = 0 ∧ oks more = true then (if 8 < (wAll l more).length then ([], 3) else (wAll l more, 0)) else ([], 1)
/-- Any list that rises and tells, of each name, what was put last, is the answer. -/
theorem with_unique {l more r : List Pr} (hl : qCheck l = 0) (hm : oks more = true) (hr : GoodP r) (hv : ∀ s, qVal r s = match lastV more s with | some v => some v | none => qVal l s) : r = wAll l more :=
  pair_ext hr (wAll_good ((qCheck_zero l).1 hl).2 (oks_iff.1 hm)) (fun s => by rw [hv, wAll_val])
end Go.Proofs.Ytmcinehbhgaiaaa
