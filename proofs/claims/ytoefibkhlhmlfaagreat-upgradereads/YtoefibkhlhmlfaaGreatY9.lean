/-
  What this seat's claims lean on of the texts VcPen, Pairs, KeyN.
  Conditions: as each theorem states.
-/
import Derived.WalkKit
import Derived.ProofKit
import Derived.Below
import Derived.Deep.Draws
import Derived.Deep.RegionHeld
import Derived.Test.YtoefibkhlhmlfaaGreatChecked
import Derived.OpenShut
import Derived.ShutString
import Derived.WalkSpells
import Derived.WalkLawsBesides
import Derived.Deep.QuietTactic
import Derived.BigQuiet
import Derived.Laws.Bits64b
import Derived.PlainAid
import Derived.Lib.AppendStr
import Derived.Deep.AppendLies
import Derived.Laws.IdiomStrings
import Derived.Laws.BytesArg
import Derived.Deep.RegionWith
import Derived.Test.YtoefibkhlhmlfaaGreatY8
namespace Go.Proofs.YtoefibkhlhmlfaaGreat
open Go.RowKit
def pEnt (M : Int) (q : ByteArray × Int) (x : En) : ByteArray × Int := pOne M (wPut M 32 q x.a) (vText x.n)
def pEnts (M : Int) (p : ByteArray × Int) (l : List En) : ByteArray × Int := l.foldl (pEnt M) p
def pVec (M : Int) (p : ByteArray × Int) (v : List En) : ByteArray × Int := if vCheck v = 0 then pEnts M (pOne M p (vText v.length)) v else (p.1, pFail p.2 (vCheck v))
def pVecs (M : Int) (p : ByteArray × Int) (l : List (List En)) : ByteArray × Int := l.foldl (pVec M) p
theorem pEnts_take {M : Int} {p : ByteArray × Int} {l : List En} {k : Nat} (h : k < l.length) : pEnts M p (l.take (k + 1)) = pEnt M (pEnts M p (l.take k)) l[k] := by
  rw [List.take_succ_eq_append_getElem h]
  unfold pEnts
  rw [List.foldl_append]
  rfl
theorem pVecs_take {M : Int} {p : ByteArray × Int} {l : List (List En)} {k : Nat} (h : k < l.length) : pVecs M p (l.take (k + 1)) = pVec M (pVecs M p (l.take k)) l[k] := by
  rw [List.take_succ_eq_append_getElem h]
  unfold pVecs
  rw [List.foldl_append]
  rfl
theorem pVec_yes {M : Int} {p : ByteArray × Int} {v : List En} (h : vCheck v = 0) : pVec M p v = pEnts M (pOne M p (vText v.length)) v := if_pos h
theorem pVec_no {M : Int} {p : ByteArray × Int} {v : List En} (h : vCheck v ≠ 0) : pVec M p v = (p.1, pFail p.2 (vCheck v)) := if_neg h
theorem pEnt_err {M : Int} {t : ByteArray} {x : Int} (h : x ≠ 0) (y : En) : pEnt M (t, x) y = (t, x) := by
  unfold pEnt
  rw [wPut_err h, pOne_err h]
theorem pEnts_err {M : Int} {t : ByteArray} {x : Int} (h : x ≠ 0) : ∀ l, pEnts M (t, x) l = (t, x)
  | [] => rfl
  | y :: l => by
    show pEnts M (pEnt M (t, x) y) l = _
    rw [pEnt_err h]
    exact pEnts_err h l
theorem pVec_err {M : Int} {t : ByteArray} {x : Int} (h : x ≠ 0) (v : List En) : pVec M (t, x) v = (t, x) := by
  by_cases h0 : vCheck v = 0
  · rw [pVec_yes h0, pOne_err h, pEnts_err h]
  · rw [pVec_no h0]
    show (t, pFail x (vCheck v)) = _
    unfold pFail
    rw [if_neg h]
theorem pVecs_err {M : Int} {t : ByteArray} {x : Int} (h : x ≠ 0) : ∀ l, pVecs M (t, x) l = (t, x)
  | [] => rfl
  | v :: l => by
    show pVecs M (pVec M (t, x) v) l = _
    rw [pVec_err h]
    exact pVecs_err h l
theorem pVecs_stop {M : Int} {p : ByteArray × Int} {l : List (List En)} {k : Nat} {t : ByteArray} {x : Int} (h : pVecs M p (l.take k) = (t, x)) (hx : x ≠ 0) : pVecs M p l = (t, x) := by
  have e : l = l.take k ++ l.drop k := (List.take_append_drop k l).symm
  rw [e]
  unfold pVecs at h ⊢
  rw [List.foldl_append, h]
  exact pVecs_err hx _
theorem pEnt_size (M : Int) (q : ByteArray × Int) {x : En} (h : x.a.size ≤ 32) (hn : U64 x.n) : (pEnt M q x).1.size ≤ q.1.size + 52 := by
  have h1 := pOne_size M (wPut M 32 q x.a) (vText x.n)
  have h2 := wPut_size M 32 q x.a (by omega)
  have h3 := (vText_le hn).2
  unfold pEnt
  omega
theorem pEnts_size (M : Int) : ∀ (l : List En) (q : ByteArray × Int), (∀ x ∈ l, x.a.size ≤ 32 ∧ U64 x.n) → (pEnts M q l).1.size ≤ q.1.size + 52 * l.length
  | [], _, _ => by show _ ≤ _ + 52 * 0; exact Nat.le_refl _
  | x :: l, q, h => by
    have h1 := pEnt_size M q (h x List.mem_cons_self).1 (h x List.mem_cons_self).2
    have h2 := pEnts_size M l (pEnt M q x) (fun y hy => h y (List.mem_cons_of_mem _ hy))
    show (pEnts M (pEnt M q x) l).1.size ≤ _
    rw [List.length_cons]
    omega
theorem pVec_size (M : Int) (q : ByteArray × Int) {v : List En} (hn : ∀ x ∈ v, U64 x.n) : (pVec M q v).1.size ≤ q.1.size + 3338 := by
  by_cases h0 : vCheck v = 0
  · obtain ⟨h1, h2⟩ := (check_zero v).1 h0
    have h3 := pEnts_size M v (pOne M q (vText v.length)) (fun x hx => ⟨(h2.1 x hx).2.1, hn x hx⟩)
    have h4 := pOne_size M q (vText v.length)
    have h5 := (vText_le (n := v.length) (by omega)).2
    rw [pVec_yes h0]
    omega
  · rw [pVec_no h0]
    show q.1.size ≤ _
    omega
theorem pEnts_fit {M : Int} : ∀ {l : List En} {t : ByteArray}, (∀ x ∈ l, x.a.size ≤ 32) → (t.size : Int) + (eEnts l).size ≤ M → pEnts M (t, 0) l = (t ++ eEnts l, 0)
  | [], t, _, _ => by
    have e : t ++ eEnts [] = t := ByteArray.append_empty
    rw [e]
    rfl
  | x :: l, t, h, hm => by
    have hx := h x List.mem_cons_self
    have hz : (eEnts (x :: l)).size = (vText x.a.size).size + x.a.size + (vText x.n).size + (eEnts l).size := by
      show ((vText x.a.size ++ x.a) ++ vText x.n ++ eEnts l).size = _
      rw [ByteArray.size_append, ByteArray.size_append, ByteArray.size_append]
    have hp : pMax 32 = 32 := rfl
    have e1 : pEnt M (t, 0) x = (t ++ eEnt x, 0) := by
      unfold pEnt
      rw [wPut_fit (by rw [hp]; omega), pOne_yes (by omega), pOne_yes (by rw [ByteArray.size_append]; omega), pOne_yes (by rw [ByteArray.size_append, ByteArray.size_append]; omega)]
      unfold eEnt bEncT
      rw [ByteArray.append_assoc, ByteArray.append_assoc, ByteArray.append_assoc]
    show pEnts M (pEnt M (t, 0) x) l = _
    rw [e1, pEnts_fit (fun y hy => h y (List.mem_cons_of_mem _ hy)) (by
      have : (eEnt x).size = (vText x.a.size).size + x.a.size + (vText x.n).size := by
        show ((vText x.a.size ++ x.a) ++ vText x.n).size = _
        rw [ByteArray.size_append, ByteArray.size_append]
      rw [ByteArray.size_append]
      omega), ByteArray.append_assoc]
    rfl
theorem pVec_fit {M : Int} {t : ByteArray} {v : List En} (h : okVec v) (hm : (t.size : Int) + (eVec v).size ≤ M) : pVec M (t, 0) v = (t ++ eVec v, 0) := by
  obtain ⟨h1, h2⟩ := (check_zero v).1 h.1
  have hz : (eVec v).size = (vText v.length).size + (eEnts v).size := ByteArray.size_append
  rw [pVec_yes h.1, pOne_yes (by omega), pEnts_fit (fun x hx => (h2.1 x hx).2.1) (by rw [ByteArray.size_append]; omega), ByteArray.append_assoc]
  rfl
def decV (s : ByteArray) : List En × Int := if cEnd s (rVec s 0).2.1 (rVec s 0).2.2 = 0 then ((rVec s 0).1, 0) else ([], cEnd s (rVec s 0).2.1 (rVec s 0).2.2)
theorem dec_enc {v : List En} (h : okVec v) : decV (eVec v) = (v, 0) := by
  have h1 := vec_codec.only h
  unfold decV
  rw [h1]
  have e : cEnd (eVec v) ((eVec v).size : Int) 0 = 0 := if_neg (by omega)
  show (if cEnd (eVec v) ((eVec v).size : Int) 0 = 0 then (v, (0 : Int)) else _) = _
  rw [if_pos e]
theorem dec_zero {s : ByteArray} (h : (decV s).2 = 0) : okVec (decV s).1 ∧ eVec (decV s).1 = s := by
  unfold decV at h ⊢
  by_cases h0 : cEnd s (rVec s 0).2.1 (rVec s 0).2.2 = 0
  · rw [if_pos h0]
    have hp := (vec_codec.place (s := s) (a := 0) (by decide) (by omega)).2
    unfold cEnd cFail at h0
    by_cases hl : (rVec s 0).2.1 < s.size
    · rw [if_pos hl] at h0
      split at h0
      · exact absurd h0 (by decide)
      · rename_i hx; exact absurd h0 hx
    · rw [if_neg hl] at h0
      obtain ⟨h1, h2⟩ := vec_codec.all h0 (by omega)
      exact ⟨h1, h2.symm⟩
  · rw [if_neg h0] at h
    exact absurd h h0
end Go.Proofs.YtoefibkhlhmlfaaGreat
namespace Go.Proofs.YtoefibkhlhmlfaaGreat
open Go.RowKit
structure Pr where
  n : ByteArray
  v : ByteArray
theorem Pr.eq {x y : Pr} (h1 : x.n = y.n) (h2 : x.v = y.v) : x = y := by cases x; cases y; cases h1; cases h2; rfl
def Pr.ok (x : Pr) : Prop := 0 < x.n.size ∧ x.n.size ≤ 32 ∧ x.v.size ≤ 32768
def GoodP (l : List Pr) : Prop := (∀ x ∈ l, x.ok) ∧ l.Pairwise (fun x y => bl x.n y.n = true)
def qOne (p : Option ByteArray) (x : Pr) : Int := if 32 < x.n.size then 3 else if x.n.size = 0 then 14 else if falls p x.n = true then 6 else if 32768 < x.v.size then 3 else 0
def qGo : Option ByteArray → List Pr → Int
  | _, [] => 0
  | p, x :: l => if qOne p x = 0 then qGo (some x.n) l else qOne p x
def qCheck (l : List Pr) : Int := if 8 < l.length then 3 else qGo none l
theorem qOne_zero {p : Option ByteArray} {x : Pr} : qOne p x = 0 ↔ x.ok ∧ ∀ q, p = some q → bl q x.n = true := by
  unfold qOne Pr.ok
  constructor
  · intro h
    by_cases h1 : 32 < x.n.size
    · rw [if_pos h1] at h; exact absurd h (by decide)
    rw [if_neg h1] at h
    by_cases h2 : x.n.size = 0
    · rw [if_pos h2] at h; exact absurd h (by decide)
    rw [if_neg h2] at h
    by_cases h3 : falls p x.n = true
    · rw [if_pos h3] at h; exact absurd h (by decide)
    rw [if_neg h3] at h
    by_cases h4 : 32768 < x.v.size
    · rw [if_pos h4] at h; exact absurd h (by decide)
    refine ⟨⟨by omega, by omega, by omega⟩, fun q e => ?_⟩
    subst e
    rw [falls_some] at h3
    simpa using h3
  · rintro ⟨⟨h1, h2, h3⟩, h4⟩
    rw [if_neg (by omega), if_neg (by omega)]
    cases p with
    | none => rw [falls_none, if_neg (by decide), if_neg (by omega)]
    | some q => rw [falls_some, h4 q rfl, if_neg (by decide), if_neg (by omega)]
theorem qGo_zero : ∀ (l : List Pr) (p : Option ByteArray), qGo p l = 0 ↔ GoodP l ∧ ∀ q, p = some q → ∀ x ∈ l, bl q x.n = true
  | [], p => ⟨fun _ => ⟨⟨(fun _ h => by cases h), List.Pairwise.nil⟩, (fun _ _ _ h => by cases h)⟩, fun _ => rfl⟩
  | x :: l, p => by
    rw [qGo]
    constructor
    · intro h
      by_cases h0 : qOne p x = 0
      · rw [if_pos h0] at h
        obtain ⟨⟨g1, g2⟩, g3⟩ := (qGo_zero l (some x.n)).1 h
        obtain ⟨o1, o2⟩ := qOne_zero.1 h0
        refine ⟨⟨?_, List.pairwise_cons.2 ⟨fun y hy => g3 x.n rfl y hy, g2⟩⟩, fun q e y hy => ?_⟩
        · intro y hy
          rcases List.mem_cons.1 hy with rfl | hy
          · exact o1
          · exact g1 y hy
        · rcases List.mem_cons.1 hy with rfl | hy
          · exact o2 q e
          · exact bl_trans (o2 q e) (g3 x.n rfl y hy)
      · rw [if_neg h0] at h
        exact absurd h h0
    · rintro ⟨⟨g1, g2⟩, g3⟩
      obtain ⟨p1, p2⟩ := List.pairwise_cons.1 g2
      have h0 : qOne p x = 0 := qOne_zero.2 ⟨g1 x List.mem_cons_self, fun q e => g3 q e x List.mem_cons_self⟩
      rw [if_pos h0]
      exact (qGo_zero l (some x.n)).2 ⟨⟨fun y hy => g1 y (List.mem_cons_of_mem _ hy), p2⟩, fun q e y hy => by cases e; exact p1 y hy⟩
theorem qCheck_zero (l : List Pr) : qCheck l = 0 ↔ l.length ≤ 8 ∧ GoodP l := by
  unfold qCheck
  by_cases h : 8 < l.length
  · rw [if_pos h]
    exact ⟨fun e => absurd e (by decide), fun e => absurd e.1 (by omega)⟩
  · rw [if_neg h, qGo_zero]
    exact ⟨fun e => ⟨by omega, e.1⟩, fun e => ⟨e.2, fun q h => by cases h⟩⟩
theorem GoodP.nil : GoodP [] := ⟨(fun _ h => by cases h), List.Pairwise.nil⟩
theorem GoodP.cons {x : Pr} {l : List Pr} (h1 : x.ok) (h2 : GoodP l) (h3 : ∀ y ∈ l, bl x.n y.n = true) : GoodP (x :: l) :=
  ⟨(fun y hy => (List.mem_cons.1 hy).elim (fun e => e ▸ h1) (fun h => h2.1 y h)), List.pairwise_cons.2 ⟨h3, h2.2⟩⟩
end Go.Proofs.YtoefibkhlhmlfaaGreat
namespace Go.Proofs.YtoefibkhlhmlfaaGreat
open Go.RowKit
def outS (key : ByteArray) (n : Nat) : Int := if 128 < key.size then 3 else if key.size = 0 then 14 else if 16 < n then 3 else if n = 0 then 7 else 0
theorem outS_zero {key : ByteArray} {n : Nat} : outS key n = 0 ↔ 0 < key.size ∧ key.size ≤ 128 ∧ 0 < n ∧ n ≤ 16 := by
  unfold outS
  by_cases h1 : 128 < key.size
  · rw [if_pos h1]; exact ⟨fun e => absurd e (by decide), fun e => by omega⟩
  rw [if_neg h1]
  by_cases h2 : key.size = 0
  · rw [if_pos h2]; exact ⟨fun e => absurd e (by decide), fun e => by omega⟩
  rw [if_neg h2]
  by_cases h3 : 16 < n
  · rw [if_pos h3]; exact ⟨fun e => absurd e (by decide), fun e => by omega⟩
  rw [if_neg h3]
  by_cases h4 : n = 0
  · rw [if_pos h4]; exact ⟨fun e => absurd e (by decide), fun e => by omega⟩
  rw [if_neg h4]
  exact ⟨fun _ => by omega, fun _ => rfl⟩
def kyTest (s : ByteArray) : Int := if s.size = 0 then 14 else 0
def rKey : Rdr ByteArray := rTest ⟨#[]⟩ kyTest (rBlob 128)
def rNs : Rdr Nat := rTest 0 nTest (rCount 16)
theorem pMax128 : pMax 128 = 128 := rfl
theorem pMax16 : pMax 16 = 16 := rfl
section
variable {s : ByteArray} {a : Int}
theorem key_yes (h : bErr s a 0 128 = 0) (h1 : (bTxt s a 0 128).size ≠ 0) : rKey s a = (bTxt s a 0 128, bAt s a 0 128, 0) := by
  have ht : kyTest (rBlob 128 s a).1 = 0 := if_neg h1
  unfold rKey
  rw [rTest_yes (show (rBlob 128 s a).2.2 = 0 from h) ht]
  show (bTxt s a 0 128, bAt s a 0 128, bErr s a 0 128) = _
  rw [h]
end
theorem keyNum_bad {s : ByteArray} {a x : Int} (h : kErr s a x 16 ≠ 0) : kNum s a x 16 = 0 := by
  by_cases ht : tErr s a x = 0
  · by_cases ho : pMax 16 < tNum s a x
    · exact (k_over ht ho).1
    · exact absurd (k_ok ht ho).2 h
  · exact (k_err ht).1
theorem kNum16 {s : ByteArray} {a x : Int} (h : kErr s a x 16 = 0) : kNum s a x 16 ≤ 16 := by
  have hb := pMax16
  by_cases ht : tErr s a x = 0
  · by_cases ho : pMax 16 < tNum s a x
    · have := (k_over (m := 16) ht ho).2; rw [h] at this; exact absurd this (by decide)
    · have := (k_ok (m := 16) ht ho).1; omega
  · have := (k_err (m := 16) ht).1; omega
theorem key_err {s : ByteArray} {a x : Int} (h : x ≠ 0) : kNum s a x 16 = 0 ∧ kErr s a x 16 = x ∧ tAt s a x = a := by
  have ht := tErr_err (s := s) (a := a) h
  obtain ⟨h1, h2⟩ := k_err (s := s) (a := a) (x := x) (m := 16) (by rw [ht]; exact h)
  exact ⟨h1, by rw [h2, ht], tAt_err h⟩
end Go.Proofs.YtoefibkhlhmlfaaGreat
