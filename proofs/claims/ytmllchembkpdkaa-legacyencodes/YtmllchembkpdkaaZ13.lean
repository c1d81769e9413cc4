/-
  What this seat's claims lean on of the texts Pairs, KeyN.
  Conditions: as each theorem states.
-/
import Derived.WalkKit
import Derived.ProofKit
import Derived.Below
import Derived.Deep.Draws
import Derived.Deep.RegionHeld
import Derived.Test.YtmllchembkpdkaaChecked
import Derived.OpenShut
import Derived.ShutString
import Derived.WalkSpells
import Derived.WalkLawsBesides
import Derived.Deep.QuietTactic
import Derived.BigQuiet
import Derived.Laws.Bits64b
import Derived.PlainAid
import Derived.Lib.AppendStr
import Derived.Deep.AppendLies
import Derived.Laws.IdiomStrings
import Derived.Laws.BytesArg
import Derived.Deep.RegionWith
import Derived.Test.YtmllchembkpdkaaZ8
namespace Go.Proofs.Ytmllchembkpdkaa
open Go.RowKit
structure Pr where
  n : ByteArray
  v : ByteArray
theorem Pr.eq {x y : Pr} (h1 : x.n = y.n) (h2 : x.v = y.v) : x = y := by cases x; cases y; cases h1; cases h2; rfl
def Pr.ok (x : Pr) : Prop := 0 < x.n.size ∧ x.n.size ≤ 32 ∧ x.v.size ≤ 32768
def GoodP (l : List Pr) : Prop := (∀ x ∈ l, x.ok) ∧ l.Pairwise (fun x y => bl x.n y.n = true)
def qOne (p : Option ByteArray) (x : Pr) : Int := if 32 < x.n.size then 3 else if x.n.size = 0 then 14 else if falls p x.n = true then 6 else if 32768 < x.v.size then 3 else 0
def qGo : Option ByteArray → List Pr → Int
  | _, [] => 0
  | p, x :: l => if qOne p x = 0 then qGo (some x.n) l else qOne p x
def qCheck (l : List Pr) : Int := if 8 < l.length then 3 else qGo none l
theorem qOne_zero {p : Option ByteArray} {x : Pr} : qOne p x = 0 ↔ x.ok ∧ ∀ q, p = some q → bl q x.n = true := by
  unfold qOne Pr.ok
  constructor
  · intro h
    by_cases h1 : 32 < x.n.size
    · rw [if_pos h1] at h; exact absurd h (by decide)
    rw [if_neg h1] at h
    by_cases h2 : x.n.size = 0
    · rw [if_pos h2] at h; exact absurd h (by decide)
    rw [if_neg h2] at h
    by_cases h3 : falls p x.n = true
    · rw [if_pos h3] at h; exact absurd h (by decide)
    rw [if_neg h3] at h
    by_cases h4 : 32768 < x.v.size
    · rw [if_pos h4] at h; exact absurd h (by decide)
    refine ⟨⟨by omega, by omega, by omega⟩, fun q e => ?_⟩
    subst e
    rw [falls_some] at h3
    simpa using h3
  · rintro ⟨⟨h1, h2, h3⟩, h4⟩
    rw [if_neg (by omega), if_neg (by omega)]
    cases p with
    | none => rw [falls_none, if_neg (by decide), if_neg (by omega)]
    | some q => rw [falls_some, h4 q rfl, if_neg (by decide), if_neg (by omega)]
theorem qGo_zero : ∀ (l : List Pr) (p : Option ByteArray), qGo p l = 0 ↔ GoodP l ∧ ∀ q, p = some q → ∀ x ∈ l, bl q x.n = true
  | [], p => ⟨fun _ => ⟨⟨(fun _ h => by cases h), List.Pairwise.nil⟩, (fun _ _ _ h => by cases h)⟩, fun _ => rfl⟩
  | x :: l, p => by
    rw [qGo]
    constructor
    · intro h
      by_cases h0 : qOne p x = 0
      · rw [if_pos h0] at h
        obtain ⟨⟨g1, g2⟩, g3⟩ := (qGo_zero l (some x.n)).1 h
        obtain ⟨o1, o2⟩ := qOne_zero.1 h0
        refine ⟨⟨?_, List.pairwise_cons.2 ⟨fun y hy => g3 x.n rfl y hy, g2⟩⟩, fun q e y hy => ?_⟩
        · intro y hy
          rcases List.mem_cons.1 hy with rfl | hy
          · exact o1
          · exact g1 y hy
        · rcases List.mem_cons.1 hy with rfl | hy
          · exact o2 q e
          · exact bl_trans (o2 q e) (g3 x.n rfl y hy)
      · rw [if_neg h0] at h
        exact absurd h h0
    · rintro ⟨⟨g1, g2⟩, g3⟩
      obtain ⟨p1, p2⟩ := List.pairwise_cons.1 g2
      have h0 : qOne p x = 0 := qOne_zero.2 ⟨g1 x List.mem_cons_self, fun q e => g3 q e x List.mem_cons_self⟩
      rw [if_pos h0]
      exact (qGo_zero l (some x.n)).2 ⟨⟨fun y hy => g1 y (List.mem_cons_of_mem _ hy), p2⟩, fun q e y hy => by cases e; exact p1 y hy⟩
theorem qCheck_zero (l : List Pr) : qCheck l = 0 ↔ l.length ≤ 8 ∧ GoodP l := by
  unfold qCheck
  by_cases h : 8 < l.length
  · rw [if_pos h]
    exact ⟨fun e => absurd e (by decide), fun e => absurd e.1 (by omega)⟩
  · rw [if_neg h, qGo_zero]
    exact ⟨fun e => ⟨by omega, e.1⟩, fun e => ⟨e.2, fun q h => by cases h⟩⟩
theorem GoodP.nil : GoodP [] := ⟨(fun _ h => by cases h), List.Pairwise.nil⟩
theorem GoodP.cons {x : Pr} {l : List Pr} (h1 : x.ok) (h2 : GoodP l) (h3 : ∀ y ∈ l, bl x.n y.n = true) : GoodP (x :: l) :=
  ⟨(fun y hy => (List.mem_cons.1 hy).elim (fun e => e ▸ h1) (fun h => h2.1 y h)), List.pairwise_cons.2 ⟨h3, h2.2⟩⟩
end Go.Proofs.Ytmllchembkpdkaa
namespace Go.Proofs.Ytmllchembkpdkaa
open Go.RowKit
def outS (key : ByteArray) (n : Nat) : Int := if 128 < key.size then 3 else if key.size = 0 then 14 else if 16 < n then 3 else if n = 0 then 7 else 0
theorem outS_zero {key : ByteArray} {n : Nat} : outS key n = 0 ↔ 0 < key.size ∧ key.size ≤ 128 ∧ 0 < n ∧ n ≤ 16 := by
  unfold outS
  by_cases h1 : 128 < key.size
  · rw [if_pos h1]; exact ⟨fun e => absurd e (by decide), fun e => by omega⟩
  rw [if_neg h1]
  by_cases h2 : key.size = 0
  · rw [if_pos h2]; exact ⟨fun e => absurd e (by decide), fun e => by omega⟩
  rw [if_neg h2]
  by_cases h3 : 16 < n
  · rw [if_pos h3]; exact ⟨fun e => absurd e (by decide), fun e => by omega⟩
  rw [if_neg h3]
  by_cases h4 : n = 0
  · rw [if_pos h4]; exact ⟨fun e => absurd e (by decide), fun e => by omega⟩
  rw [if_neg h4]
  exact ⟨fun _ => by omega, fun _ => rfl⟩
def kyTest (s : ByteArray) : Int := if s.size = 0 then 14 else 0
def rKey : Rdr ByteArray := rTest ⟨#[]⟩ kyTest (rBlob 128)
def rNs : Rdr Nat := rTest 0 nTest (rCount 16)
theorem pMax128 : pMax 128 = 128 := rfl
theorem pMax16 : pMax 16 = 16 := rfl
section
variable {s : ByteArray} {a : Int}
theorem key_yes (h : bErr s a 0 128 = 0) (h1 : (bTxt s a 0 128).size ≠ 0) : rKey s a = (bTxt s a 0 128, bAt s a 0 128, 0) := by
  have ht : kyTest (rBlob 128 s a).1 = 0 := if_neg h1
  unfold rKey
  rw [rTest_yes (show (rBlob 128 s a).2.2 = 0 from h) ht]
  show (bTxt s a 0 128, bAt s a 0 128, bErr s a 0 128) = _
  rw [h]
end
theorem keyNum_bad {s : ByteArray} {a x : Int} (h : kErr s a x 16 ≠ 0) : kNum s a x 16 = 0 := by
  by_cases ht : tErr s a x = 0
  · by_cases ho : pMax 16 < tNum s a x
    · exact (k_over ht ho).1
    · exact absurd (k_ok ht ho).2 h
  · exact (k_err ht).1
theorem kNum16 {s : ByteArray} {a x : Int} (h : kErr s a x 16 = 0) : kNum s a x 16 ≤ 16 := by
  have hb := pMax16
  by_cases ht : tErr s a x = 0
  · by_cases ho : pMax 16 < tNum s a x
    · have := (k_over (m := 16) ht ho).2; rw [h] at this; exact absurd this (by decide)
    · have := (k_ok (m := 16) ht ho).1; omega
  · have := (k_err (m := 16) ht).1; omega
theorem key_err {s : ByteArray} {a x : Int} (h : x ≠ 0) : kNum s a x 16 = 0 ∧ kErr s a x 16 = x ∧ tAt s a x = a := by
  have ht := tErr_err (s := s) (a := a) h
  obtain ⟨h1, h2⟩ := k_err (s := s) (a := a) (x := x) (m := 16) (by rw [ht]; exact h)
  exact ⟨h1, by rw [h2, ht], tAt_err h⟩
end Go.Proofs.Ytmllchembkpdkaa
