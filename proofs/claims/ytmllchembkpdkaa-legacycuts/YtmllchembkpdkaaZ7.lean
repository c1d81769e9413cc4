/-
  What this seat's claims lean on of the texts Vector.
  Conditions: as each theorem states.
-/
import Derived.WalkKit
import Derived.ProofKit
import Derived.Below
import Derived.Deep.Draws
import Derived.Deep.RegionHeld
import Derived.Test.YtmllchembkpdkaaChecked
import Derived.OpenShut
import Derived.ShutString
import Derived.WalkSpells
import Derived.WalkLawsBesides
import Derived.Deep.QuietTactic
import Derived.BigQuiet
import Derived.Laws.Bits64b
import Derived.PlainAid
import Derived.Lib.AppendStr
import Derived.Deep.AppendLies
import Derived.Laws.IdiomStrings
import Derived.Laws.BytesArg
import Derived.Deep.RegionWith
import Derived.Test.YtmllchembkpdkaaZ5
namespace Go.Proofs.Ytmllchembkpdkaa
open Go.RowKit
def bl (a b : ByteArray) : Bool := lBelow a.data.toList b.data.toList
theorem lBelow_trans : ∀ a b c : List UInt8, lBelow a b = true → lBelow b c = true → lBelow a c = true
  | [], [], _, h, _ => by cases h
  | [], _ :: _, [], _, h => by cases h
  | [], _ :: _, _ :: _, _, _ => rfl
  | _ :: _, [], _, h, _ => by cases h
  | _ :: _, _ :: _, [], _, h => by cases h
  | x :: a, y :: b, z :: c, h1, h2 => by
    rw [lBelow] at h1 h2 ⊢
    by_cases e1 : x = y
    · subst e1
      rw [if_pos rfl] at h1
      by_cases e2 : x = z
      · subst e2
        rw [if_pos rfl] at h2 ⊢
        exact lBelow_trans a b c h1 h2
      · rw [if_neg e2] at h2 ⊢
        exact h2
    · rw [if_neg e1] at h1
      have h1 : x.toNat < y.toNat := of_decide_eq_true h1
      by_cases e2 : y = z
      · subst e2
        rw [if_neg e1]
        exact decide_eq_true h1
      · rw [if_neg e2] at h2
        have h2 : y.toNat < z.toNat := of_decide_eq_true h2
        have e3 : x ≠ z := fun e => by rw [e] at h1; omega
        rw [if_neg e3]
        exact decide_eq_true (by omega)
theorem bl_trans {a b c : ByteArray} (h1 : bl a b = true) (h2 : bl b c = true) : bl a c = true := lBelow_trans _ _ _ h1 h2
structure En where
  a : ByteArray
  n : Nat
theorem En.eq {x y : En} (h1 : x.a = y.a) (h2 : x.n = y.n) : x = y := by cases x; cases y; cases h1; cases h2; rfl
def En.ok (x : En) : Prop := 0 < x.a.size ∧ x.a.size ≤ 32 ∧ x.n ≠ 0
def Good (v : List En) : Prop := (∀ x ∈ v, x.ok) ∧ v.Pairwise (fun x y => bl x.a y.a = true)
def falls : Option ByteArray → ByteArray → Bool
  | none, _ => false
  | some q, a => !bl q a
theorem falls_none (a : ByteArray) : falls none a = false := rfl
theorem falls_some (q a : ByteArray) : falls (some q) a = !bl q a := rfl
def cOne (p : Option ByteArray) (x : En) : Int := if 32 < x.a.size then 3 else if x.a.size = 0 then 14 else if falls p x.a = true then 6 else if x.n = 0 then 7 else 0
def cGo : Option ByteArray → List En → Int
  | _, [] => 0
  | p, x :: l => if cOne p x = 0 then cGo (some x.a) l else cOne p x
def vCheck (v : List En) : Int := if 64 < v.length then 3 else cGo none v
theorem cOne_zero {p : Option ByteArray} {x : En} : cOne p x = 0 ↔ x.ok ∧ ∀ q, p = some q → bl q x.a = true := by
  unfold cOne En.ok
  constructor
  · intro h
    by_cases h1 : 32 < x.a.size
    · rw [if_pos h1] at h; exact absurd h (by decide)
    rw [if_neg h1] at h
    by_cases h2 : x.a.size = 0
    · rw [if_pos h2] at h; exact absurd h (by decide)
    rw [if_neg h2] at h
    cases p with
    | none =>
      rw [falls_none, if_neg (by decide)] at h
      by_cases h4 : x.n = 0
      · rw [if_pos h4] at h; exact absurd h (by decide)
      · exact ⟨⟨by omega, by omega, h4⟩, fun q e => by cases e⟩
    | some q =>
      cases hb : bl q x.a with
      | false => rw [falls_some, hb, if_pos (by decide)] at h; exact absurd h (by decide)
      | true =>
        rw [falls_some, hb, if_neg (by decide)] at h
        by_cases h4 : x.n = 0
        · rw [if_pos h4] at h; exact absurd h (by decide)
        · exact ⟨⟨by omega, by omega, h4⟩, fun q' e => by cases e; exact hb⟩
  · rintro ⟨⟨h1, h2, h3⟩, h4⟩
    rw [if_neg (by omega), if_neg (by omega)]
    cases p with
    | none => rw [falls_none, if_neg (by decide), if_neg h3]
    | some q => rw [falls_some, h4 q rfl, if_neg (by decide), if_neg h3]
theorem cGo_zero : ∀ (v : List En) (p : Option ByteArray), cGo p v = 0 ↔ Good v ∧ ∀ q, p = some q → ∀ x ∈ v, bl q x.a = true
  | [], p => ⟨fun _ => ⟨⟨(fun _ h => by cases h), List.Pairwise.nil⟩, (fun _ _ _ h => by cases h)⟩, fun _ => rfl⟩
  | x :: l, p => by
    rw [cGo]
    constructor
    · intro h
      by_cases h0 : cOne p x = 0
      · rw [if_pos h0] at h
        obtain ⟨⟨g1, g2⟩, g3⟩ := (cGo_zero l (some x.a)).1 h
        obtain ⟨o1, o2⟩ := cOne_zero.1 h0
        refine ⟨⟨?_, List.pairwise_cons.2 ⟨fun y hy => g3 x.a rfl y hy, g2⟩⟩, fun q e y hy => ?_⟩
        · intro y hy
          rcases List.mem_cons.1 hy with rfl | hy
          · exact o1
          · exact g1 y hy
        · rcases List.mem_cons.1 hy with rfl | hy
          · exact o2 q e
          · exact bl_trans (o2 q e) (g3 x.a rfl y hy)
      · rw [if_neg h0] at h
        exact absurd h h0
    · rintro ⟨⟨g1, g2⟩, g3⟩
      obtain ⟨p1, p2⟩ := List.pairwise_cons.1 g2
      have h0 : cOne p x = 0 := cOne_zero.2 ⟨g1 x List.mem_cons_self, fun q e => g3 q e x List.mem_cons_self⟩
      rw [if_pos h0]
      exact (cGo_zero l (some x.a)).2 ⟨⟨fun y hy => g1 y (List.mem_cons_of_mem _ hy), p2⟩, fun q e y hy => by cases e; exact p1 y hy⟩
theorem check_zero (v : List En) : vCheck v = 0 ↔ v.length ≤ 64 ∧ Good v := by
  unfold vCheck
  by_cases h : 64 < v.length
  · rw [if_pos h]
    exact ⟨fun e => absurd e (by decide), fun e => absurd e.1 (by omega)⟩
  · rw [if_neg h, cGo_zero]
    exact ⟨fun e => ⟨by omega, e.1⟩, fun e => ⟨e.2, fun q h => by cases h⟩⟩
theorem Good.nil : Good [] := ⟨(fun _ h => by cases h), List.Pairwise.nil⟩
theorem Good.cons {x : En} {v : List En} (h1 : x.ok) (h2 : Good v) (h3 : ∀ y ∈ v, bl x.a y.a = true) : Good (x :: v) :=
  ⟨(fun y hy => (List.mem_cons.1 hy).elim (fun e => e ▸ h1) (fun h => h2.1 y h)), List.pairwise_cons.2 ⟨h3, h2.2⟩⟩
def vCount : List En → ByteArray → Nat
  | [], _ => 0
  | x :: l, a => if x.a = a then x.n else vCount l a
def vPut : List En → En → List En
  | [], x => [x]
  | y :: l, x => if bl y.a x.a = true then y :: vPut l x else if y.a = x.a then (if y.n < x.n then x :: l else y :: l) else x :: y :: l
def vPuts (o l : List En) : List En := l.foldl vPut o
def vAll (o : List En) (l : List (List En)) : List En := l.foldl vPuts o
theorem all_cons (o v : List En) (l : List (List En)) : vAll o (v :: l) = vAll (vPuts o v) l := rfl
end Go.Proofs.Ytmllchembkpdkaa
