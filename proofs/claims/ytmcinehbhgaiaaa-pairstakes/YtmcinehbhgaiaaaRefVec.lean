/-
  Contracts of the document's own readings of vectors (Great, Count, Same, Check, Above), each proved over this seat's translation.
  Conditions: a list has at most the greatest length that a slice may have, and so has each actor.
-/
import Derived.Test.YtmcinehbhgaiaaaVecMem
import Derived.Test.YtmcinehbhgaiaaaL6
namespace Go.Proofs.Ytmcinehbhgaiaaa
open Go.RowKit

/-- Actors are texts, and counts are numbers of 64 bits. -/
def Fits (l : List En) : Prop := l.length ≤ maxLen ∧ ∀ x ∈ l, x.a.size ≤ maxLen ∧ x.n < 18446744073709551616
def vSame : List En → List En → Bool
  | [], [] => true
  | x :: l, y :: m => if x.a = y.a ∧ x.n = y.n then vSame l m else false
  | _, _ => false
theorem vSame_iff : ∀ {l m : List En}, vSame l m = true ↔ l = m
  | [], [] => ⟨fun _ => rfl, fun _ => rfl⟩
  | [], _ :: _ => ⟨fun h => (by cases h), fun h => (by cases h)⟩
  | _ :: _, [] => ⟨fun h => (by cases h), fun h => (by cases h)⟩
  | x :: l, y :: m => by
    rw [vSame]
    by_cases h : x.a = y.a ∧ x.n = y.n
    · rw [if_pos h, vSame_iff, En.eq h.1 h.2]
      exact ⟨fun e => by rw [e], fun e => by cases e; rfl⟩
    · rw [if_neg h]
      exact ⟨fun e => (by cases e), fun e => absurd (by cases e; exact ⟨rfl, rfl⟩) h⟩
theorem vSame_len {l m : List En} (h : l.length ≠ m.length) : vSame l m = false := by
  cases hb : vSame l m with
  | false => rfl
  | true => exact absurd (by rw [vSame_iff.1 hb]) h

/-- Two texts that are unlike, in the walk's own words. -/
theorem txt_ne {a b : ByteArray} (h : a ≠ b) : (a.toList == b.toList) = false ∧ (a.data.toList == b.data.toList) = false ∧ ¬ a = b := by
  have e : a.data.toList ≠ b.data.toList := fun e => h (ByteArray.ext (Array.toList_inj.1 e))
  refine ⟨?_, beq_eq_false_iff_ne.2 e, h⟩
  rw [ByteArray.toList_eq, ByteArray.toList_eq]
  exact beq_eq_false_iff_ne.2 e

/-! ### Great -/
def vGreat (l : List En) : Bool := decide (100 < l.length) || l.any (fun x => decide (100 < x.a.size))
theorem great_no {l : List En} (h : vGreat l = false) : l.length ≤ 100 ∧ ∀ x ∈ l, x.a.size ≤ 100 := by
  unfold vGreat at h
  rw [Bool.or_eq_false_iff] at h
  have h1 := of_decide_eq_false h.1
  refine ⟨by omega, fun x hx => ?_⟩
  have h2 := List.any_eq_false.1 h.2 x hx
  have h3 : ¬ 100 < x.a.size := fun e => h2 (decide_eq_true e)
  omega
theorem great_drop {l : List En} {k : Nat} (hk : k < l.length) : (l.drop k).any (fun x => decide (100 < x.a.size)) = (decide (100 < l[k].a.size) || (l.drop (k + 1)).any (fun x => decide (100 < x.a.size))) := by
  rw [List.drop_eq_getElem_cons hk, List.any_cons]
/-! ### Count -/
theorem count_drop {l : List En} {k : Nat} (hk : k < l.length) (s : ByteArray) : vCount (l.drop k) s = if l[k].a = s then l[k].n else vCount (l.drop (k + 1)) s := by
  rw [List.drop_eq_getElem_cons hk, count_cons]
/-! ### Same -/
theorem same_drop {l m : List En} {k : Nat} (hk : k < l.length) (hm : k < m.length) : vSame (l.drop k) (m.drop k) = if l[k].a = m[k].a ∧ l[k].n = m[k].n then vSame (l.drop (k + 1)) (m.drop (k + 1)) else false := by
  rw [List.drop_eq_getElem_cons hk, List.drop_eq_getElem_cons hm, vSame]
end Go.Proofs.Ytmcinehbhgaiaaa
