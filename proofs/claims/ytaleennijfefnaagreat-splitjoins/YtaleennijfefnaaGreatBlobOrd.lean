/-
  How the program's own comparing of texts ('<', '<=', '>', '>=') comes to the document's order, byte by byte.
  Conditions: none.
-/
import Derived.Test.YtaleennijfefnaaGreatBlob
namespace Go.Proofs.YtaleennijfefnaaGreat
open Go.RowKit

theorem less_below : ∀ (l r : List UInt8), Op.bytesLess l r = lBelow l r
  | [], [] => rfl
  | _ :: _, [] => rfl
  | [], _ :: _ => rfl
  | a :: l, b :: r => by
    show (decide (a < b) || (a == b && Op.bytesLess l r)) = if a = b then lBelow l r else decide (a.toNat < b.toNat)
    rw [less_below l r]
    by_cases h : a = b
    · subst h
      simp
    · rw [if_neg h]
      have : (a == b) = false := by simpa using h
      simp [this, UInt8.lt_iff_toNat_lt]
theorem below_not : ∀ (l r : List UInt8), (lBelow r l || r == l) = !lBelow l r
  | [], [] => rfl
  | _ :: _, [] => rfl
  | [], _ :: _ => rfl
  | a :: l, b :: r => by
    have ih := below_not l r
    show ((if b = a then lBelow r l else decide (b.toNat < a.toNat)) || (b :: r == a :: l)) = !(if a = b then lBelow l r else decide (a.toNat < b.toNat))
    by_cases h : a = b
    · subst h
      rw [if_pos rfl, if_pos rfl, ← ih]
      simp
    · rw [if_neg h, if_neg (Ne.symm h)]
      have h2 : (b == a) = false := by simpa using Ne.symm h
      have h3 : ((b :: r : List UInt8) == a :: l) = false := by simpa using fun e => absurd e.symm h
      have h4 : a.toNat ≠ b.toNat := fun e => h (UInt8.toNat_inj.1 e)
      rw [h3, Bool.or_false]
      by_cases hlt : b.toNat < a.toNat
      · simp [hlt]; omega
      · simp [hlt]; omega
theorem str_lss (t : TypeId) (a b : ByteArray) : binOp .lss t (.string a) (.string b) = pure (.bool (lBelow a.data.toList b.data.toList)) := by
  simp [binOp, Op.stringOp, ByteArray.toList_eq, less_below]
theorem str_gtr (t : TypeId) (a b : ByteArray) : binOp .gtr t (.string a) (.string b) = pure (.bool (lBelow b.data.toList a.data.toList)) := by
  have h := below_not b.data.toList a.data.toList
  simp only [binOp, Op.stringOp, ByteArray.toList_eq, less_below]
  rw [h, Bool.not_not]
theorem str_leq (t : TypeId) (a b : ByteArray) : binOp .leq t (.string a) (.string b) = pure (.bool (!lBelow b.data.toList a.data.toList)) := by
  have h := below_not b.data.toList a.data.toList
  simp only [binOp, Op.stringOp, ByteArray.toList_eq, less_below]
  rw [h]
theorem str_geq (t : TypeId) (a b : ByteArray) : binOp .geq t (.string a) (.string b) = pure (.bool (!lBelow a.data.toList b.data.toList)) := by
  simp only [binOp, Op.stringOp, ByteArray.toList_eq, less_below]
end Go.Proofs.YtaleennijfefnaaGreat
