/-
  Clocks in memory: four cells each, and the entries of its vector.
  Conditions: none beyond what each lemma states.
-/
import Derived.Test.YtfahpnkliecppaaDotted
import Derived.Test.YtfahpnkliecppaaVecMem
import Derived.Test.YtfahpnkliecppaaRefVec
namespace Go.Proofs.Ytfahpnkliecppaa
open Go.RowKit

def Ck.cells (k : Ck) (ao : Option Addr) (cap : Nat) : List Value := [.slice ao k.c.length cap, .bool k.d, .string k.x.a, .int .u64 (k.x.n : Int)]
/-- A clock as an argument: its vector's entries are in memory. -/
structure FitsK (k : Ck) : Prop where
  vec : Fits k.c
  dot : k.x.a.size ≤ maxLen
  num : k.x.n < 18446744073709551616
/-- The clock k lies at ⟨b, off⟩. -/
def ClkAt (w : World) (b off : Nat) (k : Ck) (ao : Option Addr) (cap : Nat) : Prop := w.cell? ⟨b, off, none⟩ = some (.slice ao k.c.length cap) ∧ w.cell? ⟨b, off + 1, none⟩ = some (.bool k.d) ∧ w.cell? ⟨b, off + 2, none⟩ = some (.string k.x.a) ∧ w.cell? ⟨b, off + 3, none⟩ = some (.int .u64 (k.x.n : Int))
theorem ClkAt.keep0 {w w' : World} {b off : Nat} {k : Ck} {ao : Option Addr} {cap : Nat} (h : ClkAt w b off k ao cap) (K : Keep0 w w') : ClkAt w' b off k ao cap :=
  ⟨K.cell h.1 (fun f => f), K.cell h.2.1 (fun f => f), K.cell h.2.2.1 (fun f => f), K.cell h.2.2.2 (fun f => f)⟩
theorem clk_new (w : World) (t : TypeId) (k : Ck) (ao : Option Addr) (cap : Nat) : ClkAt (w.alloc (.cells #[.slice ao k.c.length cap, .bool k.d, .string k.x.a, .int .u64 (k.x.n : Int)] t)) w.heap.size 0 k ao cap :=
  ⟨cell_alloc w t rfl, cell_alloc w t rfl, cell_alloc w t rfl, cell_alloc w t rfl⟩
/-- The slice ao holds the clocks l in w. -/
def ClksAt (w : World) (ao : Option Addr) (l : List Ck) : Prop := ∀ i (_ : i < l.length), ∃ b off vo c, ao = some ⟨b, off, none⟩ ∧ ClkAt w b (off + i * 4) l[i] vo c ∧ EnsAt w vo l[i].c
theorem ClksAt.keep0 {w w' : World} {ao : Option Addr} {l : List Ck} (h : ClksAt w ao l) (K : Keep0 w w') : ClksAt w' ao l := by
  intro i hi
  obtain ⟨b, off, vo, c, e, h1, h2⟩ := h i hi
  exact ⟨b, off, vo, c, e, h1.keep0 K, h2.keep0 K⟩
theorem empty_ne12 {a : ByteArray} (h : a.size ≠ 0) : a.toList.isEmpty = false := by
  rw [ByteArray.toList_eq]
  cases hb : a.data.toList with
  | nil => exact absurd (by show a.data.size = 0; rw [← Array.length_toList, hb]; rfl) h
  | cons x l => rfl
theorem empty_eq12 {a : ByteArray} (h : a.size = 0) : a = ⟨#[]⟩ := ByteArray.ext (Array.eq_empty_of_size_eq_zero h)
theorem check_bad {k : Ck} (h : vCheck k.c ≠ 0) : kCheck k = vCheck k.c := if_neg h
theorem check_dot {k : Ck} (h : vCheck k.c = 0) : kCheck k = kDot k := if_pos h
theorem dot_p0 {k : Ck} (hd : k.d = false) (h : k.x.a.size = 0) (h1 : k.x.n = 0) : kDot k = 0 := by unfold kDot; rw [hd, if_neg (by decide), if_pos ⟨h, h1⟩]
theorem dot_p1 {k : Ck} (hd : k.d = false) (h : ¬ (k.x.a.size = 0 ∧ k.x.n = 0)) : kDot k = 1 := by unfold kDot; rw [hd, if_neg (by decide), if_neg h]
theorem dot_3 {k : Ck} (hd : k.d = true) (h : 32 < k.x.a.size) : kDot k = 3 := by unfold kDot; rw [hd, if_pos rfl, if_pos h]
theorem dot_14 {k : Ck} (hd : k.d = true) (h : k.x.a.size = 0) : kDot k = 14 := by unfold kDot; rw [hd, if_pos rfl, if_neg (by omega), if_pos h]
theorem dot_7 {k : Ck} (hd : k.d = true) (h : ¬ 32 < k.x.a.size) (h1 : k.x.a.size ≠ 0) (h2 : k.x.n = 0) : kDot k = 7 := by unfold kDot; rw [hd, if_pos rfl, if_neg h, if_neg h1, if_pos h2]
theorem dot_15 {k : Ck} (hd : k.d = true) (h : ¬ 32 < k.x.a.size) (h1 : k.x.a.size ≠ 0) (h2 : k.x.n ≠ 0) (h3 : k.x.n ≤ vCount k.c k.x.a) : kDot k = 15 := by unfold kDot; rw [hd, if_pos rfl, if_neg h, if_neg h1, if_neg h2, if_pos h3]
theorem dot_0 {k : Ck} (hd : k.d = true) (h : ¬ 32 < k.x.a.size) (h1 : k.x.a.size ≠ 0) (h2 : k.x.n ≠ 0) (h3 : ¬ k.x.n ≤ vCount k.c k.x.a) : kDot k = 0 := by unfold kDot; rw [hd, if_pos rfl, if_neg h, if_neg h1, if_neg h2, if_neg h3]
end Go.Proofs.Ytfahpnkliecppaa
