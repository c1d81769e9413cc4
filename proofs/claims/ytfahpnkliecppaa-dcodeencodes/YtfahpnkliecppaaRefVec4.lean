/-
  Contracts of the document's own Event and Join of vectors, each proved over this seat's translation.
  Conditions: at most 10,000 entries (Event), at most 100 lists (Join); each actor takes at most the greatest length that a text may have.
-/
import Derived.Test.YtfahpnkliecppaaRefVec3
namespace Go.Proofs.Ytfahpnkliecppaa
open Go.RowKit

/-- A list, and an error, are answered. -/
def REnsE (p : List En × Int) (w : World) (e : Ending) (w' : World) : Prop := ∃ ao cap, e = .returned (.tuple #[.slice ao p.1.length cap, .int .i64 p.2]) ∧ EnsAt w' ao p.1 ∧ (∀ g off m, ao = some ⟨g, off, m⟩ → w.heap.size ≤ g) ∧ Keep0 w w'
theorem REnsE.mk {p : List En × Int} {w w' : World} {e : Ending} {ao : Option Addr} {cap : Nat} (h : e = .returned (.tuple #[.slice ao p.1.length cap, .int .i64 p.2])) (h1 : EnsAt w' ao p.1) (h2 : ∀ g off m, ao = some ⟨g, off, m⟩ → w.heap.size ≤ g) (h3 : Keep0 w w') : REnsE p w e w' := ⟨ao, cap, h, h1, h2, h3⟩
theorem REnsE.bare {p : List En × Int} {w w' : World} {e : Ending} {E : Int} (hp : p = ([], E)) (h : e = .returned (.tuple #[.slice none 0 0, .int .i64 E])) (h3 : Keep0 w w') : REnsE p w e w' := by
  subst hp
  exact ⟨none, 0, h, ens_nil _ _, (fun _ _ _ e => by cases e), h3⟩
theorem count_lt : ∀ {l : List En} (_ : ∀ x ∈ l, x.n < 18446744073709551616) (s : ByteArray), vCount l s < 18446744073709551616
  | [], _, s => by rw [count_nil]; decide
  | x :: l, h, s => by
    rw [count_cons]
    split
    · exact h x List.mem_cons_self
    · exact count_lt (fun y hy => h y (List.mem_cons_of_mem _ hy)) s
theorem event_no {v : List En} {a : ByteArray} (h : ¬ (vCheck v = 0 ∧ 0 < a.size ∧ a.size ≤ 32)) : vEvent v a = ([], 1) := if_neg h
theorem event_over {v : List En} {a : ByteArray} (h : vCheck v = 0 ∧ 0 < a.size ∧ a.size ≤ 32) (h1 : vCount v a = 18446744073709551615) : vEvent v a = ([], 5) := by unfold vEvent; rw [if_pos h, if_pos h1]
theorem event_many {v : List En} {a : ByteArray} (h : vCheck v = 0 ∧ 0 < a.size ∧ a.size ≤ 32) (h1 : vCount v a ≠ 18446744073709551615) (h2 : 64 < (vPut v ⟨a, vCount v a + 1⟩).length) : vEvent v a = ([], 3) := by unfold vEvent; rw [if_pos h, if_neg h1, if_pos h2]
theorem event_yes {v : List En} {a : ByteArray} (h : vCheck v = 0 ∧ 0 < a.size ∧ a.size ≤ 32) (h1 : vCount v a ≠ 18446744073709551615) (h2 : ¬ 64 < (vPut v ⟨a, vCount v a + 1⟩).length) : vEvent v a = (vPut v ⟨a, vCount v a + 1⟩, 0) := by unfold vEvent; rw [if_pos h, if_neg h1, if_neg h2]
/-! ### Join -/
/-- The slice ao holds the lists ls in w. -/
def VecsAt (w : World) (ao : Option Addr) (ls : List (List En)) : Prop := ∀ i (_ : i < ls.length), ∃ b off bo c, ao = some ⟨b, off, none⟩ ∧ w.cell? ⟨b, off + i, none⟩ = some (.slice bo ls[i].length c) ∧ EnsAt w bo ls[i]
theorem VecsAt.keep0 {w w' : World} {ao : Option Addr} {ls : List (List En)} (h : VecsAt w ao ls) (K : Keep0 w w') : VecsAt w' ao ls := by
  intro i hi
  obtain ⟨b, off, bo, c, e, h1, h2⟩ := h i hi
  exact ⟨b, off, bo, c, e, K.cell h1 (fun f => f), h2.keep0 K⟩
theorem all_take {ls : List (List En)} {i : Nat} (hi : i < ls.length) : vAll [] (ls.take (i + 1)) = vPuts (vAll [] (ls.take i)) ls[i] := by
  rw [List.take_succ_eq_append_getElem hi, all_snoc]
theorem puts_take {o l : List En} {k : Nat} (hk : k < l.length) : vPuts o (l.take (k + 1)) = vPut (vPuts o (l.take k)) l[k] := by
  rw [List.take_succ_eq_append_getElem hk, puts_app]
  rfl
theorem join_no {ls : List (List En)} {i : Nat} (hi : i < ls.length) (h : vCheck ls[i] ≠ 0) : vJoin ls = ([], 1) := by
  unfold vJoin
  rw [if_neg]
  intro hr
  exact h (rights_iff.1 hr _ (List.getElem_mem hi))
theorem join_many {ls : List (List En)} (h : rights ls = true) (h1 : 64 < (vAll [] ls).length) : vJoin ls = ([], 3) := by unfold vJoin; rw [if_pos h, if_pos h1]
theorem join_yes {ls : List (List En)} (h : rights ls = true) (h1 : ¬ 64 < (vAll [] ls).length) : vJoin ls = (vAll [] ls, 0) := by unfold vJoin; rw [if_pos h, if_neg h1]
end Go.Proofs.Ytfahpnkliecppaa
