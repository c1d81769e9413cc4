/-
  The document's own comparison of places, of two slices that hold the same ones; and what all laws of layer 12 on lists of clocks have in common.
  Conditions: a slice has at most the greatest length.
-/
import Derived.Test.YtkbihpdfafapeaaLaw12
namespace Go.Proofs.Ytkbihpdfafapeaa
open Go.RowKit

set_option maxRecDepth 100000 in
theorem ints12_yes (w : World) (ao bo : Option Addr) (ca cb : Nat) (l : List Nat) (hl : l.length ≤ maxLen) (ha : NumsAt w ao l) (hb : NumsAt w bo l) :
    Calls Try.prog 23 #[.slice ao l.length ca, .slice bo l.length cb] w fun e w' => e = .returned (.bool true) ∧ ∃ n, w' = w.drewN n := by
  have hl' : (l.length : Int) ≤ 9223372036854775807 := by unfold maxLen at hl; omega
  have HA : Hid (NumsAt w ao l) := ha
  have HB : Hid (NumsAt w bo l) := hb
  clear ha hb
  go_enter Try.func23, Try.ntmps23
  go_wp2_with fail
  go_loopw [5] (fun i wr => ∃ (k : Nat), k ≤ l.length ∧ i = .int .i64 k ∧ ∃ n, wr = w.drewN n) (fun i _ => l.length - (intOf i).toNat)
  case atStart => exact ⟨0, by omega, rfl, 0, rfl⟩
  case round =>
    obtain ⟨k, hk, rfl, hWr⟩ := hrel
    have kr := keepN hWr
    have HW : Hid (∃ n, wr = w.drewN n) := hWr
    clear hWr
    by_cases hlt : k < l.length
    · obtain ⟨b1, o1, rfl, x0⟩ := HA.out k hlt
      obtain ⟨b2, o2, rfl, y0⟩ := HB.out k hlt
      have x0 := kr.cell x0 (fun f => f)
      have y0 := kr.cell y0 (fun f => f)
      have i1 : (k : Int) < l.length := by omega
      generalize (l[k] : Int) = V at *
      clear HA HB kr
      go_wp2_with fail
      go_quiet (fail)
      go_wp2
      go_roundw
      case rel => exact ⟨k + 1, by omega, by go_num, drewN_on HW.out _⟩
      case measure => simp [intOf]; omega
    · have i1 : ¬ (k : Int) < l.length := by omega
      go_wp2
      go_ret
      exact ⟨rfl, HW.out⟩
theorem kgreat_len {k : Ck} (h : kGreat k = false) : k.c.length ≤ 100 ∧ k.x.a.size ≤ 100 := by
  unfold kGreat at h
  rw [Bool.or_eq_false_iff] at h
  have h2 := of_decide_eq_false h.2
  exact ⟨(great_no h.1).1, by omega⟩
theorem ceil_len (l : List Ck) : (kCeil l).1.length ≤ 64 := by
  unfold kCeil
  split
  · split
    · exact Nat.zero_le _
    · show (vPuts [] (l.flatMap ceilV)).length ≤ 64
      omega
  · exact Nat.zero_le _
theorem kept_len (l : List Ck) : (kKept l).length ≤ l.length := by
  unfold kKept
  have := List.length_filter_le (keepAt l) (List.range l.length)
  rw [List.length_range] at this
  exact this
theorem keep_len (l : List Ck) : (kKeep l).1.length ≤ l.length := by
  unfold kKeep
  split
  · exact kept_len l
  · exact Nat.zero_le _
end Go.Proofs.Ytkbihpdfafapeaa
