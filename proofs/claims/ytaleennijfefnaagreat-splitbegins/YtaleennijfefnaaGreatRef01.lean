/-
  Contracts of the document's own cursor (package spenceref01), each proved over this seat's translation.
  Conditions: the place lies within the text, which takes at most the greatest length that a string may have.
-/
import Derived.Test.YtaleennijfefnaaGreatCursor
namespace Go.Proofs.YtaleennijfefnaaGreat
open Go.RowKit

theorem rbytes_err {w : World} {b : Nat} {s : ByteArray} {a x : Int} (n : Int) (h : Cur w b s a x) (hx : x ≠ 0) : Calls Tryz.prog 50 #[ptr b, .int .i64 n] w fun e w' => e = .returned (.string ⟨#[]⟩) ∧ w = w' := by
  obtain ⟨h0, h1, h2, h3, h4⟩ := h.cells
  have hx' : (x != 0) = true := by simpa using hx
  go_enter Tryz.func50, Tryz.ntmps50
  go_wp2
  go_ret
  exact ⟨rfl, rfl⟩

theorem rbytes_neg {w : World} {b : Nat} {s : ByteArray} {a : Int} (n : Int) (h : Cur w b s a 0) (hn : n < 0) : Calls Tryz.prog 50 #[ptr b, .int .i64 n] w fun e w' => e = .returned (.string ⟨#[]⟩) ∧ Cur w' b s a 1 ∧ Keep1 b w w' := by
  obtain ⟨h0, h1, h2, h3, h4⟩ := h.cells
  go_enter Tryz.func50, Tryz.ntmps50
  go_wp2
  go_ret
  exact ⟨rfl, h.setErr 1, (Keep.refl _ _).set1 _ _⟩

theorem rbytes_short {w : World} {b : Nat} {s : ByteArray} {a : Int} (n : Int) (h : Cur w b s a 0) (hn0 : 0 ≤ n) (hn : s.size - a < n) : Calls Tryz.prog 50 #[ptr b, .int .i64 n] w fun e w' => e = .returned (.string ⟨#[]⟩) ∧ Cur w' b s a 2 ∧ Keep1 b w w' := by
  obtain ⟨h0, h1, h2, h3, h4⟩ := h.cells
  have lo := h.lo
  have hi := h.hi
  have sz := h.sz
  unfold maxLen at sz
  go_enter Tryz.func50, Tryz.ntmps50
  go_wp2
  all_goals go_quiet (fail)
  all_goals go_wp2
  all_goals go_ret
  all_goals exact ⟨rfl, (h.keep0 ((Keep.refl _ w).drewN _)).setErr 2, ((Keep.refl _ w).drewN _).set1 _ _⟩

theorem rbytes_some {w : World} {b : Nat} {s : ByteArray} {a : Int} (n : Int) (h : Cur w b s a 0) (hn0 : 0 ≤ n) (hn : n ≤ s.size - a) : Calls Tryz.prog 50 #[ptr b, .int .i64 n] w fun e w' => e = .returned (.string (cut s a (a + n))) ∧ Cur w' b s (a + n) 0 ∧ Keep1 b w w' := by
  have lo := h.lo
  have hi := h.hi
  have sz := h.sz
  unfold maxLen at sz
  have hd1 : decide (n < 0) = false := by simp; omega
  have hd2 : decide (s.size - a < n) = false := by simp; omega
  obtain ⟨h0, h1, h2, h3, h4⟩ := h.cells
  go_enter Tryz.func50, Tryz.ntmps50
  go_wp2
  go_quiet (fail)
  go_wp2
  clear h0 h1 h2 h3 h4
  go_loopw [5, 6] (fun g i wr => ∃ k : Nat, (k : Int) ≤ n ∧ i = .int .i64 k ∧ g = .string (s.extract a.toNat (a + k).toNat) ∧ Cur wr b s (a + k) 0 ∧ Keep1 b w wr) (fun _ i _ => (n - intOf i).toNat)
  case atStart =>
    refine ⟨0, by omega, rfl, ?_, ?_, (Keep.refl _ w).drewN _⟩
    · simp; rfl
    · rw [show (a + ((0 : Nat) : Int)) = a from by omega]; exact h.keep0 ((Keep.refl _ w).drewN _)
  case round =>
    obtain ⟨k, hk, rfl, rfl, hc, hkp⟩ := hrel
    by_cases hlt : (k : Int) < n
    · obtain ⟨h0, h1, h2, h3, h4⟩ := hc.cells
      have hb0 : 0 ≤ a + k := by omega
      have hb1 : a + k + 1 ≤ s.size := by omega
      go_wp2
      go_quiet (fail)
      go_wp2
      go_roundw
      case rel =>
        have e1 : a + ((k + 1 : Nat) : Int) = a + k + 1 := by omega
        refine ⟨k + 1, by omega, by go_num, ?_, ?_, (hkp.trans ((Keep.refl _ wr).drewN nq)).set1 _ _⟩
        · rw [e1, show min a.toNat (a + k).toNat = a.toNat from by omega, show max (a + k).toNat (a + k + 1).toNat = (a + k + 1).toNat from by omega]
        · rw [e1]; exact (hc.keep0 ((Keep.refl _ wr).drewN nq)).setAt (by omega) (by omega)
      case measure => simp [intOf]; omega
    · go_wp2
      go_ret
      obtain rfl : n = k := by omega
      exact ⟨rfl, hc, hkp⟩

theorem rbytes_any {w : World} {b : Nat} {s : ByteArray} {a x : Int} (n : Int) (h : Cur w b s a x) : Calls Tryz.prog 50 #[ptr b, .int .i64 n] w fun e w' => e = .returned (.string (cBytes s a x n)) ∧ Cur w' b s (cAt s a x n) (cErr s a x n) ∧ Keep1 b w w' := by
  unfold cBytes cAt cErr
  by_cases hx : x = 0
  · subst hx
    by_cases hn : n < 0
    · rw [if_neg (by omega), if_neg (by omega), if_neg (by omega), if_pos hn]
      exact rbytes_neg n h hn
    · by_cases hl : n ≤ s.size - a
      · rw [if_pos ⟨rfl, by omega, hl⟩, if_pos ⟨rfl, by omega, hl⟩, if_neg (by omega), if_neg hn, if_pos hl]
        exact rbytes_some n h (by omega) hl
      · rw [if_neg (by omega), if_neg (by omega), if_neg (by omega), if_neg hn, if_neg hl]
        exact rbytes_short n h (by omega) (by omega)
  · rw [if_neg (by omega), if_neg (by omega), if_pos hx]
    refine (rbytes_err n h hx).mono ?_
    rintro e w' ⟨rfl, rfl⟩
    exact ⟨rfl, h, Keep.refl _ _⟩

theorem rbyte_any {w : World} {b : Nat} {s : ByteArray} {a x : Int} (h : Cur w b s a x) : Calls Tryz.prog 30 #[ptr b] w fun e w' => e = .returned (.int .i64 (cByte s a x)) ∧ Cur w' b s (cAt s a x 1) (cErr s a x 1) ∧ Keep1 b w w' := by
  have hi := h.hi
  have lo := h.lo
  by_cases hn : x = 0 ∧ a < s.size
  · obtain ⟨c, hc1, hc2⟩ := cut_one s a lo hn.2
    have e1 : cBytes s a x 1 = ⟨#[c]⟩ := (if_pos (by omega)).trans hc1
    have e2 : cByte s a x = c.toNat := by rw [cByte, if_pos hn, hc2]
    have hlt := c.toNat_lt
    rw [e2]
    clear hc1 hc2 e2 hn
    go_enter Tryz.func30, Tryz.ntmps30
    go_wp2_with (go_at_call 50; refine (rbytes_any 1 h).mono ?_; rintro e w' ⟨rfl, hc, hk⟩; rw [e1])
    go_ret
    refine ⟨?_, hc, hk⟩
    show Ending.returned (.int .i64 (wrap64 (c.toNat : Int))) = _
    rw [wrap64_byte]
  · have e1 : cBytes s a x 1 = ⟨#[]⟩ := if_neg (by omega)
    have e2 : cByte s a x = 0 := if_neg hn
    rw [e2]
    clear e2 hn
    go_enter Tryz.func30, Tryz.ntmps30
    go_wp2_with (go_at_call 50; refine (rbytes_any 1 h).mono ?_; rintro e w' ⟨rfl, hc, hk⟩; rw [e1])
    go_ret
    exact ⟨rfl, hc, hk⟩

end Go.Proofs.YtaleennijfefnaaGreat
