/-
  The walk of the law VarintTakes, out of the contracts of package varint and of the document's own reading.
  Conditions: a string that comes in takes at most the greatest length that a string may have.
-/
import Derived.Test.YtkmfbcjemfncbaaLaw03
namespace Go.Proofs.Ytkmfbcjemfncbaa
open Go.RowKit

set_option maxRecDepth 100000 in
set_option maxHeartbeats 4000000 in
theorem takes_law (w : World) (s : ByteArray) (hs : s.size ≤ maxLen) (m : Int) (hm0 : (Lit.int .u8 m).wf = true) :
    Calls Try.prog 3 #[.string s, .int .u8 m] w fun e w' => e = .returned (.bool true) ∧ Keep0 w w' := by
  have hm := bounds_u8 hm0
  clear hm0
  by_cases hl : (s.size : Int) ≤ 200
  · go_enter Try.func3, Try.ntmps3
    go_wp2_with (first | (go_at_call 7; refine (awake03 w).mono ?_; rintro e w1 ⟨rfl, k1⟩) | (go_at_call 8; refine (new_any _ s hs).mono ?_; rintro e w2 ⟨rfl, h2, k2⟩))
    go_loopw [7] (fun i wr => ∃ (k : Nat) (a x : Int), (k : Int) ≤ m % 40 ∧ i = .int .i64 k ∧ Cur wr w1.heap.size s a x ∧ Cur wr w2.heap.size s a x ∧ Keep0 w wr) (fun i _ => (m % 40).toNat - (intOf i).toNat)
    case atStart => exact ⟨0, 0, 0, by omega, rfl, h2.keep0 ((Keep.refl _ _).alloc _), Cur.new _ s _ hs, (k1.step0 k2).alloc _⟩
    case round =>
      obtain ⟨k, a, x, hk, rfl, hc, hx, hkp⟩ := hrel
      have hne : w1.heap.size < w2.heap.size := h2.lt
      by_cases hlt : (k : Int) < m % 40
      · have hlc := hc.lt
        have hlx := hx.lt
        have hcD : Cur wr.drew _ _ _ _ := hc.keep0 (Keep.refl _ wr).drew
        have hxD : Cur wr.drew _ _ _ _ := hx.keep0 (Keep.refl _ wr).drew
        have kD := hkp.drew
        go_wp2_with fail
        go_region_with (first | (go_at_call 9; refine (take_any hcD).mono ?_; rintro e w4 ⟨rfl, hc4, k4⟩; have hx4 := hxD.keep k4 (by omega)) | (go_at_call 10; refine (rtake_any hx4).mono ?_; rintro e w5 ⟨rfl, hx5, k5⟩; have hc5 := hc4.keep k5 (by omega); have g1 := hx5.cells.2.1; have g2 := hx5.cells.2.2.1) | (go_at_call 11; refine (err_any hc5).mono ?_; rintro e w' ⟨rfl, rfl⟩) | (go_at_call 12; refine (at_any hc5).mono ?_; rintro e w' ⟨rfl, rfl⟩))
        all_goals
          go_wp2_with fail
          go_roundw
          case rel => exact ⟨k + 1, _, _, by omega, by go_num, hc5, hx5, (kD.step1 k4 k1.size).step1 k5 (Nat.le_trans k1.size (by omega))⟩
          case measure => simp [intOf]; omega
      · go_wp2_with (go_at_call 9; refine (take_nil _).mono ?_; rintro e w' ⟨rfl, rfl⟩)
        go_ret
        exact ⟨rfl, hkp⟩
  · go_enter Try.func3, Try.ntmps3
    go_wp2_with (go_at_call 7; refine (awake03 w).mono ?_; rintro e w1 ⟨rfl, k1⟩)
    go_ret
    exact ⟨rfl, k1⟩
end Go.Proofs.Ytkmfbcjemfncbaa
