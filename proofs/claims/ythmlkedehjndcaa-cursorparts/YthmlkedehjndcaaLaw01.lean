/-
  The walks of layer 1's laws (CursorNone, CursorSince, CursorParts), out of the contracts of package cursor.
  Conditions: a string that comes in takes at most the greatest length that a string may have.
-/
import Derived.Test.YthmlkedehjndcaaCursor
namespace Go.Proofs.Ythmlkedehjndcaa
open Go.RowKit

/-! ### the example that every law begins with -/
theorem awake_any (w : World) : Calls Try.prog 7 #[] w fun e w' => e = .returned (.bool true) ∧ Keep0 w w' := by
  have q1 : cByte ⟨#[97, 98]⟩ 0 0 = 97 := by decide
  have q2 : cAt ⟨#[97, 98]⟩ 0 0 1 = 1 := by decide
  have q3 : cErr ⟨#[97, 98]⟩ 0 0 1 = 0 := by decide
  have q4 : cBytes ⟨#[97, 98]⟩ 1 0 2 = ⟨#[]⟩ := by decide
  have q5 : cAt ⟨#[97, 98]⟩ 1 0 2 = 1 := by decide
  have q6 : cErr ⟨#[97, 98]⟩ 1 0 2 = 2 := by decide
  go_enter Try.func7, Try.ntmps7
  go_wp2_with fail
  refine (new_any w ⟨#[97, 98]⟩ (by decide)).mono ?_
  rintro e w1 ⟨rfl, h1, k1⟩
  go_wp2_with fail
  refine (byte_any h1).mono ?_
  rw [q1, q2, q3]
  rintro e w2 ⟨rfl, h2, k2⟩
  go_wp2_with fail
  refine (bytes_any 2 h2).mono ?_
  rw [q4, q5, q6]
  rintro e w3 ⟨rfl, h3, k3⟩
  clear q1 q2 q3 q4 q5 q6
  go_wp2_with (first | (go_at_call 17; refine (err_any h3).mono ?_; rintro e w' ⟨rfl, rfl⟩) | (go_at_call 18; refine (at_any h3).mono ?_; rintro e w' ⟨rfl, rfl⟩))
  go_ret
  exact ⟨rfl, (k1.step1 k2 (Nat.le_refl _)).step1 k3 (Nat.le_refl _)⟩

theorem none_any (w : World) (n : Int) (_ : (Lit.int .i64 n).wf = true) (y : Int) (_ : (Lit.int .i64 y).wf = true) : Calls Try.prog 6 #[.int .i64 n, .int .i64 y] w fun e w' => e = .returned (.bool true) ∧ Keep0 w w' := by
  go_enter Try.func6, Try.ntmps6
  go_wp2_with (first | (go_at_call 7; refine (awake_any w).mono ?_; rintro e w1 ⟨rfl, k1⟩) | (go_at_call 13; refine (fail_nil _ _).mono ?_; rintro e w' ⟨rfl, rfl⟩) | (go_at_call 9; refine (byte_nil _).mono ?_; rintro e w' ⟨rfl, rfl⟩) | (go_at_call 11; refine (bytes_nil _ _).mono ?_; rintro e w' ⟨rfl, rfl⟩) | (go_at_call 17; refine (err_nil _).mono ?_; rintro e w' ⟨rfl, rfl⟩) | (go_at_call 15; refine (end_nil _).mono ?_; rintro e w' ⟨rfl, rfl⟩) | (go_at_call 18; refine (at_nil _).mono ?_; rintro e w' ⟨rfl, rfl⟩) | (go_at_call 19; refine (left_nil _).mono ?_; rintro e w' ⟨rfl, rfl⟩) | (go_at_call 22; refine (since_nil _ _).mono ?_; rintro e w' ⟨rfl, rfl⟩) | (go_at_call 20; refine (ahead_nil _ _).mono ?_; rintro e w' ⟨rfl, rfl⟩))
  go_ret
  exact ⟨rfl, k1⟩

theorem since_great (s : ByteArray) (n : Int) (f : Int) (w : World) (hl : ¬ (s.size : Int) ≤ 200) : Calls Try.prog 4 #[.string s, .int .i64 n, .int .i64 f] w fun e w' => e = .returned (.bool true) ∧ Keep0 w w' := by
  go_enter Try.func4, Try.ntmps4
  go_wp2_with (go_at_call 7; refine (awake_any w).mono ?_; rintro e w1 ⟨rfl, k1⟩)
  go_ret
  exact ⟨rfl, k1⟩

theorem since_law (w : World) (s : ByteArray) (hs : s.size ≤ maxLen) (n : Int) (_ : (Lit.int .i64 n).wf = true) (f : Int) (_ : (Lit.int .i64 f).wf = true) :
    Calls Try.prog 4 #[.string s, .int .i64 n, .int .i64 f] w fun e w' => e = .returned (.bool true) ∧ Keep0 w w' := by
  by_cases hl : (s.size : Int) ≤ 200
  · by_cases hn0 : 0 ≤ n
    · by_cases hn1 : n ≤ s.size
      · have q1 : cBytes s 0 0 n = s.extract 0 n.toNat := by unfold cBytes; rw [if_pos (by omega)]; simp [cut]
        have q2 : cAt s 0 0 n = n := by unfold cAt; rw [if_pos (by omega)]; omega
        by_cases hf0 : 0 ≤ f
        · by_cases hf1 : f ≤ n
          · have q3 : cSince s n f = s.extract f.toNat n.toNat := by unfold cSince; rw [if_pos (by omega)]; rfl
            go_enter Try.func4, Try.ntmps4
            go_wp2_with (first | (go_at_call 7; refine (awake_any w).mono ?_; rintro e w1 ⟨rfl, k1⟩) | (go_at_call 8; refine (new_any _ s hs).mono ?_; rintro e w2 ⟨rfl, h2, k2⟩) | (go_at_call 11; refine (bytes_any n h2).mono ?_; rw [q1, q2]; rintro e w3 ⟨rfl, h3, k3⟩) | (go_at_call 18; refine (at_any h3).mono ?_; rintro e w' ⟨rfl, rfl⟩) | (go_at_call 22; refine (since_any f h3).mono ?_; rw [q3]; rintro e w' ⟨rfl, m, rfl⟩))
            go_ret
            exact ⟨rfl, ((k1.step0 k2).step1 k3 k1.size).drewN m⟩
          · have q3 : cSince s n f = ⟨#[]⟩ := by unfold cSince; rw [if_neg (by omega)]
            go_enter Try.func4, Try.ntmps4
            go_wp2_with (first | (go_at_call 7; refine (awake_any w).mono ?_; rintro e w1 ⟨rfl, k1⟩) | (go_at_call 8; refine (new_any _ s hs).mono ?_; rintro e w2 ⟨rfl, h2, k2⟩) | (go_at_call 11; refine (bytes_any n h2).mono ?_; rw [q1, q2]; rintro e w3 ⟨rfl, h3, k3⟩) | (go_at_call 18; refine (at_any h3).mono ?_; rintro e w' ⟨rfl, rfl⟩) | (go_at_call 22; refine (since_any f h3).mono ?_; rw [q3]; rintro e w' ⟨rfl, m, rfl⟩))
            go_ret
            exact ⟨rfl, ((k1.step0 k2).step1 k3 k1.size).drewN m⟩
        · have q3 : cSince s n f = ⟨#[]⟩ := by unfold cSince; rw [if_neg (by omega)]
          go_enter Try.func4, Try.ntmps4
          go_wp2_with (first | (go_at_call 7; refine (awake_any w).mono ?_; rintro e w1 ⟨rfl, k1⟩) | (go_at_call 8; refine (new_any _ s hs).mono ?_; rintro e w2 ⟨rfl, h2, k2⟩) | (go_at_call 11; refine (bytes_any n h2).mono ?_; rw [q1, q2]; rintro e w3 ⟨rfl, h3, k3⟩) | (go_at_call 18; refine (at_any h3).mono ?_; rintro e w' ⟨rfl, rfl⟩) | (go_at_call 22; refine (since_any f h3).mono ?_; rw [q3]; rintro e w' ⟨rfl, m, rfl⟩))
          go_ret
          exact ⟨rfl, ((k1.step0 k2).step1 k3 k1.size).drewN m⟩
      · have q1 : cBytes s 0 0 n = ⟨#[]⟩ := by unfold cBytes; rw [if_neg (by omega)]
        have q2 : cAt s 0 0 n = 0 := by unfold cAt; rw [if_neg (by omega)]
        by_cases hf0 : 0 ≤ f
        · by_cases hf1 : f ≤ 0
          · obtain rfl : f = 0 := by omega
            have q3 : cSince s 0 0 = s.extract 0 0 := by unfold cSince; rw [if_pos (by omega)]; rfl
            go_enter Try.func4, Try.ntmps4
            go_wp2_with (first | (go_at_call 7; refine (awake_any w).mono ?_; rintro e w1 ⟨rfl, k1⟩) | (go_at_call 8; refine (new_any _ s hs).mono ?_; rintro e w2 ⟨rfl, h2, k2⟩) | (go_at_call 11; refine (bytes_any n h2).mono ?_; rw [q1, q2]; rintro e w3 ⟨rfl, h3, k3⟩) | (go_at_call 18; refine (at_any h3).mono ?_; rintro e w' ⟨rfl, rfl⟩) | (go_at_call 22; refine (since_any 0 h3).mono ?_; rw [q3]; rintro e w' ⟨rfl, m, rfl⟩))
            go_ret
            exact ⟨rfl, ((k1.step0 k2).step1 k3 k1.size).drewN m⟩
          · have q3 : cSince s 0 f = ⟨#[]⟩ := by unfold cSince; rw [if_neg (by omega)]
            go_enter Try.func4, Try.ntmps4
            go_wp2_with (first | (go_at_call 7; refine (awake_any w).mono ?_; rintro e w1 ⟨rfl, k1⟩) | (go_at_call 8; refine (new_any _ s hs).mono ?_; rintro e w2 ⟨rfl, h2, k2⟩) | (go_at_call 11; refine (bytes_any n h2).mono ?_; rw [q1, q2]; rintro e w3 ⟨rfl, h3, k3⟩) | (go_at_call 18; refine (at_any h3).mono ?_; rintro e w' ⟨rfl, rfl⟩) | (go_at_call 22; refine (since_any f h3).mono ?_; rw [q3]; rintro e w' ⟨rfl, m, rfl⟩))
            go_ret
            exact ⟨rfl, ((k1.step0 k2).step1 k3 k1.size).drewN m⟩
        · have q3 : cSince s 0 f = ⟨#[]⟩ := by unfold cSince; rw [if_neg (by omega)]
          go_enter Try.func4, Try.ntmps4
          go_wp2_with (first | (go_at_call 7; refine (awake_any w).mono ?_; rintro e w1 ⟨rfl, k1⟩) | (go_at_call 8; refine (new_any _ s hs).mono ?_; rintro e w2 ⟨rfl, h2, k2⟩) | (go_at_call 11; refine (bytes_any n h2).mono ?_; rw [q1, q2]; rintro e w3 ⟨rfl, h3, k3⟩) | (go_at_call 18; refine (at_any h3).mono ?_; rintro e w' ⟨rfl, rfl⟩) | (go_at_call 22; refine (since_any f h3).mono ?_; rw [q3]; rintro e w' ⟨rfl, m, rfl⟩))
          go_ret
          exact ⟨rfl, ((k1.step0 k2).step1 k3 k1.size).drewN m⟩
    · have q1 : cBytes s 0 0 n = ⟨#[]⟩ := by unfold cBytes; rw [if_neg (by omega)]
      have q2 : cAt s 0 0 n = 0 := by unfold cAt; rw [if_neg (by omega)]
      by_cases hf0 : 0 ≤ f
      · by_cases hf1 : f ≤ 0
        · obtain rfl : f = 0 := by omega
          have q3 : cSince s 0 0 = s.extract 0 0 := by unfold cSince; rw [if_pos (by omega)]; rfl
          go_enter Try.func4, Try.ntmps4
          go_wp2_with (first | (go_at_call 7; refine (awake_any w).mono ?_; rintro e w1 ⟨rfl, k1⟩) | (go_at_call 8; refine (new_any _ s hs).mono ?_; rintro e w2 ⟨rfl, h2, k2⟩) | (go_at_call 11; refine (bytes_any n h2).mono ?_; rw [q1, q2]; rintro e w3 ⟨rfl, h3, k3⟩) | (go_at_call 18; refine (at_any h3).mono ?_; rintro e w' ⟨rfl, rfl⟩) | (go_at_call 22; refine (since_any 0 h3).mono ?_; rw [q3]; rintro e w' ⟨rfl, m, rfl⟩))
          go_ret
          exact ⟨rfl, ((k1.step0 k2).step1 k3 k1.size).drewN m⟩
        · have q3 : cSince s 0 f = ⟨#[]⟩ := by unfold cSince; rw [if_neg (by omega)]
          go_enter Try.func4, Try.ntmps4
          go_wp2_with (first | (go_at_call 7; refine (awake_any w).mono ?_; rintro e w1 ⟨rfl, k1⟩) | (go_at_call 8; refine (new_any _ s hs).mono ?_; rintro e w2 ⟨rfl, h2, k2⟩) | (go_at_call 11; refine (bytes_any n h2).mono ?_; rw [q1, q2]; rintro e w3 ⟨rfl, h3, k3⟩) | (go_at_call 18; refine (at_any h3).mono ?_; rintro e w' ⟨rfl, rfl⟩) | (go_at_call 22; refine (since_any f h3).mono ?_; rw [q3]; rintro e w' ⟨rfl, m, rfl⟩))
          go_ret
          exact ⟨rfl, ((k1.step0 k2).step1 k3 k1.size).drewN m⟩
      · have q3 : cSince s 0 f = ⟨#[]⟩ := by unfold cSince; rw [if_neg (by omega)]
        go_enter Try.func4, Try.ntmps4
        go_wp2_with (first | (go_at_call 7; refine (awake_any w).mono ?_; rintro e w1 ⟨rfl, k1⟩) | (go_at_call 8; refine (new_any _ s hs).mono ?_; rintro e w2 ⟨rfl, h2, k2⟩) | (go_at_call 11; refine (bytes_any n h2).mono ?_; rw [q1, q2]; rintro e w3 ⟨rfl, h3, k3⟩) | (go_at_call 18; refine (at_any h3).mono ?_; rintro e w' ⟨rfl, rfl⟩) | (go_at_call 22; refine (since_any f h3).mono ?_; rw [q3]; rintro e w' ⟨rfl, m, rfl⟩))
        go_ret
        exact ⟨rfl, ((k1.step0 k2).step1 k3 k1.size).drewN m⟩
  · exact since_great s n f w hl

theorem parts_great (s : ByteArray) (x : Int) (w : World) (hl : ¬ (s.size : Int) ≤ 200) : Calls Try.prog 5 #[.string s, .int .u8 x] w fun e w' => e = .returned (.bool true) ∧ Keep0 w w' := by
  go_enter Try.func5, Try.ntmps5
  go_wp2_with (go_at_call 7; refine (awake_any w).mono ?_; rintro e w1 ⟨rfl, k1⟩)
  go_ret
  exact ⟨rfl, k1⟩

theorem cut_join (s : ByteArray) (a : Nat) (d : Int) (h0 : 0 ≤ d) : cut s a (a + d) = s.extract a (a + d.toNat) := by
  unfold cut
  congr 1
  omega

theorem parts_law (w : World) (s : ByteArray) (hs : s.size ≤ maxLen) (x : Int) (hx : (Lit.int .u8 x).wf = true) :
    Calls Try.prog 5 #[.string s, .int .u8 x] w fun e w' => e = .returned (.bool true) ∧ Keep0 w w' := by
  by_cases hl : (s.size : Int) ≤ 200
  · have hb := bounds_u8 hx
    have hl2 : decide ((200 : Int) < s.size) = false := by simp; omega
    obtain ⟨c, hc1, hc2⟩ : ∃ c : Int, 1 + x % 9 = c ∧ 1 ≤ c := ⟨1 + x % 9, rfl, by omega⟩
    go_enter Try.func5, Try.ntmps5
    go_wp2_with (first | (go_at_call 7; refine (awake_any w).mono ?_; rintro e w1 ⟨rfl, k1⟩) | (go_at_call 8; refine (new_any _ s hs).mono ?_; rintro e w2 ⟨rfl, h2, k2⟩))
    go_loopw [7, 8] (fun g i wr => ∃ k a : Nat, k ≤ 201 ∧ a ≤ s.size ∧ min k s.size ≤ a ∧ i = .int .i64 k ∧ g = .string (s.extract 0 a) ∧ Cur wr w1.heap.size s a 0 ∧ Keep0 w wr) (fun _ i _ => 201 - (intOf i).toNat)
    case atStart => exact ⟨0, 0, by omega, by omega, by omega, rfl, by simp; rfl, h2, k1.step0 k2⟩
    case round =>
      obtain ⟨k, a, hk, ha, hm, rfl, rfl, hc, hkp⟩ := hrel
      by_cases hlt : k ≤ 200 ∧ a < s.size
      · obtain ⟨hk2, ha2⟩ := hlt
        have hpos : (0 : Int) < s.size - a := by omega
        by_cases hmin : c ≤ s.size - a
        · skip
          go_wp2_with fail
          refine (left_any hc).mono ?_
          rintro e w3 ⟨rfl, hw⟩
          have k3 := keepN hw
          have hc3 := hc.keep0 k3
          clear hw
          go_wp2_with fail
          refine (left_any hc3).mono ?_
          rintro e w4 ⟨rfl, hw⟩
          have k4 := keepN hw
          have hc4 := hc3.keep0 k4
          clear hw
          go_wp2_with fail
          refine (bytes_some c hc4 (by omega) (by omega)).mono ?_
          rw [cut_join s a c (by omega)]
          rintro e w5 ⟨rfl, hc5, k5⟩
          go_wp2
          go_roundw
          case rel => exact ⟨k + 1, a + Int.toNat c, by omega, by omega, by omega, by go_num, rfl, by rw [show ((a + Int.toNat c : Nat) : Int) = a + c from by omega]; exact hc5, ((hkp.step0 k3).step0 k4).step1 k5 k1.size⟩
          case measure => simp [intOf]; omega
        · skip
          go_wp2_with fail
          refine (left_any hc).mono ?_
          rintro e w3 ⟨rfl, hw⟩
          have k3 := keepN hw
          have hc3 := hc.keep0 k3
          clear hw
          go_wp2_with fail
          refine (left_any hc3).mono ?_
          rintro e w4 ⟨rfl, hw⟩
          have k4 := keepN hw
          have hc4 := hc3.keep0 k4
          clear hw
          go_wp2_with fail
          refine (bytes_some (s.size - a) hc4 (by omega) (by omega)).mono ?_
          rw [cut_join s a (s.size - a) (by omega)]
          rintro e w5 ⟨rfl, hc5, k5⟩
          go_wp2
          go_roundw
          case rel => exact ⟨k + 1, a + Int.toNat (s.size - a), by omega, by omega, by omega, by go_num, by rw [show a + Int.toNat (s.size - a) = s.size from by omega]; simp, by rw [show ((a + Int.toNat (s.size - a) : Nat) : Int) = a + (s.size - a) from by omega]; exact hc5, ((hkp.step0 k3).step0 k4).step1 k5 k1.size⟩
          case measure => simp [intOf]; omega
      · have hae : a = s.size := by omega
        have ha0 : ¬ (0 : Int) < s.size - a := by omega
        have e0 : s.extract 0 s.size = s := by simp
        have e1 : cEnd s s.size 0 = 0 := by simp [cEnd]
        subst hae
        rw [e0]
        by_cases hk2 : k ≤ 200
        · go_wp2_with fail
          refine (left_any hc).mono ?_
          rintro e w3 ⟨rfl, hw⟩
          have k3 := keepN hw
          have hc3 := hc.keep0 k3
          clear hw
          go_wp2_with fail
          refine (end_any hc3).mono ?_
          rw [e1]
          rintro e w4 ⟨rfl, hc4, k4⟩
          go_wp2_with fail
          refine (at_any hc4).mono ?_
          rintro e w' ⟨rfl, rfl⟩
          go_wp2
          go_ret
          exact ⟨rfl, (hkp.step0 k3).step1 k4 k1.size⟩
        · go_wp2_with fail
          refine (end_any hc).mono ?_
          rw [e1]
          rintro e w4 ⟨rfl, hc4, k4⟩
          go_wp2_with fail
          refine (at_any hc4).mono ?_
          rintro e w' ⟨rfl, rfl⟩
          go_wp2
          go_ret
          exact ⟨rfl, hkp.step1 k4 k1.size⟩
  · exact parts_great s x w hl
end Go.Proofs.Ythmlkedehjndcaa
