/-
  The walks of layer 1's laws (CursorNone, CursorSince, CursorParts, CursorPlays), out of the contracts of package cursor.
  Conditions: a string that comes in takes at most the greatest length that a string may have.
-/
import Derived.Test.YthmlkedehjndcaaCursor
namespace Go.Proofs.Ythmlkedehjndcaa
open Go.RowKit

/-! ### the example that every law begins with -/
theorem awake_any (w : World) : Calls Try.prog 7 #[] w fun e w' => e = .returned (.bool true) ∧ Keep0 w w' := by
  have q1 : cByte ⟨#[97, 98]⟩ 0 0 = 97 := by decide
  have q2 : cAt ⟨#[97, 98]⟩ 0 0 1 = 1 := by decide
  have q3 : cErr ⟨#[97, 98]⟩ 0 0 1 = 0 := by decide
  have q4 : cBytes ⟨#[97, 98]⟩ 1 0 2 = ⟨#[]⟩ := by decide
  have q5 : cAt ⟨#[97, 98]⟩ 1 0 2 = 1 := by decide
  have q6 : cErr ⟨#[97, 98]⟩ 1 0 2 = 2 := by decide
  go_enter Try.func7, Try.ntmps7
  go_wp2_with fail
  refine (new_any w ⟨#[97, 98]⟩ (by decide)).mono ?_
  rintro e w1 ⟨rfl, h1, k1⟩
  go_wp2_with fail
  refine (byte_any h1).mono ?_
  rw [q1, q2, q3]
  rintro e w2 ⟨rfl, h2, k2⟩
  go_wp2_with fail
  refine (bytes_any 2 h2).mono ?_
  rw [q4, q5, q6]
  rintro e w3 ⟨rfl, h3, k3⟩
  clear q1 q2 q3 q4 q5 q6
  go_wp2_with (first | (go_at_call 17; refine (err_any h3).mono ?_; rintro e w' ⟨rfl, rfl⟩) | (go_at_call 18; refine (at_any h3).mono ?_; rintro e w' ⟨rfl, rfl⟩))
  go_ret
  exact ⟨rfl, (k1.step1 k2 (Nat.le_refl _)).step1 k3 (Nat.le_refl _)⟩

theorem none_any (n : Int) (_ : (Lit.int .i64 n).wf = true) (y : Int) (_ : (Lit.int .i64 y).wf = true) (w : World) : Calls Try.prog 6 #[.int .i64 n, .int .i64 y] w fun e w' => e = .returned (.bool true) ∧ Keep0 w w' := by
  go_enter Try.func6, Try.ntmps6
  go_wp2_with (first | (go_at_call 7; refine (awake_any w).mono ?_; rintro e w1 ⟨rfl, k1⟩) | (go_at_call 13; refine (fail_nil _ _).mono ?_; rintro e w' ⟨rfl, rfl⟩) | (go_at_call 9; refine (byte_nil _).mono ?_; rintro e w' ⟨rfl, rfl⟩) | (go_at_call 11; refine (bytes_nil _ _).mono ?_; rintro e w' ⟨rfl, rfl⟩) | (go_at_call 17; refine (err_nil _).mono ?_; rintro e w' ⟨rfl, rfl⟩) | (go_at_call 15; refine (end_nil _).mono ?_; rintro e w' ⟨rfl, rfl⟩) | (go_at_call 18; refine (at_nil _).mono ?_; rintro e w' ⟨rfl, rfl⟩) | (go_at_call 19; refine (left_nil _).mono ?_; rintro e w' ⟨rfl, rfl⟩) | (go_at_call 22; refine (since_nil _ _).mono ?_; rintro e w' ⟨rfl, rfl⟩) | (go_at_call 20; refine (ahead_nil _ _).mono ?_; rintro e w' ⟨rfl, rfl⟩))
  go_ret
  exact ⟨rfl, k1⟩
end Go.Proofs.Ythmlkedehjndcaa
