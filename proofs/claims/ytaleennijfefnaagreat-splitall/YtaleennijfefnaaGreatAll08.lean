/-
  The walk of the law SplitAll, out of the contracts of package split and of the document's own answers.
  Conditions: none beyond that a text takes at most the greatest length that a string may have.
-/
import Derived.Test.YtaleennijfefnaaGreatLaw08
import Derived.Test.YtaleennijfefnaaGreatRefSplit
namespace Go.Proofs.YtaleennijfefnaaGreat
open Go.RowKit

theorem splitAll_great (s : ByteArray) (w : World) (hl : ¬ (s.size : Int) ≤ 2000) : Calls Tryz.prog 3 #[.string s] w fun e w' => e = .returned (.bool true) ∧ Keep0 w w' := by
  go_enter Tryz.func3, Tryz.ntmps3
  go_wp2_with (go_at_call 6; refine (awake08 w).mono ?_; rintro e w1 ⟨rfl, k1⟩)
  go_ret
  exact ⟨rfl, k1⟩
theorem sAll_len (s : ByteArray) : (sAll s).1.length ≤ s.size := by
  have go : ∀ (k : Nat) (s : ByteArray) (a : Nat), (sGo k s a).1.length ≤ s.size := by
    intro k
    induction k with
    | zero => intro s a; exact Nat.zero_le _
    | succ k ih =>
      intro s a
      by_cases h : qErr s 0 0 = 0
      · rw [sGo_more h]
        have h1 := ih (sRest s) (a + sN s)
        obtain ⟨_, h2, h3⟩ := s_step h
        rw [sRest_size] at h1
        simp only [List.length_cons]
        omega
      · rw [sGo_stop h]
        exact Nat.zero_le _
  exact go _ s 0
set_option maxRecDepth 100000 in
set_option maxHeartbeats 4000000 in
theorem splitAll_small (w : World) (s : ByteArray) (hl : (s.size : Int) ≤ 2000) : Calls Tryz.prog 3 #[.string s] w fun e w' => e = .returned (.bool true) ∧ Keep0 w w' := by
  have ya := fun W => all8_any W s (by omega)
  have yr := fun W => rall8_any W s (by omega)
  have yd := fun W => rdecode7_any W s (by unfold maxLen; omega)
  have ys := fun W => starts8_any W s (by omega)
  have yb := fun W => begins8_any W s (by unfold maxLen; omega)
  have hn := sAll_len s
  have h1 : (frsOf (sAll s).1).length ≤ maxLen := by rw [frsOf_len]; unfold maxLen; omega
  have h2 : (natsOf (sAll s).1).length ≤ maxLen := by rw [natsOf_len]; unfold maxLen; omega
  rw [sFr_val] at yd
  unfold Fr.val fr at yd
  generalize sFr s = f at *
  generalize qErr s 0 0 = E at *
  generalize qLen s = L at *
  generalize (sAll s).2.1 = LT at *
  generalize (sAll s).2.2 = ER at *
  generalize (sAll s).1 = FS at *
  clear hn
  go_enter Tryz.func3, Tryz.ntmps3
  go_wp2_with fail
  refine (awake08 w).mono ?_
  rintro e w1 ⟨rfl, K1⟩
  go_wp2_with fail
  refine (ya _).mono ?_
  rintro e w2 ⟨ao, ca, rfl, fa, na, k2⟩
  have K2 := K1.trans k2
  clear ya K1 k2 na
  go_wp2_with fail
  refine (yr _).mono ?_
  rintro e w3 ⟨bo, cb, co, cc, rfl, fb, nb, k3⟩
  have K3 := K2.trans k3
  have fa := fa.keep0 k3
  clear yr K2 k3
  go_wp2_with fail
  refine (yd _).mono ?_
  rintro e w4 ⟨rfl, k4⟩
  have k4 := k4.alloc (.cells #[.int .u8 (f.v.toNat : Int), .int .u8 (f.k.toNat : Int), .string f.p] 31)
  have K4 := K3.trans k4
  have fa := fa.keep0 k4
  have fb := fb.keep0 k4
  have nb := nb.keep0 k4
  clear yd K3 k4
  go_wp2_with fail
  generalize w4.alloc (.cells #[.int .u8 (f.v.toNat : Int), .int .u8 (f.k.toNat : Int), .string f.p] 31) = w5 at *
  generalize w4.heap.size = g4 at *
  refine (same_yes _ _ _ _ _ _ h1 fa fb).mono ?_
  rintro e w6 ⟨rfl, hw6⟩
  have k6 := keepN hw6
  have K6 := K4.trans k6
  have nb := nb.keep0 k6
  clear hw6 k6 K4 fa fb
  go_wp2_with fail
  refine (ys _).mono ?_
  rintro e w7 ⟨po, cp, rfl, np, zp, k7⟩
  have K7 := K6.trans k7
  have nb := nb.keep0 k7
  clear ys k7 K6 zp
  go_wp2_with fail
  refine (ints_yes _ _ _ _ _ _ h2 np nb).mono ?_
  rintro e w8 ⟨rfl, hw8⟩
  have K8 := K7.trans (keepN hw8)
  clear hw8 K7 np nb
  go_wp2_with fail
  refine (yb _).mono ?_
  rintro e w9 ⟨rfl, k9⟩
  have K9 := K8.trans k9
  clear yb k9 K8
  go_wp2
  go_ret
  exact ⟨by simp, K9⟩
theorem splitAll_law (w : World) (s : ByteArray) (_ : s.size ≤ maxLen) : Calls Tryz.prog 3 #[.string s] w fun e w' => e = .returned (.bool true) ∧ Keep0 w w' := by
  by_cases hl : (s.size : Int) ≤ 2000
  · exact splitAll_small w s hl
  · exact splitAll_great s w hl
end Go.Proofs.YtaleennijfefnaaGreat
