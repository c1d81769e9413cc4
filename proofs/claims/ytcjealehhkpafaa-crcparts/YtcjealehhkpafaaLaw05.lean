/-
  The walks of the laws CrcSums and CrcMakes, out of the contracts of package crc and of the document's own answers; and the example that every law of layer 5 begins with.
  Conditions: none beyond that a text takes at most the greatest length that a string may have.
-/
import Derived.Test.YtcjealehhkpafaaCrcMore
namespace Go.Proofs.Ytcjealehhkpafaa
open Go.RowKit

theorem sum_nine : cSum [49, 50, 51, 52, 53, 54, 55, 56, 57] = 3421780262 := by kernel_rfl
theorem sum_none : cSum [] = 0 := rfl

/-- The example that every law begins with. -/
theorem awake05 (w : World) : Calls Try.prog 7 #[] w fun e w' => e = .returned (.bool true) ∧ Keep0 w w' := by
  have k0 : Keep0 w (w.alloc (.cells zSums 38)) := (Keep.refl _ w).alloc _
  have h0 := SumsAny.new w 38
  go_enter Try.func7, Try.ntmps7
  go_wp2_with fail
  refine (newSums_any w).mono ?_
  rintro e w1 ⟨rfl, rfl⟩
  go_wp2_with fail
  refine (sum5_any h0 ⟨#[49, 50, 51, 52, 53, 54, 55, 56, 57]⟩ (by decide)).mono ?_
  rw [sum_nine]
  rintro e w2 ⟨rfl, h2, k2⟩
  have kw2 : Keep0 w w2 := k0.step1 k2 (Nat.le_refl _)
  go_wp2_with fail
  refine (sum5_any h2.any ⟨#[]⟩ (by decide)).mono ?_
  rw [sum_none]
  rintro e w3 ⟨rfl, h3, k3⟩
  go_wp2
  go_ret
  exact ⟨rfl, kw2.step1 k3 (Nat.le_refl _)⟩

set_option maxRecDepth 100000 in
theorem sums_law (w : World) (s : ByteArray) (hs : s.size ≤ maxLen) : Calls Try.prog 3 #[.string s] w fun e w' => e = .returned (.bool true) ∧ Keep0 w w' := by
  by_cases hl : (s.size : Int) ≤ 2000
  · have hz := zeroSums
    go_enter Try.func3, Try.ntmps3
    go_wp2_with fail
    refine (awake05 w).mono ?_
    rintro e w1 ⟨rfl, k1⟩
    go_wp2_with fail
    refine (rsum5_any _ s hs).mono ?_
    rintro e w' ⟨rfl, rfl⟩
    have k2 : Keep0 w (w1.alloc (.cells zSums 38)) := k1.alloc _
    have hz2 := SumsAny.new w1 38
    have hlt2 := hz2.lt
    have hge := k1.size
    generalize hB : w1.heap.size = B at *
    generalize hW2 : w1.alloc (.cells zSums 38) = W2 at *
    clear hz hB hW2 k1
    obtain ⟨N, hN⟩ : ∃ N, cSum s.data.toList = N := ⟨_, rfl⟩
    rw [hN]
    go_wp2_with fail
    refine (newSums_any W2).mono ?_
    rintro e w3 ⟨rfl, rfl⟩
    have hn3 := SumsAny.new W2 38
    have hz3 := hz2.keep0 ((Keep.refl _ W2).alloc (.cells zSums 38))
    have k3 : Keep0 w (W2.alloc (.cells zSums 38)) := k2.alloc _
    have hge2 := k2.size
    have hge3 := k3.size
    generalize hB3 : W2.heap.size = B3 at *
    generalize hW3 : W2.alloc (.cells zSums 38) = W3 at *
    clear hz2 hW3 hB3 k2
    go_wp2_with fail
    refine (sum5_any hn3 s hs).mono ?_
    rw [hN]
    rintro e w4 ⟨rfl, h4, k4⟩
    have hz4 := hz3.keep k4 (by omega)
    have kw4 : Keep0 w w4 := k3.step1 k4 (by omega)
    clear hz3 k3 k4 hn3
    go_wp2_with fail
    refine (sum5_nil w4 s hs).mono ?_
    rw [hN]
    rintro e w5 ⟨rfl, k5⟩
    have hz5 := hz4.keep0 k5
    have kw5 : Keep0 w w5 := kw4.step0 k5
    clear hz4 k5 kw4 h4
    go_wp2_with fail
    refine (sum5_any hz5 s hs).mono ?_
    rw [hN]
    rintro e w6 ⟨rfl, h6, k6⟩
    have kw6 : Keep0 w w6 := kw5.step1 k6 (by omega)
    clear hz5 k6 kw5
    go_wp2_with fail
    refine (made5_nil w6).mono ?_
    rintro e w' ⟨rfl, rfl⟩
    go_wp2_with fail
    refine (made5_any h6.any).mono ?_
    rintro e w' ⟨rfl, rfl⟩
    go_wp2
    go_ret
    exact ⟨rfl, kw6⟩
  · go_enter Try.func3, Try.ntmps3
    go_wp2_with (go_at_call 7; refine (awake05 w).mono ?_; rintro e w1 ⟨rfl, k1⟩)
    go_ret
    exact ⟨rfl, k1⟩

set_option maxRecDepth 100000 in
theorem makes_law (w : World) (s : ByteArray) (hs : s.size ≤ maxLen) (more : Bool) : Calls Try.prog 6 #[.string s, .bool more] w fun e w' => e = .returned (.bool true) ∧ Keep0 w w' := by
  by_cases hl : (s.size : Int) ≤ 200
  · cases more with
    | true =>
      go_enter Try.func6, Try.ntmps6
      go_wp2_with fail
      refine (awake05 w).mono ?_
      rintro e w1 ⟨rfl, k1⟩
      go_wp2_with fail
      refine (newSums_any w1).mono ?_
      rintro e w2 ⟨rfl, rfl⟩
      have h2 := SumsAny.new w1 38
      have k2 : Keep0 w (w1.alloc (.cells zSums 38)) := k1.alloc _
      have hge := k1.size
      generalize w1.heap.size = B at *
      generalize w1.alloc (.cells zSums 38) = W2 at *
      clear k1
      go_wp2_with fail
      refine (made5_any h2).mono ?_
      rintro e w' ⟨rfl, rfl⟩
      go_wp2_with fail
      refine (more5_none h2 7 (by decide)).mono ?_
      rintro e w3 ⟨rfl, h3, k3⟩
      have kw3 : Keep0 w w3 := k2.step1 k3 hge
      clear h2 k2 k3
      go_wp2_with fail
      refine (made5_any h3.any).mono ?_
      rintro e w' ⟨rfl, rfl⟩
      go_wp2_with fail
      refine (more5_none h3.any 7 (by decide)).mono ?_
      rintro e w4 ⟨rfl, h4, k4⟩
      have kw4 : Keep0 w w4 := kw3.step1 k4 hge
      clear h3 kw3 k4
      obtain ⟨N, hN⟩ : ∃ N, cSum s.data.toList = N := ⟨_, rfl⟩
      go_wp2_with fail
      refine (sum5_any h4.any s hs).mono ?_
      rw [hN]
      rintro e w5 ⟨rfl, h5, k5⟩
      have kw5 : Keep0 w w5 := kw4.step1 k5 hge
      clear h4 kw4 k5
      go_wp2_with fail
      refine (sum5_any h5.any s hs).mono ?_
      rw [hN]
      rintro e w6 ⟨rfl, h6, k6⟩
      have kw6 : Keep0 w w6 := kw5.step1 k6 hge
      clear h5 kw5 k6
      go_wp2_with fail
      refine (made5_any h6.any).mono ?_
      rintro e w' ⟨rfl, rfl⟩
      go_wp2
      go_ret
      exact ⟨rfl, kw6⟩
    | false =>
      go_enter Try.func6, Try.ntmps6
      go_wp2_with fail
      refine (awake05 w).mono ?_
      rintro e w1 ⟨rfl, k1⟩
      go_wp2_with fail
      refine (newSums_any w1).mono ?_
      rintro e w2 ⟨rfl, rfl⟩
      have h2 := SumsAny.new w1 38
      have k2 : Keep0 w (w1.alloc (.cells zSums 38)) := k1.alloc _
      have hge := k1.size
      generalize w1.heap.size = B at *
      generalize w1.alloc (.cells zSums 38) = W2 at *
      clear k1
      go_wp2_with fail
      refine (made5_any h2).mono ?_
      rintro e w' ⟨rfl, rfl⟩
      go_wp2_with fail
      refine (sum5_any h2 s hs).mono ?_
      rintro e w3 ⟨rfl, h3, k3⟩
      have kw3 : Keep0 w w3 := k2.step1 k3 hge
      clear h2 k2 k3
      go_wp2_with fail
      refine (made5_any h3.any).mono ?_
      rintro e w' ⟨rfl, rfl⟩
      go_wp2_with fail
      refine (more5_none h3.any 7 (by decide)).mono ?_
      rintro e w4 ⟨rfl, h4, k4⟩
      have kw4 : Keep0 w w4 := kw3.step1 k4 hge
      clear h3 kw3 k4
      obtain ⟨N, hN⟩ : ∃ N, cSum s.data.toList = N := ⟨_, rfl⟩
      go_wp2_with fail
      refine (sum5_any h4.any s hs).mono ?_
      rw [hN]
      rintro e w5 ⟨rfl, h5, k5⟩
      have kw5 : Keep0 w w5 := kw4.step1 k5 hge
      clear h4 kw4 k5
      go_wp2_with fail
      refine (sum5_any h5.any s hs).mono ?_
      rw [hN]
      rintro e w6 ⟨rfl, h6, k6⟩
      have kw6 : Keep0 w w6 := kw5.step1 k6 hge
      clear h5 kw5 k6
      go_wp2_with fail
      refine (made5_any h6.any).mono ?_
      rintro e w' ⟨rfl, rfl⟩
      go_wp2
      go_ret
      exact ⟨rfl, kw6⟩
  · go_enter Try.func6, Try.ntmps6
    go_wp2_with (go_at_call 7; refine (awake05 w).mono ?_; rintro e w1 ⟨rfl, k1⟩)
    go_ret
    exact ⟨rfl, k1⟩
end Go.Proofs.Ytcjealehhkpafaa
