/-
  The walk of the law VarintOne, out of the contracts of package varint and of the document's own answers.
  Conditions: none beyond that the numbers take 64 bits.
-/
import Derived.Test.YtkmfbcjemfncbaaLaw03
namespace Go.Proofs.Ytkmfbcjemfncbaa
open Go.RowKit

set_option maxRecDepth 100000 in
set_option maxHeartbeats 4000000 in
theorem one_law (w : World) (n : Int) (hn0 : (Lit.int .u64 n).wf = true) (m : Int) (hm0 : (Lit.int .u64 m).wf = true) :
    Calls Try.prog 5 #[.int .u64 n, .int .u64 m] w fun e w' => e = .returned (.bool true) ∧ Keep0 w w' := by
  have hn := bounds_u64 hn0
  have hm := bounds_u64 hm0
  clear hn0 hm0
  obtain ⟨N, rfl⟩ := Int.eq_ofNat_of_zero_le hn.1
  obtain ⟨M, rfl⟩ := Int.eq_ofNat_of_zero_le hm.1
  have hN : N < 18446744073709551616 := by omega
  have hM : M < 18446744073709551616 := by omega
  obtain ⟨d1, d2⟩ := decode_text hN
  have hvl := vText_le hN
  have hvs := vText_size N
  have hvs' : ((vText N).size : Int) = ((vEnc N).length : Int) := by rw [hvs]
  obtain ⟨Z, hz1, hz2, hz3, hz4⟩ : ∃ Z : Int, IntKind.i64.wrap (M : Int) = Z ∧ wrap64 (M : Int) = Z ∧ -9223372036854775808 ≤ Z ∧ Z ≤ 9223372036854775807 :=
    ⟨wrap64 M, Go.PlainAid.i64_is _, rfl, by unfold wrap64; omega, by unfold wrap64; omega⟩
  have z1 := zagOf_in (u := (N : Int)) (by omega) (by omega)
  have z4 := zigOf_in hz3 hz4
  have c1 : ∀ W : World, Calls Try.prog 25 #[.int .u64 (N : Int)] W fun e w' => e = .returned (.int .i64 (zagOf (N : Int))) ∧ W = w' := fun W => zag_any W N (by omega) (by omega)
  have c2 : ∀ W : World, Calls Try.prog 26 #[.int .u64 (N : Int)] W fun e w' => e = .returned (.int .i64 (zagOf (N : Int))) ∧ W = w' := fun W => rzag_any W N (by omega) (by omega)
  have c3 : ∀ W : World, Calls Try.prog 27 #[.int .i64 (zagOf (N : Int))] W fun e w' => e = .returned (.int .u64 (N : Int)) ∧ W = w' := fun W => by
    have h := zig_any W (zagOf (N : Int)) z1.1 z1.2
    rw [zig_zag (N : Int) (by omega)] at h
    exact h
  have c4 : ∀ W : World, Calls Try.prog 27 #[.int .i64 Z] W fun e w' => e = .returned (.int .u64 (zigOf Z)) ∧ W = w' := fun W => zig_any W Z hz3 hz4
  have c5 : ∀ W : World, Calls Try.prog 28 #[.int .i64 Z] W fun e w' => e = .returned (.int .u64 (zigOf Z)) ∧ W = w' := fun W => rzig_any W Z hz3 hz4
  have c6 : ∀ W : World, Calls Try.prog 25 #[.int .u64 (zigOf Z)] W fun e w' => e = .returned (.int .i64 Z) ∧ W = w' := fun W => by
    have h := zag_any W (zigOf Z) z4.1 z4.2
    rw [zag_zig Z] at h
    exact h
  have hmono := vEnc_mono N M
  have hlN := vEnc_len_lt 9 N (by omega)
  have hlM := vEnc_len_lt 9 M (by omega)
  have sN := fun W => size_any W N hN
  have sM := fun W => size_any W M hM
  generalize zagOf (N : Int) = G at *
  generalize zigOf Z = U at *
  generalize (vEnc N).length = LN at *
  generalize (vEnc M).length = LM at *
  have eN := fun W => encode_any W N hN
  have rN := fun W => rencode_any N W hN
  have dN := fun W => decode_any W (vText N) (by unfold maxLen; omega)
  rw [d1, d2] at dN
  clear d1 d2 hvs hvl hn hm hN hM
  generalize vText N = T at *
  by_cases hle : (N : Int) ≤ M
  · have hml : ¬ ((LM : Int) < LN) := by have := hmono (by omega); omega
    clear hmono
    go_enter Try.func5, Try.ntmps5
    go_wp2_with (go_at_call 7; refine (awake03 w).mono ?_; rintro e w1 ⟨rfl, k1⟩)
    refine (eN w1).mono ?_
    rintro e w2 ⟨rfl, k2⟩
    go_wp2_with fail
    refine (dN w2).mono ?_
    rintro e w3 ⟨rfl, k3⟩
    go_wp2_with fail
    refine (rN w3).mono ?_
    rintro e w4 ⟨rfl, k4⟩
    go_wp2_with fail
    refine (sN w4).mono ?_
    rintro e w' ⟨rfl, rfl⟩
    go_wp2_with fail
    refine (sN w4).mono ?_
    rintro e w' ⟨rfl, rfl⟩
    go_wp2_with fail
    refine (sM w4).mono ?_
    rintro e w' ⟨rfl, rfl⟩
    go_wp2_with fail
    refine (c1 w4).mono ?_
    rintro e w' ⟨rfl, rfl⟩
    go_wp2_with fail
    refine (c2 w4).mono ?_
    rintro e w' ⟨rfl, rfl⟩
    go_wp2_with fail
    refine (c3 w4).mono ?_
    rintro e w' ⟨rfl, rfl⟩
    go_wp2_with fail
    refine (c4 w4).mono ?_
    rintro e w' ⟨rfl, rfl⟩
    go_wp2_with fail
    refine (c5 w4).mono ?_
    rintro e w' ⟨rfl, rfl⟩
    go_wp2_with fail
    refine (c4 w4).mono ?_
    rintro e w' ⟨rfl, rfl⟩
    go_wp2_with fail
    refine (c6 w4).mono ?_
    rintro e w' ⟨rfl, rfl⟩
    go_wp2
    go_ret
    exact ⟨rfl, ((k1.step0 k2).step0 k3).step0 k4⟩
  · clear hmono
    go_enter Try.func5, Try.ntmps5
    go_wp2_with (go_at_call 7; refine (awake03 w).mono ?_; rintro e w1 ⟨rfl, k1⟩)
    refine (eN w1).mono ?_
    rintro e w2 ⟨rfl, k2⟩
    go_wp2_with fail
    refine (dN w2).mono ?_
    rintro e w3 ⟨rfl, k3⟩
    go_wp2_with fail
    refine (rN w3).mono ?_
    rintro e w4 ⟨rfl, k4⟩
    go_wp2_with fail
    refine (sN w4).mono ?_
    rintro e w' ⟨rfl, rfl⟩
    go_wp2_with fail
    refine (c1 w4).mono ?_
    rintro e w' ⟨rfl, rfl⟩
    go_wp2_with fail
    refine (c2 w4).mono ?_
    rintro e w' ⟨rfl, rfl⟩
    go_wp2_with fail
    refine (c3 w4).mono ?_
    rintro e w' ⟨rfl, rfl⟩
    go_wp2_with fail
    refine (c4 w4).mono ?_
    rintro e w' ⟨rfl, rfl⟩
    go_wp2_with fail
    refine (c5 w4).mono ?_
    rintro e w' ⟨rfl, rfl⟩
    go_wp2_with fail
    refine (c4 w4).mono ?_
    rintro e w' ⟨rfl, rfl⟩
    go_wp2_with fail
    refine (c6 w4).mono ?_
    rintro e w' ⟨rfl, rfl⟩
    go_wp2
    go_ret
    exact ⟨rfl, ((k1.step0 k2).step0 k3).step0 k4⟩
end Go.Proofs.Ytkmfbcjemfncbaa
