/-
  Contracts of package blob's readings and of its order of texts, each proved over this seat's translation.
  Conditions: limits take 63 bits; a text takes at most the greatest length that a string may have.
-/
import Derived.Test.YtaleennijfefnaaGreatBlobOrd
import Derived.Test.YtaleennijfefnaaGreatRefBlob
namespace Go.Proofs.YtaleennijfefnaaGreat
open Go.RowKit

set_option linter.unusedVariables false in
theorem above_yes (w : World) (n m : Int) (hm : m ≤ 9223372036854775807) (h0 : 0 ≤ n) (hn : n ≤ 18446744073709551615) (h : pMax m < n) :
    Calls Tryz.prog 82 #[.int .u64 n, .int .i64 m] w fun e w' => e = .returned (.bool true) ∧ w = w' := by
  have hp : pMax m = if m < 0 then 0 else m := rfl
  by_cases hz : m < 0
  · rw [if_pos hz] at hp
    rw [hp] at h
    clear hp
    go_enter Tryz.func82, Tryz.ntmps82
    go_wp2
    go_ret
    exact ⟨rfl, rfl⟩
  · rw [if_neg hz] at hp
    rw [hp] at h
    clear hp
    have h1 : 0 ≤ m := by omega
    have h2 : m ≤ 18446744073709551615 := by omega
    go_enter Tryz.func82, Tryz.ntmps82
    go_wp2
    go_ret
    exact ⟨rfl, rfl⟩
set_option linter.unusedVariables false in
theorem above_no (w : World) (n m : Int) (hm : m ≤ 9223372036854775807) (h0 : 0 ≤ n) (hn : n ≤ 18446744073709551615) (h : ¬ pMax m < n) :
    Calls Tryz.prog 82 #[.int .u64 n, .int .i64 m] w fun e w' => e = .returned (.bool false) ∧ w = w' := by
  have hp : pMax m = if m < 0 then 0 else m := rfl
  by_cases hz : m < 0
  · rw [if_pos hz] at hp
    rw [hp] at h
    clear hp
    go_enter Tryz.func82, Tryz.ntmps82
    go_wp2
    go_ret
    exact ⟨rfl, rfl⟩
  · rw [if_neg hz] at hp
    rw [hp] at h
    clear hp
    have h1 : 0 ≤ m := by omega
    have h2 : m ≤ 18446744073709551615 := by omega
    go_enter Tryz.func82, Tryz.ntmps82
    go_wp2
    go_ret
    exact ⟨rfl, rfl⟩

theorem count6_any {w : World} {b : Nat} {s : ByteArray} {a x : Int} (m : Int) (hm : m ≤ 9223372036854775807) (h : Cur w b s a x) :
    Calls Tryz.prog 73 #[ptr b, .int .i64 m] w fun e w' => e = .returned (.int .i64 (kNum s a x m)) ∧ Cur w' b s (tAt s a x) (kErr s a x m) ∧ Keep1 b w w' := by
  have hb := pMax_bd hm
  have ht := tNum_lt s a x
  by_cases ho : pMax m < tNum s a x
  · have he : tErr s a x = 0 := by
      by_cases he : tErr s a x = 0
      · exact he
      · have := tNum_bad he
        omega
    obtain ⟨q1, q2⟩ := k_over he ho
    have q3 : cFail 0 3 = 3 := rfl
    rw [q1, q2]
    have hA := fun w => above_yes w _ m hm ht.1 ht.2 ho
    clear q1 q2
    go_enter Tryz.func73, Tryz.ntmps73
    go_wp2_with fail
    refine (take_any h).mono ?_
    rw [he]
    rintro e w1 ⟨rfl, h1, k1⟩
    go_wp2_with fail
    refine (hA w1).mono ?_
    rintro e w' ⟨rfl, rfl⟩
    go_wp2_with fail
    refine (fail_any 3 h1).mono ?_
    rw [q3]
    rintro e w2 ⟨rfl, h2, k2⟩
    go_wp2
    go_ret
    exact ⟨rfl, h2, k1.trans k2⟩
  · have q : kNum s a x m = tNum s a x ∧ kErr s a x m = tErr s a x := by
      by_cases he : tErr s a x = 0
      · obtain ⟨q1, q2⟩ := k_ok he ho
        exact ⟨q1, by rw [q2, he]⟩
      · obtain ⟨q1, q2⟩ := k_err (m := m) he
        exact ⟨by rw [q1, tNum_bad he], q2⟩
    rw [q.1, q.2]
    have hA := fun w => above_no w _ m hm ht.1 ht.2 ho
    clear q
    have ho' : tNum s a x ≤ 9223372036854775807 := by omega
    go_enter Tryz.func73, Tryz.ntmps73
    go_wp2_with fail
    refine (take_any h).mono ?_
    rintro e w1 ⟨rfl, h1, k1⟩
    go_wp2_with fail
    refine (hA w1).mono ?_
    rintro e w' ⟨rfl, rfl⟩
    go_wp2
    go_ret
    exact ⟨rfl, h1, k1⟩

theorem blob6_any {w : World} {b : Nat} {s : ByteArray} {a x : Int} (m : Int) (hm : m ≤ 9223372036854775807) (h : Cur w b s a x) :
    Calls Tryz.prog 55 #[ptr b, .int .i64 m] w fun e w' => e = .returned (.string (bTxt s a x m)) ∧ Cur w' b s (bAt s a x m) (bErr s a x m) ∧ Keep1 b w w' := by
  go_enter Tryz.func55, Tryz.ntmps55
  go_wp2_with fail
  refine (count6_any m hm h).mono ?_
  rintro e w1 ⟨rfl, h1, k1⟩
  go_wp2_with fail
  refine (bytes_any _ h1).mono ?_
  rintro e w2 ⟨rfl, h2, k2⟩
  go_wp2
  go_ret
  exact ⟨rfl, h2, k1.trans k2⟩

end Go.Proofs.YtaleennijfefnaaGreat
