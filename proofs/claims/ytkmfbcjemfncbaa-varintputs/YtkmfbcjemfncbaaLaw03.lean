/-
  The walks of layer 3's laws VarintReads, VarintOne and VarintTakes, out of the contracts of package varint and of the document's own answers.
  Conditions: a string that comes in takes at most the greatest length that a string may have.
-/
import Derived.Test.YtkmfbcjemfncbaaVarDec
import Derived.Test.YtkmfbcjemfncbaaVarNum
import Derived.Deep.RegionWith
namespace Go.Proofs.Ytkmfbcjemfncbaa
open Go.RowKit

theorem text300 : vText 300 = ⟨#[172, 2]⟩ := by
  unfold vText
  rw [vEnc_ge (by decide), vEnc_lt (by decide)]
  rfl
/-- The example that every law begins with. -/
theorem awake03 (w : World) : Calls Try.prog 7 #[] w fun e w' => e = .returned (.bool true) ∧ Keep0 w w' := by
  have q1 : dErr ⟨#[128, 0]⟩ = 4 := by decide
  have q2 : zigOf (-1) = 1 := by decide
  go_enter Try.func7, Try.ntmps7
  go_wp2_with fail
  refine (decode_any w ⟨#[128, 0]⟩ (by decide)).mono ?_
  rw [q1]
  rintro e w1 ⟨rfl, k1⟩
  go_wp2_with fail
  refine (encode_any w1 300 (by decide)).mono ?_
  rw [text300]
  rintro e w2 ⟨rfl, k2⟩
  go_wp2_with fail
  refine (zig_any w2 (-1) (by decide) (by decide)).mono ?_
  rw [q2]
  rintro e w' ⟨rfl, rfl⟩
  go_wp2
  go_ret
  exact ⟨rfl, k1.step0 k2⟩

theorem reads_law (w : World) (s : ByteArray) (hs : s.size ≤ maxLen) :
    Calls Try.prog 6 #[.string s] w fun e w' => e = .returned (.bool true) ∧ Keep0 w w' := by
  by_cases hl : (s.size : Int) ≤ 200
  · by_cases hd : dErr s = 0
    · obtain ⟨n, hn, q1, q2⟩ := decode_back hd
      go_enter Try.func6, Try.ntmps6
      go_wp2_with (go_at_call 7; refine (awake03 w).mono ?_; rintro e w1 ⟨rfl, k1⟩)
      refine (decode_any w1 s hs).mono ?_
      rw [q1, hd]
      rintro e w2 ⟨rfl, k2⟩
      go_wp2_with fail
      refine (rdecode_any w2 s hs).mono ?_
      rw [q1, hd]
      rintro e w3 ⟨rfl, k3⟩
      go_wp2_with fail
      refine (encode_any w3 n hn).mono ?_
      rw [q2]
      rintro e w4 ⟨rfl, k4⟩
      clear q1 q2 hd
      go_wp2
      go_ret
      exact ⟨rfl, ((k1.step0 k2).step0 k3).step0 k4⟩
    · have hx : (dErr s != 0) = true := by simpa using hd
      have hx2 : (dErr s == 0) = false := by simpa using hd
      clear hd
      go_enter Try.func6, Try.ntmps6
      go_wp2_with (go_at_call 7; refine (awake03 w).mono ?_; rintro e w1 ⟨rfl, k1⟩)
      refine (decode_any w1 s hs).mono ?_
      rintro e w2 ⟨rfl, k2⟩
      go_wp2_with fail
      refine (rdecode_any w2 s hs).mono ?_
      rintro e w3 ⟨rfl, k3⟩
      go_wp2
      go_ret
      exact ⟨rfl, (k1.step0 k2).step0 k3⟩
  · go_enter Try.func6, Try.ntmps6
    go_wp2_with (go_at_call 7; refine (awake03 w).mono ?_; rintro e w1 ⟨rfl, k1⟩)
    go_ret
    exact ⟨rfl, k1⟩
end Go.Proofs.Ytkmfbcjemfncbaa
