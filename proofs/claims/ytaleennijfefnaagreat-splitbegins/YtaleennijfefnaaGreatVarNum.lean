/-
  Contracts of layer 3's reckonings: Size (and math/bits.Len64), Zig, Zag, and the document's own, each proved over this seat's translation.
  Conditions: the numbers take 64 bits.
-/
import Derived.Test.YtaleennijfefnaaGreatVarLen
import Derived.Test.YtaleennijfefnaaGreatChecked
import Derived.WalkKit
import Derived.PlainAid
namespace Go.Proofs.YtaleennijfefnaaGreat
open Go.RowKit

/-- Turned about, and back. -/
def zigOf (n : Int) : Int := if n < 0 then -2 * n - 1 else 2 * n
def zagOf (u : Int) : Int := if u % 2 = 0 then u / 2 else -(u / 2) - 1
theorem zig_zag (u : Int) (h0 : 0 ≤ u) : zigOf (zagOf u) = u := by
  unfold zigOf zagOf
  split <;> split <;> omega
theorem zag_zig (n : Int) : zagOf (zigOf n) = n := by
  unfold zigOf zagOf
  split <;> split <;> omega
theorem zagOf_in {u : Int} (h0 : 0 ≤ u) (h1 : u ≤ 18446744073709551615) : -9223372036854775808 ≤ zagOf u ∧ zagOf u ≤ 9223372036854775807 := by
  unfold zagOf
  split <;> omega
theorem zigOf_in {n : Int} (h0 : -9223372036854775808 ≤ n) (h1 : n ≤ 9223372036854775807) : 0 ≤ zigOf n ∧ zigOf n ≤ 18446744073709551615 := by
  unfold zigOf
  split <;> omega

/-- '^n' -/
theorem xor_m1 (n : Int) (h0 : -9223372036854775808 ≤ n) (h1 : n ≤ 9223372036854775807) : bits .xor .i64 (-1) n = -n - 1 := by
  show IntKind.i64.wrap ((BitVec.ofInt 64 (-1) ^^^ BitVec.ofInt 64 n).toNat : Int) = _
  have e1 : BitVec.ofInt 64 (-1) = BitVec.allOnes 64 := by decide
  rw [e1, BitVec.allOnes_xor, BitVec.toNat_not, BitVec.toNat_ofInt, IntKind.wrap_i64]
  omega
/-! ### how many bytes -/
theorem or_one (n : Nat) : n ||| 1 = n / 2 * 2 + 1 := by
  have h1 : (n ||| 1) / 2 = n / 2 := by rw [Nat.or_div_two]; simp
  have h2 : (n ||| 1) % 2 = 1 := by rw [Nat.or_mod_two_eq_one]; right; rfl
  omega
theorem len_one {m : Nat} (h : 1 ≤ m) (hm : m < 2 ^ 64) : Lib.bitLen (m / 2 * 2 + 1) = Lib.bitLen m := by
  rw [Lib.bitLen_half (m / 2 * 2 + 1) (by omega) (by omega), Lib.bitLen_half m (by omega) hm]
  congr 2
  omega
theorem len_small : ∀ n : Fin 128, (Lib.bitLen (n.val / 2 * 2 + 1) + 6) / 7 = 1 := by decide +kernel
theorem len_bytes : ∀ n : Nat, n < 2 ^ 64 → (Lib.bitLen (n / 2 * 2 + 1) + 6) / 7 = (vEnc n).length := by
  intro n
  induction n using Nat.strongRecOn with
  | _ n ih =>
    intro hn
    by_cases h : n < 128
    · rw [vEnc_lt h]
      exact len_small ⟨n, h⟩
    · have e : (n / 2 * 2 + 1) / 2 ^ 7 = n / 128 := by omega
      have hs := Lib.bitLen_shift 7 (n / 2 * 2 + 1) (by omega) (by omega)
      rw [e] at hs
      have h1 := ih (n / 128) (by omega) (by omega)
      rw [len_one (by omega) (by omega)] at h1
      rw [vEnc_ge h, hs, List.length_cons, ← h1]
      generalize Lib.bitLen (n / 128) = B
      omega
theorem size_any (w : World) (n : Nat) (hn : n < 18446744073709551616) : Calls Tryz.prog 78 #[.int .u64 n] w fun e w' => e = .returned (.int .i64 ((vEnc n).length : Nat)) ∧ w = w' := by
  have ho : bits .or .u64 (n : Int) 1 = ((n / 2 * 2 + 1 : Nat) : Int) := by
    have := bits_or_u64_nat n 1 hn (by decide)
    rw [or_one] at this
    exact this
  have hb := len_bytes n hn
  have hl := vEnc_len_lt 9 n (by omega)
  generalize hX : (n / 2 * 2 + 1 : Nat) = X at *
  have hx : ((X : Int)) ≤ 18446744073709551615 := by omega
  have hc := len_any w (X : Int) (by omega) hx
  rw [Int.toNat_natCast] at hc
  generalize Lib.bitLen X = B at *
  generalize (vEnc n).length = L at *
  clear hX
  go_enter Tryz.func78, Tryz.ntmps78
  go_wp2_with (go_at_call 88; refine hc.mono ?_; rintro e w' ⟨rfl, rfl⟩)
  go_ret
  exact ⟨by go_num, rfl⟩
end Go.Proofs.YtaleennijfefnaaGreat
