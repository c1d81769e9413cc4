/-
  The texts VarLen, VarNum of this seat, one behind the other.
  Conditions: as each says.
-/
import Derived.Test.YtmgfalkelembkaaL3
import Derived.Test.YtmgfalkelembkaaChecked
import Derived.WalkKit
import Derived.Lib.BitFns
import Derived.PlainAid
/-
  The contract of math/bits.Len64 over this seat's translation; Size (layer 3).
  Conditions: the number takes 64 bits.
-/
namespace Go.Proofs.Ytmgfalkelembkaa
open Go.RowKit
theorem len_wrap (k B : Nat) (hB : B ≤ 8) (hk : k ≤ 56) : wrap64 ((k : Int) + wrap64 (B : Int)) = ((k + B : Nat) : Int) := by
  unfold wrap64
  omega
theorem len_wrap0 (B : Nat) (hB : B ≤ 8) : wrap64 (wrap64 (B : Int)) = (B : Int) := by
  unfold wrap64
  omega
theorem len_fin (x y : Int) (k : Nat) (hx : x.toNat < 2 ^ 64) (hk : 2 ^ k ≤ x.toNat) (hy : y.toNat = x.toNat / 2 ^ k) (hy2 : y.toNat < 256) (hk2 : k ≤ 56) :
    wrap64 ((k : Int) + wrap64 (Lib.bitLen y.toNat)) = (Lib.bitLen x.toNat : Int) := by
  have h := Lib.bitLen_shift k x.toNat hk hx
  rw [← hy] at h
  rw [h]
  exact len_wrap k _ (Lib.bitLen_le8 ⟨y.toNat, hy2⟩) hk2
theorem len_fin0 (x : Int) (hx : x.toNat < 256) : wrap64 (wrap64 (Lib.bitLen x.toNat)) = (Lib.bitLen x.toNat : Int) := len_wrap0 _ (Lib.bitLen_le8 ⟨x.toNat, hx⟩)
theorem tab_get (T : ByteArray) (n : Nat) (h : n < T.size) : (((T[((n : Int).toNat)]?).getD 0).toNat : Int) = ((T[n]'h).toNat : Int) := by simp [h]
theorem len_tab (n : Nat) (h : n < Lib.len8tab.size) : ((Lib.len8tab[n]'h).toNat : Int) = (Lib.bitLen n : Int) := by
  have h' : n < 256 := by rw [Lib.len8tab_size] at h; exact h
  exact (tab_get Lib.len8tab n h).symm.trans (Lib.len8_eq ⟨n, h'⟩)
theorem len_x {x : Int} (h0 : 0 ≤ x) (h1 : x ≤ 18446744073709551615) : x.toNat < 2 ^ 64 := by omega
theorem len_ge {x : Int} {m : Nat} (h0 : 0 ≤ x) (h : (m : Int) ≤ x) : m ≤ x.toNat := by omega
theorem len_q {x y : Int} {m : Nat} (h0 : 0 ≤ x) (h : y = x / m) : y.toNat = x.toNat / m := by
  obtain ⟨n, rfl⟩ := Int.eq_ofNat_of_zero_le h0
  rw [h, ← Int.natCast_ediv]
  simp only [Int.toNat_natCast]
end Go.Proofs.Ytmgfalkelembkaa
/-
  Contracts of layer 3's reckonings: Size (and math/bits.Len64), Zig, Zag, and the document's own, each proved over this seat's translation.
  Conditions: the numbers take 64 bits.
-/
namespace Go.Proofs.Ytmgfalkelembkaa
open Go.RowKit

/-- Turned about, and back. -/
def zigOf (n : Int) : Int := if n < 0 then -2 * n - 1 else 2 * n
def zagOf (u : Int) : Int := if u % 2 = 0 then u / 2 else -(u / 2) - 1
theorem zig_zag (u : Int) (h0 : 0 ≤ u) : zigOf (zagOf u) = u := by
  unfold zigOf zagOf
  split <;> split <;> omega
theorem zag_zig (n : Int) : zagOf (zigOf n) = n := by
  unfold zigOf zagOf
  split <;> split <;> omega
theorem zagOf_in {u : Int} (h0 : 0 ≤ u) (h1 : u ≤ 18446744073709551615) : -9223372036854775808 ≤ zagOf u ∧ zagOf u ≤ 9223372036854775807 := by
  unfold zagOf
  split <;> omega
theorem zigOf_in {n : Int} (h0 : -9223372036854775808 ≤ n) (h1 : n ≤ 9223372036854775807) : 0 ≤ zigOf n ∧ zigOf n ≤ 18446744073709551615 := by
  unfold zigOf
  split <;> omega

/-- '^n' -/
theorem xor_m1 (n : Int) (h0 : -9223372036854775808 ≤ n) (h1 : n ≤ 9223372036854775807) : bits .xor .i64 (-1) n = -n - 1 := by
  show IntKind.i64.wrap ((BitVec.ofInt 64 (-1) ^^^ BitVec.ofInt 64 n).toNat : Int) = _
  have e1 : BitVec.ofInt 64 (-1) = BitVec.allOnes 64 := by decide
  rw [e1, BitVec.allOnes_xor, BitVec.toNat_not, BitVec.toNat_ofInt, IntKind.wrap_i64]
  omega
/-! ### how many bytes -/
theorem or_one (n : Nat) : n ||| 1 = n / 2 * 2 + 1 := by
  have h1 : (n ||| 1) / 2 = n / 2 := by rw [Nat.or_div_two]; simp
  have h2 : (n ||| 1) % 2 = 1 := by rw [Nat.or_mod_two_eq_one]; right; rfl
  omega
theorem len_one {m : Nat} (h : 1 ≤ m) (hm : m < 2 ^ 64) : Lib.bitLen (m / 2 * 2 + 1) = Lib.bitLen m := by
  rw [Lib.bitLen_half (m / 2 * 2 + 1) (by omega) (by omega), Lib.bitLen_half m (by omega) hm]
  congr 2
  omega
theorem len_small : ∀ n : Fin 128, (Lib.bitLen (n.val / 2 * 2 + 1) + 6) / 7 = 1 := by decide +kernel
theorem len_bytes : ∀ n : Nat, n < 2 ^ 64 → (Lib.bitLen (n / 2 * 2 + 1) + 6) / 7 = (vEnc n).length := by
  intro n
  induction n using Nat.strongRecOn with
  | _ n ih =>
    intro hn
    by_cases h : n < 128
    · rw [vEnc_lt h]
      exact len_small ⟨n, h⟩
    · have e : (n / 2 * 2 + 1) / 2 ^ 7 = n / 128 := by omega
      have hs := Lib.bitLen_shift 7 (n / 2 * 2 + 1) (by omega) (by omega)
      rw [e] at hs
      have h1 := ih (n / 128) (by omega) (by omega)
      rw [len_one (by omega) (by omega)] at h1
      rw [vEnc_ge h, hs, List.length_cons, ← h1]
      generalize Lib.bitLen (n / 128) = B
      omega
end Go.Proofs.Ytmgfalkelembkaa
