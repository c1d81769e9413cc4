/-
  The contract of math/bits.Len64 over this seat's translation; Size (layer 3).
  Conditions: the number takes 64 bits.
-/
import Derived.Test.YtaleennijfefnaaGreatVar
import Derived.Test.YtaleennijfefnaaGreatChecked
import Derived.WalkKit
import Derived.Lib.BitFns
namespace Go.Proofs.YtaleennijfefnaaGreat
open Go.RowKit
theorem len_wrap (k B : Nat) (hB : B ≤ 8) (hk : k ≤ 56) : wrap64 ((k : Int) + wrap64 (B : Int)) = ((k + B : Nat) : Int) := by
  unfold wrap64
  omega
theorem len_wrap0 (B : Nat) (hB : B ≤ 8) : wrap64 (wrap64 (B : Int)) = (B : Int) := by
  unfold wrap64
  omega
theorem len_fin (x y : Int) (k : Nat) (hx : x.toNat < 2 ^ 64) (hk : 2 ^ k ≤ x.toNat) (hy : y.toNat = x.toNat / 2 ^ k) (hy2 : y.toNat < 256) (hk2 : k ≤ 56) :
    wrap64 ((k : Int) + wrap64 (Lib.bitLen y.toNat)) = (Lib.bitLen x.toNat : Int) := by
  have h := Lib.bitLen_shift k x.toNat hk hx
  rw [← hy] at h
  rw [h]
  exact len_wrap k _ (Lib.bitLen_le8 ⟨y.toNat, hy2⟩) hk2
theorem len_fin0 (x : Int) (hx : x.toNat < 256) : wrap64 (wrap64 (Lib.bitLen x.toNat)) = (Lib.bitLen x.toNat : Int) := len_wrap0 _ (Lib.bitLen_le8 ⟨x.toNat, hx⟩)
theorem tab_get (T : ByteArray) (n : Nat) (h : n < T.size) : (((T[((n : Int).toNat)]?).getD 0).toNat : Int) = ((T[n]'h).toNat : Int) := by simp [h]
theorem len_tab (n : Nat) (h : n < Lib.len8tab.size) : ((Lib.len8tab[n]'h).toNat : Int) = (Lib.bitLen n : Int) := by
  have h' : n < 256 := by rw [Lib.len8tab_size] at h; exact h
  exact (tab_get Lib.len8tab n h).symm.trans (Lib.len8_eq ⟨n, h'⟩)
theorem len_x {x : Int} (h0 : 0 ≤ x) (h1 : x ≤ 18446744073709551615) : x.toNat < 2 ^ 64 := by omega
theorem len_ge {x : Int} {m : Nat} (h0 : 0 ≤ x) (h : (m : Int) ≤ x) : m ≤ x.toNat := by omega
theorem len_q {x y : Int} {m : Nat} (h0 : 0 ≤ x) (h : y = x / m) : y.toNat = x.toNat / m := by
  obtain ⟨n, rfl⟩ := Int.eq_ofNat_of_zero_le h0
  rw [h, ← Int.natCast_ediv]
  simp only [Int.toNat_natCast]
set_option maxHeartbeats 4000000 in
set_option maxRecDepth 100000 in
theorem len_any (w : World) (x : Int) (h0 : 0 ≤ x) (h1 : x ≤ 18446744073709551615) : Calls Tryz.prog 88 #[.int .u64 x] w fun e w' => e = .returned (.int .i64 (Lib.bitLen x.toNat)) ∧ w = w' := by
  have hs : Lib.len8tab.size = 256 := Lib.len8tab_size
  have hg := len_tab
  go_enter Tryz.func88, Tryz.ntmps88
  go_wp2
  all_goals go_ret
  all_goals refine ⟨congrArg Ending.returned (congrArg (Value.int IntKind.i64) ?_), rfl⟩
  · exact len_fin x _ 56 (len_x h0 h1) (len_ge h0 (by omega)) (len_q h0 (by omega)) (by omega) (by decide)
  · exact len_fin x _ 48 (len_x h0 h1) (len_ge h0 (by omega)) (len_q h0 (by omega)) (by omega) (by decide)
  · exact len_fin x _ 40 (len_x h0 h1) (len_ge h0 (by omega)) (len_q h0 (by omega)) (by omega) (by decide)
  · exact len_fin x _ 32 (len_x h0 h1) (len_ge h0 (by omega)) (len_q h0 (by omega)) (by omega) (by decide)
  · exact len_fin x _ 24 (len_x h0 h1) (len_ge h0 (by omega)) (len_q h0 (by omega)) (by omega) (by decide)
  · exact len_fin x _ 16 (len_x h0 h1) (len_ge h0 (by omega)) (len_q h0 (by omega)) (by omega) (by decide)
  · exact len_fin x _ 8 (len_x h0 h1) (len_ge h0 (by omega)) (len_q h0 (by omega)) (by omega) (by decide)
  · exact len_fin0 x (by omega)
end Go.Proofs.YtaleennijfefnaaGreat
