/-
  Contracts of the document's own sums (layer 5), each proved over this seat's translation; numbers of 32 bits and of bytes under 'exclusive or', as the walk prints them.
  Conditions: a text takes at most the greatest length that a string may have.
-/
import Derived.Test.YtaleennijfefnaaGreatCrc
import Derived.Test.YtaleennijfefnaaGreatChecked
import Derived.PlainAid
import Derived.OpenShut
import Derived.WalkLawsBesides
namespace Go.Proofs.YtaleennijfefnaaGreat
open Go.RowKit
open Go.PlainAid (bt get_bt bt_nonneg bt_le)

theorem xor_u32 (a b : Nat) (ha : a < 4294967296) (hb : b < 4294967296) : bits .xor .u32 (a : Int) (b : Int) = ((a ^^^ b : Nat) : Int) := by
  have hx := xor_lt32 ha hb
  have h1 : (BitVec.ofInt 32 (a : Int)).toNat = a := by
    rw [BitVec.ofInt_natCast, BitVec.toNat_ofNat]; exact Nat.mod_eq_of_lt (by omega)
  have h2 : (BitVec.ofInt 32 (b : Int)).toNat = b := by
    rw [BitVec.ofInt_natCast, BitVec.toNat_ofNat]; exact Nat.mod_eq_of_lt (by omega)
  show IntKind.u32.wrap ((BitVec.ofInt 32 (a : Int) ^^^ BitVec.ofInt 32 (b : Int)).toNat : Int) = _
  rw [BitVec.toNat_xor, h1, h2, IntKind.wrap_u32]
  omega
theorem xor_u8 (a b : Nat) (ha : a < 256) (hb : b < 256) : bits .xor .u8 (a : Int) (b : Int) = ((a ^^^ b : Nat) : Int) := by
  have hx : a ^^^ b < 256 := Nat.xor_lt_two_pow (n := 8) ha hb
  have h1 : (BitVec.ofInt 8 (a : Int)).toNat = a := by
    rw [BitVec.ofInt_natCast, BitVec.toNat_ofNat]; exact Nat.mod_eq_of_lt (by omega)
  have h2 : (BitVec.ofInt 8 (b : Int)).toNat = b := by
    rw [BitVec.ofInt_natCast, BitVec.toNat_ofNat]; exact Nat.mod_eq_of_lt (by omega)
  show IntKind.u8.wrap ((BitVec.ofInt 8 (a : Int) ^^^ BitVec.ofInt 8 (b : Int)).toNat : Int) = _
  rw [BitVec.toNat_xor, h1, h2, IntKind.wrap_u8]
  omega

set_option maxRecDepth 100000 in
theorem rput5_any (w : World) (n c : Nat) (hn : n < 4294967296) (hc : c < 256) :
    Calls Tryz.prog 49 #[.int .u32 n, .int .u8 c] w fun e w' => e = .returned (.int .u32 (cPut n c)) ∧ w = w' := by
  have hx := xor_u32 n c hn (by omega)
  have hlt := xor_lt32 hn (by omega : c < 4294967296)
  have HP : Hid (cPut n c = cBits 8 (n ^^^ c)) := rfl
  have hc' : (c : Int) < 256 := by omega
  generalize n ^^^ c = m at *
  generalize cPut n c = r at *
  go_enter Tryz.func49, Tryz.ntmps49
  go_wp2_with fail
  go_loopw [0, 5] (fun v i wr => ∃ (k N : Nat), k ≤ 8 ∧ v = .int .u32 N ∧ N < 4294967296 ∧ cBits (8 - k) N = r ∧ i = .int .i64 k ∧ wr = w) (fun _ i _ => 8 - (intOf i).toNat)
  case atStart => exact ⟨0, m, by omega, rfl, hlt, HP.out.symm, rfl, rfl⟩
  case round =>
    obtain ⟨k, N, hk, rfl, hN, hr, rfl, rfl⟩ := hrel
    by_cases hk8 : k < 8
    · have hr' : cBits (8 - (k + 1)) (cStep N) = r := by
        rw [show 8 - k = 8 - (k + 1) + 1 from by omega] at hr
        exact hr
      have HR : Hid (cBits (8 - (k + 1)) (cStep N) = r) := hr'
      have hs := cStep_lt hN
      clear hr hr' HP hx
      by_cases ho : N % 2 = 1
      · have e1 : cStep N = N / 2 ^^^ 3988292384 := if_pos ho
        have hx2 := xor_u32 (N / 2) 3988292384 (by omega) (by decide)
        have ho' : (N : Int) % 2 = 1 := by omega
        have HX : Hid (bits .xor .u32 ((N / 2 : Nat) : Int) 3988292384 = ((cStep N : Nat) : Int)) := by rw [e1]; exact hx2
        clear e1 hx2 ho
        go_wp2
        go_roundw
        case rel => exact ⟨k + 1, cStep N, by omega, by rw [← HX.out]; first | rfl | go_num, hs, HR.out, by go_num, trivial⟩
        case measure => simp [intOf]; omega
      · have e1 : cStep N = N / 2 := if_neg ho
        have ho' : (N : Int) % 2 = 0 := by omega
        rw [e1] at HR
        clear e1 ho hs
        go_wp2
        go_roundw
        case rel => exact ⟨k + 1, N / 2, by omega, by go_num, by omega, HR.out, by go_num, trivial⟩
        case measure => simp [intOf]; omega
    · obtain rfl : k = 8 := by omega
      have hr' : N = r := hr
      clear hr
      subst hr'
      go_wp2
      go_ret
      exact ⟨rfl, rfl⟩

set_option maxRecDepth 100000 in
theorem rsum5_any (w : World) (s : ByteArray) (hs : s.size ≤ maxLen) :
    Calls Tryz.prog 29 #[.string s] w fun e w' => e = .returned (.int .u32 (cSum s.data.toList)) ∧ w = w' := by
  have hget := get_bt s
  have hsz : (s.size : Int) ≤ 9223372036854775807 := by unfold maxLen at hs; omega
  go_enter Tryz.func29, Tryz.ntmps29
  go_wp2_with fail
  go_loopw [3, 4] (fun v i wr => ∃ (k N : Nat), k ≤ s.size ∧ v = .int .u32 N ∧ N < 4294967296 ∧ N = cPuts 4294967295 (s.data.toList.take k) ∧ i = .int .i64 k ∧ wr = w) (fun _ i _ => s.size - (intOf i).toNat)
  case atStart => exact ⟨0, 4294967295, by omega, rfl, by decide, rfl, rfl, rfl⟩
  case round =>
    obtain ⟨k, N, hk, rfl, hN, hp, rfl, rfl⟩ := hrel
    have hll : s.data.toList.length = s.size := by simp
    by_cases hlt : k < s.size
    · have hbt : bt s k = (s.data.toList[k].toNat : Int) := by rw [← hget k hlt]; rfl
      have hp' : cPuts 4294967295 (s.data.toList.take (k + 1)) = cPut N s.data.toList[k].toNat := by
        rw [List.take_succ_eq_append_getElem (by omega), cPuts_append, ← hp]
        rfl
      generalize s.data.toList[k] = c at *
      have hc : c.toNat < 256 := c.toNat_lt
      have HP : Hid (cPuts 4294967295 (s.data.toList.take (k + 1)) = cPut N c.toNat) := hp'
      have hl := cPut_lt hN hc
      clear hp hp' hll
      go_wp2_with (go_at_call 49; refine (rput5_any _ N c.toNat hN hc).mono ?_; rintro e w' ⟨rfl, rfl⟩)
      go_roundw
      case rel => exact ⟨k + 1, cPut N c.toNat, by omega, rfl, hl, HP.out.symm, by go_num, trivial⟩
      case measure => simp [intOf]; omega
    · rw [List.take_of_length_le (by omega)] at hp
      have HC : Hid (((cSum s.data.toList : Nat) : Int) = 4294967295 - (N : Int)) := by
        show ((cSum s.data.toList : Nat) : Int) = _
        unfold cSum
        rw [← hp]
        omega
      clear hp hll
      go_wp2
      go_ret
      refine ⟨?_, rfl⟩
      rw [HC.out]
      rfl
end Go.Proofs.YtaleennijfefnaaGreat
