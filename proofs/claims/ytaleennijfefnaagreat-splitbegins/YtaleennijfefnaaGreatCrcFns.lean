/-
  Contracts of layer 5's own functions: halved, fill, put, each proved over this seat's translation.
  Conditions: a text takes at most the greatest length that a string may have.
-/
import Derived.Test.YtaleennijfefnaaGreatCrcMem
import Derived.Test.YtaleennijfefnaaGreatRefCrc
import Derived.Deep.RegionWith
namespace Go.Proofs.YtaleennijfefnaaGreat
open Go.RowKit
open Go.PlainAid (bt get_bt bt_nonneg bt_le)

theorem and1_u32 (a : Nat) (ha : a < 4294967296) : bits .and .u32 (a : Int) 1 = ((a % 2 : Nat) : Int) := by
  have h1 : (BitVec.ofInt 32 (a : Int)).toNat = a := by
    rw [BitVec.ofInt_natCast, BitVec.toNat_ofNat]; exact Nat.mod_eq_of_lt (by omega)
  show IntKind.u32.wrap ((BitVec.ofInt 32 (a : Int) &&& BitVec.ofInt 32 1).toNat : Int) = _
  rw [BitVec.toNat_and, h1, show (BitVec.ofInt 32 1).toNat = 1 from rfl, Nat.and_one_is_mod, IntKind.wrap_u32]
  omega

set_option maxRecDepth 100000 in
theorem halved_any (w : World) (m : Nat) (hlt : m < 4294967296) : Calls Tryz.prog 94 #[.int .u32 m] w fun e w' => e = .returned (.int .u32 (cBits 8 m)) ∧ w = w' := by
  obtain ⟨r, hr⟩ : ∃ r, cBits 8 m = r := ⟨_, rfl⟩
  rw [hr]
  have HP : Hid (cBits 8 m = r) := hr
  clear hr
  go_enter Tryz.func94, Tryz.ntmps94
  go_wp2_with fail
  go_loopw [0, 4] (fun v i wr => ∃ (k N : Nat), k ≤ 8 ∧ v = .int .u32 N ∧ N < 4294967296 ∧ cBits (8 - k) N = r ∧ i = .int .i64 k ∧ wr = w) (fun _ i _ => 8 - (intOf i).toNat)
  case atStart => exact ⟨0, m, by omega, rfl, hlt, HP.out, rfl, rfl⟩
  case round =>
    obtain ⟨k, N, hk, rfl, hN, hr, rfl, rfl⟩ := hrel
    have ha := and1_u32 N hN
    by_cases hk8 : k < 8
    · have hr' : cBits (8 - (k + 1)) (cStep N) = r := by
        rw [show 8 - k = 8 - (k + 1) + 1 from by omega] at hr
        exact hr
      have HR : Hid (cBits (8 - (k + 1)) (cStep N) = r) := hr'
      have hs := cStep_lt hN
      clear hr hr' HP
      by_cases ho : N % 2 = 1
      · have e1 : cStep N = N / 2 ^^^ 3988292384 := if_pos ho
        have hx2 := xor_u32 (N / 2) 3988292384 (by omega) (by decide)
        have HX : Hid (bits .xor .u32 ((N / 2 : Nat) : Int) 3988292384 = ((cStep N : Nat) : Int)) := by rw [e1]; exact hx2
        rw [ho] at ha
        clear e1 hx2 ho
        go_wp2
        go_roundw
        case rel => exact ⟨k + 1, cStep N, by omega, by rw [← HX.out]; first | rfl | go_num, hs, HR.out, by go_num, trivial⟩
        case measure => simp [intOf]; omega
      · have e1 : cStep N = N / 2 := if_neg ho
        have ho' : N % 2 = 0 := by omega
        rw [ho'] at ha
        rw [e1] at HR
        clear e1 ho hs
        go_wp2
        go_roundw
        case rel => exact ⟨k + 1, N / 2, by omega, by go_num, by omega, HR.out, by go_num, trivial⟩
        case measure => simp [intOf]; omega
    · obtain rfl : k = 8 := by omega
      have hr' : N = r := hr
      clear hr
      subst hr'
      go_wp2
      go_ret
      exact ⟨rfl, rfl⟩

set_option maxRecDepth 100000 in
theorem fill_any {w : World} {b : Nat} {d l : Int} {m : Bool} {k0 : Nat} (h : Sums w b d l m k0) :
    Calls Tryz.prog 86 #[.pointer (some ⟨b, 0, none⟩)] w fun e w' => e = .returned (.tuple #[]) ∧ Sums w' b d l true 256 ∧ Keep1 b w w' := by
  have h0 : Sums w b d l m 0 := by
    obtain ⟨c, t, ht, hs, h0, h1, h3, h4⟩ := h.blk
    refine ⟨c, t, ht, hs, h0, h1, h3, fun i hi => ?_⟩
    obtain ⟨n, hn, _⟩ := h4 i hi
    exact ⟨n, hn, fun h => absurd h (by omega)⟩
  clear h
  go_enter Tryz.func86, Tryz.ntmps86
  go_wp2_with fail
  go_loopw [3] (fun i wr => ∃ (k : Nat), k ≤ 256 ∧ i = .int .u32 k ∧ Sums wr b d l m k ∧ Keep1 b w wr) (fun i _ => 256 - (intOf i).toNat)
  case atStart => exact ⟨0, by omega, rfl, h0, Keep.refl _ _⟩
  case round =>
    obtain ⟨k, hk, rfl, hS, hK⟩ := hrel
    by_cases hk8 : k < 256
    · obtain ⟨n, hc, hf, _⟩ := hS.at k hk8
      have hnx := hS.next hk8
      have hKx := hK.set1 (4 + k) (.int .u32 (cBits 8 k))
      have hk' : (k : Int) < 256 := by omega
      go_wp2_with fail
      go_region_with (go_at_call 94; refine (halved_any _ k (by omega)).mono ?_; rintro e w' ⟨rfl, rfl⟩)
      go_wp2
      go_roundw
      case rel => exact ⟨k + 1, by omega, by go_num, hnx.keep0 (Keep.refl _ _).drew, hKx.drew⟩
      case measure => simp [intOf]; omega
    · obtain rfl : k = 256 := by omega
      obtain ⟨hc, hf⟩ := hS.made
      go_wp2
      go_end0
      exact ⟨rfl, hS.setMade true, hK.set1 3 (.bool true)⟩

set_option maxRecDepth 100000 in
theorem put5_any {w : World} {b : Nat} {d l : Int} {m : Bool} (h : Sums w b d l m 256) (n : Nat) (hn : n < 4294967296) (s : ByteArray) (hs : s.size ≤ maxLen) :
    Calls Tryz.prog 87 #[.pointer (some ⟨b, 0, none⟩), .int .u32 n, .string s] w fun e w' => e = .returned (.int .u32 (cPuts n s.data.toList)) ∧ w = w' := by
  have hget := get_bt s
  have hsz : (s.size : Int) ≤ 9223372036854775807 := by unfold maxLen at hs; omega
  go_enter Tryz.func87, Tryz.ntmps87
  go_wp2_with fail
  go_loopw [1, 11] (fun v i wr => ∃ (k N : Nat), k ≤ s.size ∧ v = .int .u32 N ∧ N < 4294967296 ∧ N = cPuts n (s.data.toList.take k) ∧ i = .int .i64 k ∧ wr = w) (fun _ i _ => s.size - (intOf i).toNat)
  case atStart => exact ⟨0, n, by omega, rfl, hn, rfl, rfl, rfl⟩
  case round =>
    obtain ⟨k, N, hk, rfl, hN, hp, rfl, rfl⟩ := hrel
    have hll : s.data.toList.length = s.size := by simp
    by_cases hlt : k < s.size
    · have hbt : bt s k = (s.data.toList[k].toNat : Int) := by rw [← hget k hlt]; rfl
      have hp' : cPuts n (s.data.toList.take (k + 1)) = cPut N s.data.toList[k].toNat := by
        rw [List.take_succ_eq_append_getElem (by omega), cPuts_append, ← hp]
        rfl
      generalize s.data.toList[k] = c at *
      have hc : c.toNat < 256 := c.toNat_lt
      have HP : Hid (cPuts n (s.data.toList.take (k + 1)) = cPut N c.toNat) := hp'
      have hl := cPut_lt hN hc
      have hx : bits .xor .u8 ((N : Int) % 256) (c.toNat : Int) = ((N % 256 ^^^ c.toNat : Nat) : Int) := xor_u8 (N % 256) c.toNat (by omega) hc
      have hj : (N ^^^ c.toNat) % 256 = N % 256 ^^^ c.toNat := by
        rw [Nat.xor_mod_two_pow (n := 8), Nat.mod_eq_of_lt (a := c.toNat) hc]
      have ht := cPut_table N c.toNat hc
      rw [hj] at ht
      have hj8 : N % 256 ^^^ c.toNat < 256 := Nat.xor_lt_two_pow (n := 8) (by omega) hc
      generalize N % 256 ^^^ c.toNat = j at *
      obtain ⟨v, hcell, _, hv⟩ := h.at j hj8
      obtain rfl := hv hj8
      have hx2 := xor_u32 (N / 256) (cBits 8 j) (by omega) (cBits_lt 8 (by omega))
      rw [Nat.xor_comm, ← ht] at hx2
      have HX : Hid (bits .xor .u32 ((N / 256 : Nat) : Int) ((cBits 8 j : Nat) : Int) = ((cPut N c.toNat : Nat) : Int)) := hx2
      have hj' : (j : Int) < 256 := by omega
      clear hp hp' hll ht hx2 hj hv
      go_wp2
      go_roundw
      case rel => exact ⟨k + 1, cPut N c.toNat, by omega, by rw [← HX.out]; first | rfl | go_num, hl, HP.out.symm, by go_num, trivial⟩
      case measure => simp [intOf]; omega
    · rw [List.take_of_length_le (by omega)] at hp
      have HE : Hid (N = cPuts n s.data.toList) := hp
      clear hp hll
      go_wp2
      go_ret
      exact ⟨by rw [← HE.out]; rfl, rfl⟩
end Go.Proofs.YtaleennijfefnaaGreat
