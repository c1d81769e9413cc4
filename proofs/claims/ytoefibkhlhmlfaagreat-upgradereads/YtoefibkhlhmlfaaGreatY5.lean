/-
  What this seat's claims lean on of the texts L3.
  Conditions: as each theorem states.
-/
import Derived.WalkKit
import Derived.ProofKit
import Derived.Below
import Derived.Deep.Draws
import Derived.Deep.RegionHeld
import Derived.Test.YtoefibkhlhmlfaaGreatChecked
import Derived.OpenShut
import Derived.ShutString
import Derived.WalkSpells
import Derived.WalkLawsBesides
import Derived.Deep.QuietTactic
import Derived.BigQuiet
import Derived.Laws.Bits64b
import Derived.PlainAid
import Derived.Lib.AppendStr
import Derived.Deep.AppendLies
import Derived.Laws.IdiomStrings
import Derived.Laws.BytesArg
import Derived.Deep.RegionWith
import Derived.Test.YtoefibkhlhmlfaaGreatY1
import Derived.Test.YtoefibkhlhmlfaaGreatY3
namespace Go.Proofs.YtoefibkhlhmlfaaGreat
open Go.RowKit
def vRd : Nat → List UInt8 → Nat × Nat × Int
  | 0, _ => (0, 0, 2)
  | _ + 1, [] => (0, 0, 2)
  | k + 1, b :: l => if k = 0 ∧ 1 < b.toNat then (0, 0, 5) else if b.toNat = 0 ∧ k < 9 then (0, 0, 4) else if b.toNat < 128 then (b.toNat, 1, 0) else
      ((vRd k l).1 * 128 + (b.toNat - 128), (vRd k l).2.1 + 1, (vRd k l).2.2)
theorem vRd_nil (k : Nat) : vRd k [] = (0, 0, 2) := by cases k <;> rfl
theorem vRd_over {k : Nat} {b : UInt8} {l : List UInt8} (h : k = 0 ∧ 1 < b.toNat) : vRd (k + 1) (b :: l) = (0, 0, 5) := if_pos h
theorem vRd_minimal {k : Nat} {b : UInt8} {l : List UInt8} (h : ¬ (k = 0 ∧ 1 < b.toNat)) (h1 : b.toNat = 0 ∧ k < 9) : vRd (k + 1) (b :: l) = (0, 0, 4) := by
  rw [vRd, if_neg h, if_pos h1]
theorem vRd_last {k : Nat} {b : UInt8} {l : List UInt8} (h : ¬ (k = 0 ∧ 1 < b.toNat)) (h1 : ¬ (b.toNat = 0 ∧ k < 9)) (h2 : b.toNat < 128) : vRd (k + 1) (b :: l) = (b.toNat, 1, 0) := by
  rw [vRd, if_neg h, if_neg h1, if_pos h2]
theorem vRd_more {k : Nat} {b : UInt8} {l : List UInt8} (h : ¬ (k = 0 ∧ 1 < b.toNat)) (h2 : ¬ b.toNat < 128) :
    vRd (k + 1) (b :: l) = ((vRd k l).1 * 128 + (b.toNat - 128), (vRd k l).2.1 + 1, (vRd k l).2.2) := by
  rw [vRd, if_neg h, if_neg (by omega), if_neg h2]
theorem vRd_take : ∀ (k : Nat) (l : List UInt8), vRd k (l.take k) = vRd k l
  | 0, _ => rfl
  | _ + 1, [] => rfl
  | k + 1, b :: l => by
    rw [List.take_succ_cons, vRd, vRd, vRd_take k l]
theorem vRd_len : ∀ (k : Nat) (l : List UInt8), (vRd k l).2.1 ≤ l.length
  | 0, _ => Nat.zero_le _
  | _ + 1, [] => Nat.zero_le _
  | k + 1, b :: l => by
    have ih := vRd_len k l
    rw [vRd]
    simp only [List.length_cons]
    split
    · exact Nat.zero_le _
    · split
      · exact Nat.zero_le _
      · split
        · show 1 ≤ _; omega
        · show _ + 1 ≤ _; omega
theorem vRd_lt : ∀ (k : Nat) (l : List UInt8), k < 10 → (vRd (k + 1) l).1 < 2 * 128 ^ k
  | k, [], _ => by show 0 < _; exact Nat.mul_pos (by decide) (Nat.pow_pos (by decide))
  | 0, b :: l, _ => by
    rw [vRd]
    split
    · decide
    · split
      · decide
      · split
        · show b.toNat < 2; omega
        · omega
  | k + 1, b :: l, h => by
    have ih := vRd_lt k l (by omega)
    have hb := b.toNat_lt
    have hp : 128 ^ (k + 1) = 128 ^ k * 128 := Nat.pow_succ _ _
    have h1 : 1 ≤ 128 ^ k := Nat.pow_pos (by decide)
    rw [vRd]
    split
    · show 0 < _; omega
    · split
      · show 0 < _; omega
      · split
        · show b.toNat < _; omega
        · show _ * 128 + _ < _
          omega
def vEnc (n : Nat) : List UInt8 := if n < 128 then [UInt8.ofNat n] else UInt8.ofNat (n % 128 + 128) :: vEnc (n / 128)
  termination_by n
  decreasing_by omega
theorem vEnc_lt {n : Nat} (h : n < 128) : vEnc n = [UInt8.ofNat n] := by rw [vEnc, if_pos h]
theorem vEnc_ge {n : Nat} (h : ¬ n < 128) : vEnc n = UInt8.ofNat (n % 128 + 128) :: vEnc (n / 128) := by rw [vEnc, if_neg h]
theorem byte_nat {n : Nat} (h : n < 256) : (UInt8.ofNat n).toNat = n := by
  rw [UInt8.toNat_ofNat']
  exact Nat.mod_eq_of_lt (by simpa using h)
theorem vEnc_len_lt : ∀ (k n : Nat), n < 128 ^ (k + 1) → (vEnc n).length ≤ k + 1
  | 0, n, h => by rw [vEnc_lt (by omega)]; exact Nat.le_refl _
  | k + 1, n, h => by
    have hp : 128 ^ (k + 1 + 1) = 128 ^ (k + 1) * 128 := Nat.pow_succ _ _
    by_cases hn : n < 128
    · rw [vEnc_lt hn]; show 1 ≤ _; omega
    · rw [vEnc_ge hn]
      have := vEnc_len_lt k (n / 128) (by omega)
      simp only [List.length_cons]
      omega
theorem vEnc_len_pos (n : Nat) : 1 ≤ (vEnc n).length := by
  by_cases hn : n < 128
  · rw [vEnc_lt hn]; exact Nat.le_refl _
  · rw [vEnc_ge hn]; simp
theorem vRd_enc : ∀ (k n : Nat) (l : List UInt8), n < 2 * 128 ^ k → (k = 9 ∨ (k < 9 ∧ 0 < n)) → vRd (k + 1) (vEnc n ++ l) = (n, (vEnc n).length, 0)
  | 0, n, l, h, h0 => by
    have hn : n < 128 := by omega
    have hb := byte_nat (n := n) (by omega)
    rw [vEnc_lt hn, List.singleton_append, vRd_last (by rw [hb]; omega) (by rw [hb]; omega) (by rw [hb]; omega), hb]
    rfl
  | k + 1, n, l, h, h0 => by
    have hp : 128 ^ (k + 1) = 128 ^ k * 128 := Nat.pow_succ _ _
    by_cases hn : n < 128
    · have hb := byte_nat (n := n) (by omega)
      rw [vEnc_lt hn, List.singleton_append, vRd_last (by rw [hb]; omega) (by rw [hb]; omega) (by rw [hb]; omega), hb]
      rfl
    · have hb := byte_nat (n := n % 128 + 128) (by omega)
      have ih := vRd_enc k (n / 128) l (by omega) (by omega)
      rw [vEnc_ge hn, List.cons_append, vRd_more (by rw [hb]; omega) (by rw [hb]; omega), hb, ih]
      rw [List.length_cons, Nat.add_sub_cancel, Nat.div_add_mod' n 128]
theorem vRd_back : ∀ (k : Nat) (l : List UInt8), k < 10 → (vRd (k + 1) l).2.2 = 0 → l.take (vRd (k + 1) l).2.1 = vEnc (vRd (k + 1) l).1 ∧ (k < 9 → 0 < (vRd (k + 1) l).1)
  | k, [], _, h => by
    rw [vRd_nil] at h
    exact absurd h (by decide)
  | k, b :: l, hk, h => by
    have hb := b.toNat_lt
    by_cases h1 : k = 0 ∧ 1 < b.toNat
    · rw [vRd_over h1] at h
      exact absurd h (by decide)
    · by_cases h2 : b.toNat = 0 ∧ k < 9
      · rw [vRd_minimal h1 h2] at h
        exact absurd h (by decide)
      · by_cases h3 : b.toNat < 128
        · rw [vRd_last h1 h2 h3]
          refine ⟨?_, fun h9 => ?_⟩
          · rw [vEnc_lt h3]
            simp
          · show 0 < b.toNat
            omega
        · rw [vRd_more h1 h3] at h ⊢
          match k, hk, h1, h2, h with
          | k + 1, hk, h1, h2, h =>
            obtain ⟨ih, ih0⟩ := vRd_back k l (by omega) h
            have ih0 := ih0 (by omega)
            have hge : ¬ (vRd (k + 1) l).1 * 128 + (b.toNat - 128) < 128 := by omega
            refine ⟨?_, fun _ => by show 0 < _ * 128 + _; omega⟩
            show List.take ((vRd (k + 1) l).2.1 + 1) (b :: l) = vEnc ((vRd (k + 1) l).1 * 128 + (b.toNat - 128))
            have e1 : ((vRd (k + 1) l).1 * 128 + (b.toNat - 128)) % 128 + 128 = b.toNat := by omega
            have e2 : ((vRd (k + 1) l).1 * 128 + (b.toNat - 128)) / 128 = (vRd (k + 1) l).1 := by omega
            rw [vEnc_ge hge, List.take_succ_cons, ih, e1, e2]
            simp
          | 0, hk, h1, h2, h => omega
def vBytes (s : ByteArray) (a : Int) : List UInt8 := s.data.toList.drop a.toNat
def tNum (s : ByteArray) (a x : Int) : Int := if x = 0 ∧ (vRd 10 (vBytes s a)).2.2 = 0 then (vRd 10 (vBytes s a)).1 else 0
def tAt (s : ByteArray) (a x : Int) : Int := if x = 0 then a + (vRd 10 (vBytes s a)).2.1 else a
def tErr (s : ByteArray) (a x : Int) : Int := if x = 0 then (vRd 10 (vBytes s a)).2.2 else x
theorem tNum_err {s : ByteArray} {a x : Int} (h : x ≠ 0) : tNum s a x = 0 := if_neg (fun e => h e.1)
theorem tAt_err {s : ByteArray} {a x : Int} (h : x ≠ 0) : tAt s a x = a := if_neg h
theorem tErr_err {s : ByteArray} {a x : Int} (h : x ≠ 0) : tErr s a x = x := if_neg h
theorem tNum_lt (s : ByteArray) (a x : Int) : 0 ≤ tNum s a x ∧ tNum s a x ≤ 18446744073709551615 := by
  have h : (vRd 10 (vBytes s a)).1 < _ := vRd_lt 9 (vBytes s a) (by decide)
  unfold tNum
  split <;> omega
theorem vBytes_len {s : ByteArray} {a : Int} (h0 : 0 ≤ a) (h1 : a ≤ s.size) : ((vBytes s a).length : Int) = s.size - a := by
  have : s.size = s.data.toList.length := by simp
  unfold vBytes
  rw [List.length_drop]
  omega
theorem tAt_le {s : ByteArray} {a x : Int} (h0 : 0 ≤ a) (h1 : a ≤ s.size) : 0 ≤ tAt s a x ∧ tAt s a x ≤ s.size := by
  have h := vRd_len 10 (vBytes s a)
  have hl := vBytes_len h0 h1
  unfold tAt
  split <;> omega
def vText (n : Nat) : ByteArray := ⟨(vEnc n).toArray⟩
theorem vText_size (n : Nat) : (vText n).size = (vEnc n).length := by
  show (vEnc n).toArray.size = _
  simp
theorem vText_le {n : Nat} (h : n < 18446744073709551616) : 1 ≤ (vText n).size ∧ (vText n).size ≤ 10 := by
  rw [vText_size]
  exact ⟨vEnc_len_pos n, vEnc_len_lt 9 n (by omega)⟩
theorem or_shift (i n c : Nat) (h : n < 2 ^ i) : n ||| c * 2 ^ i = n + c * 2 ^ i := by
  have := Nat.shiftLeft_add_eq_or_of_lt h c
  rw [Nat.shiftLeft_eq] at this
  rw [Nat.or_comm, ← this, Nat.add_comm]
theorem pow7 (i : Nat) : 2 ^ (7 * i) = 128 ^ i := by rw [Nat.pow_mul]
theorem acc_lt (k N c : Nat) (hN : N < 128 ^ k) (hk : k ≤ 9) (hc : c < 128) (h9 : k = 9 → c ≤ 1) : N + c * 128 ^ k < 128 ^ (k + 1) ∧ N + c * 128 ^ k < 18446744073709551616 := by
  have hp : 128 ^ (k + 1) = 128 ^ k * 128 := Nat.pow_succ _ _
  have h1 : c * 128 ^ k ≤ 127 * 128 ^ k := Nat.mul_le_mul_right _ (by omega)
  refine ⟨by omega, ?_⟩
  by_cases h : k = 9
  · subst h
    have := h9 rfl
    omega
  · have h2 : 128 ^ k ≤ 128 ^ 8 := Nat.pow_le_pow_right (by decide) (by omega)
    omega
theorem acc_or (k N c : Nat) (hN : N < 128 ^ k) (hk : k ≤ 9) (h9 : k = 9 → c % 128 ≤ 1) :
    bits .or .u64 (N : Int) (IntKind.u64.wrap ((c : Int) % 128 * 2 ^ (7 * k))) = ((N + c % 128 * 128 ^ k : Nat) : Int) := by
  have hb := acc_lt k N (c % 128) hN hk (by omega) h9
  have e : ((c : Int) % 128 * 2 ^ (7 * k)) = ((c % 128 * 2 ^ (7 * k) : Nat) : Int) := by simp
  rw [e, IntKind.wrap_u64]
  have hq : c % 128 * 2 ^ (7 * k) = c % 128 * 128 ^ k := by rw [pow7]
  have hw : (((c % 128 * 2 ^ (7 * k) : Nat) : Int) % 18446744073709551616) = ((c % 128 * 2 ^ (7 * k) : Nat) : Int) := by
    rw [hq]
    omega
  rw [hw, bits_or_u64_nat _ _ (by omega) (by rw [hq]; omega), or_shift _ _ _ (by rw [pow7]; exact hN), pow7]
theorem acc_add (k N c : Nat) (hN : N < 128 ^ k) (hk : k ≤ 9) (h9 : k = 9 → c % 128 ≤ 1) :
    IntKind.u64.wrap ((N : Int) + IntKind.u64.wrap ((c : Int) % 128 * ((128 ^ k : Nat) : Int))) = ((N + c % 128 * 128 ^ k : Nat) : Int) := by
  have hb := acc_lt k N (c % 128) hN hk (by omega) h9
  have e : ((c : Int) % 128 * ((128 ^ k : Nat) : Int)) = ((c % 128 * 128 ^ k : Nat) : Int) := by simp
  rw [e, IntKind.wrap_u64, IntKind.wrap_u64]
  omega
end Go.Proofs.YtoefibkhlhmlfaaGreat
namespace Go.Proofs.YtoefibkhlhmlfaaGreat
open Go.RowKit
open Go.PlainAid (bt get_bt bt_nonneg bt_le)
def vFault (i b : Int) : Int := if i = 9 ∧ 1 < b then 5 else if 0 < i ∧ b = 0 then 4 else 0
theorem fault_any (w : World) (i b : Int) : Calls Tryz.prog 186 #[.int .i64 i, .int .u8 b] w fun e w' => e = .returned (.int .i64 (vFault i b)) ∧ w = w' := by
  by_cases h1 : i = 9 ∧ 1 < b
  · have q : vFault i b = 5 := if_pos h1
    rw [q]
    clear q
    obtain ⟨rfl, h1⟩ := h1
    go_enter Tryz.func186, Tryz.ntmps186
    go_wp2
    go_ret
    exact ⟨rfl, rfl⟩
  · by_cases h2 : 0 < i ∧ b = 0
    · have q : vFault i b = 4 := (if_neg h1).trans (if_pos h2)
      rw [q]
      clear q
      obtain ⟨h2, rfl⟩ := h2
      clear h1
      go_enter Tryz.func186, Tryz.ntmps186
      go_wp2
      all_goals go_ret
      all_goals exact ⟨rfl, rfl⟩
    · have q : vFault i b = 0 := (if_neg h1).trans (if_neg h2)
      rw [q]
      clear q
      by_cases h9 : i = 9
      · subst h9
        have hb : ¬ 1 < b := by omega
        have hb0 : b ≠ 0 := by omega
        have hb1 : (b == 0) = false := by simpa using hb0
        clear h1 h2 hb0
        go_enter Tryz.func186, Tryz.ntmps186
        go_wp2
        all_goals go_ret
        all_goals exact ⟨rfl, rfl⟩
      · have h9' : (i == 9) = false := by simpa using h9
        clear h1 h9
        by_cases hi : 0 < i
        · have hb1 : (b == 0) = false := by
            have : b ≠ 0 := by omega
            simpa using this
          clear h2
          go_enter Tryz.func186, Tryz.ntmps186
          go_wp2
          all_goals go_ret
          all_goals exact ⟨rfl, rfl⟩
        · clear h2
          go_enter Tryz.func186, Tryz.ntmps186
          go_wp2
          all_goals go_ret
          all_goals exact ⟨rfl, rfl⟩
def vNum (p : Nat × Nat × Int) : Int := if p.2.2 = 0 then p.1 else 0
set_option maxRecDepth 100000 in
theorem look_of {w : World} {b : Nat} {s : ByteArray} {a x : Int} (h : Cur w b s a x) (T : ByteArray) (hT : cAhead s a 10 = T) (h10 : T.size ≤ 10) (p : Nat × Nat × Int) (hp : vRd 10 T.data.toList = p) :
    Calls Tryz.prog 176 #[.func (.func 177) #[ptr b] #[]] w fun e w' => e = .returned (.tuple #[.int .u64 (vNum p), .int .i64 p.2.1, .int .i64 p.2.2]) ∧ ∃ n, w' = w.drewN n := by
  have hget := get_bt T
  go_enter Tryz.func176, Tryz.ntmps176
  go_wp2_with (go_at_call 177; refine (ahead_any 10 h).mono ?_; rw [hT]; rintro e w1 ⟨rfl, hw0⟩; have hw : Hid (∃ n, w1 = w.drewN n) := hw0; clear hw0)
  go_loopw [6, 13] (fun n i wr => ∃ (k N : Nat), k ≤ T.size ∧ k ≤ 9 ∧ i = .int .i64 k ∧ n = .int .u64 N ∧ N < 128 ^ k ∧ wr = w1 ∧
      p = (N + (vRd (10 - k) (T.data.toList.drop k)).1 * 128 ^ k, k + (vRd (10 - k) (T.data.toList.drop k)).2.1, (vRd (10 - k) (T.data.toList.drop k)).2.2)) (fun _ i _ => T.size - (intOf i).toNat)
  case atStart => exact ⟨0, 0, by omega, by omega, rfl, rfl, by decide, rfl, by rw [← hp]; simp⟩
  case round =>
    obtain ⟨k, N, hk, hk9, rfl, rfl, hN, rfl, hrel⟩ := hrel
    by_cases hlt : k < T.size
    · have hlt' : k < T.data.toList.length := by simpa using hlt
      have hdrop : T.data.toList.drop k = T.data.toList[k] :: T.data.toList.drop (k + 1) := List.drop_eq_getElem_cons (by simpa using hlt)
      have hbt : bt T k = (T.data.toList[k].toNat : Int) := by rw [← hget k hlt]; rfl
      obtain ⟨j, hj⟩ : ∃ j, 10 - k = j + 1 := ⟨9 - k, by omega⟩
      rw [hdrop, hj] at hrel
      generalize T.data.toList[k] = c at *
      clear hdrop hlt'
      obtain rfl : j = 9 - k := by omega
      clear hj
      have hc := c.toNat_lt
      by_cases h1 : k = 9 ∧ 1 < c.toNat
      · rw [vRd_over (by omega)] at hrel
        have q : vFault k c.toNat = 5 := if_pos (by omega)
        have HR0 : p = (N, k, 5) := by rw [hrel]; simp
        have HR : Hid (p = (N, k, 5)) := HR0
        clear HR0
        clear hrel hN h1
        go_wp2_with (go_at_call 186; refine (fault_any _ _ _).mono ?_; rw [q]; rintro e w' ⟨rfl, rfl⟩)
        go_ret3
        exact ⟨by rw [HR.out]; rfl, hw.out⟩
      · by_cases h2 : c.toNat = 0 ∧ 0 < k
        · rw [vRd_minimal (by omega) (by omega)] at hrel
          have q : vFault k c.toNat = 4 := (if_neg (by omega)).trans (if_pos (by omega))
          have HR0 : p = (N, k, 4) := by rw [hrel]; simp
          have HR : Hid (p = (N, k, 4)) := HR0
          clear HR0
          clear hrel hN h1 h2
          go_wp2_with (go_at_call 186; refine (fault_any _ _ _).mono ?_; rw [q]; rintro e w' ⟨rfl, rfl⟩)
          go_ret3
          exact ⟨by rw [HR.out]; rfl, hw.out⟩
        · have q : vFault k c.toNat = 0 := (if_neg (by omega)).trans (if_neg (by omega))
          by_cases h3 : c.toNat < 128
          · rw [vRd_last (by omega) (by omega) h3] at hrel
            have HR : Hid (p = (N + c.toNat * 128 ^ k, k + 1, 0)) := hrel
            have h3' : (c.toNat : Int) < 128 := by omega
            clear hrel h2
            have H1 : Hid (¬(k = 9 ∧ 1 < c.toNat)) := h1
            have H2 : Hid (N < 128 ^ k) := hN
            clear h1 hN
            go_wp2_with (go_at_call 186; refine (fault_any _ _ _).mono ?_; rw [q]; rintro e w' ⟨rfl, rfl⟩)
            go_ret3
            refine ⟨?_, hw.out⟩
            have h1 := H1.out
            rw [HR.out, acc_or k N c.toNat H2.out hk9 (by omega), Nat.mod_eq_of_lt h3]
            rfl
          · rw [vRd_more (by omega) h3] at hrel
            have h3' : ¬ (c.toNat : Int) < 128 := by omega
            have HR0 : (p = (N + (c.toNat - 128) * 128 ^ k + (vRd (9 - k) (T.data.toList.drop (k + 1))).1 * 128 ^ (k + 1), k + 1 + (vRd (9 - k) (T.data.toList.drop (k + 1))).2.1, (vRd (9 - k) (T.data.toList.drop (k + 1))).2.2)) := by
              rw [hrel]
              have e1 : 128 ^ (k + 1) = 128 ^ k * 128 := Nat.pow_succ _ _
              rw [e1]
              generalize 128 ^ k = P
              generalize (vRd (9 - k) (T.data.toList.drop (k + 1))).1 = V
              refine Prod.ext ?_ (Prod.ext ?_ rfl)
              · show N + (V * 128 + (c.toNat - 128)) * P = N + (c.toNat - 128) * P + V * (P * 128)
                rw [Nat.add_mul, Nat.mul_comm P 128, Nat.mul_assoc V 128 P]
                omega
              · show _ + (_ + 1) = _ + 1 + _
                omega
            have HR : Hid (p = (N + (c.toNat - 128) * 128 ^ k + (vRd (9 - k) (T.data.toList.drop (k + 1))).1 * 128 ^ (k + 1), k + 1 + (vRd (9 - k) (T.data.toList.drop (k + 1))).2.1, (vRd (9 - k) (T.data.toList.drop (k + 1))).2.2)) := HR0
            clear hrel h2 HR0
            have H1 : Hid (¬(k = 9 ∧ 1 < c.toNat)) := h1
            have H2 : Hid (N < 128 ^ k) := hN
            clear h1 hN
            go_wp2_with (go_at_call 186; refine (fault_any _ _ _).mono ?_; rw [q]; rintro e w' ⟨rfl, rfl⟩)
            have h1 := H1.out
            have e1 : c.toNat % 128 = c.toNat - 128 := by omega
            have e2 : 10 - (k + 1) = 9 - k := by omega
            have hA := acc_or k N c.toNat H2.out hk9 (by omega)
            have hB := acc_lt k N (c.toNat % 128) H2.out hk9 (by omega) (by omega)
            rw [e1] at hA hB
            go_roundw
            case rel => exact ⟨k + 1, N + (c.toNat - 128) * 128 ^ k, by omega, by omega, by go_num, by rw [hA], hB.1, by trivial, by rw [e2]; exact HR.out⟩
            case measure => simp [intOf]; omega
    · obtain rfl : k = T.size := by omega
      have hdrop : T.data.toList.drop T.size = [] := List.drop_eq_nil_of_le (by simp)
      rw [hdrop, vRd_nil] at hrel
      have HR0 : p = (N, T.size, 2) := by rw [hrel]; simp
      have HR : Hid (p = (N, T.size, 2)) := HR0
      clear HR0
      clear hrel hN
      go_wp2_with fail
      go_ret3
      exact ⟨by rw [HR.out]; rfl, hw.out⟩
theorem vAhead {s : ByteArray} {a : Int} (h0 : 0 ≤ a) (h1 : a ≤ s.size) : (cAhead s a 10).data.toList = (vBytes s a).take 10 ∧ (cAhead s a 10).size ≤ 10 := by
  obtain ⟨i, rfl⟩ := Int.eq_ofNat_of_zero_le h0
  have hsz : s.size = s.data.size := rfl
  have e : (cAhead s (i : Int) 10).data.toList = (vBytes s (i : Int)).take 10 := by
    unfold cAhead vBytes
    rw [if_neg (by omega)]
    split
    · unfold cut
      rw [ByteArray.data_extract, Array.toList_extract, List.extract_eq_take_drop]
      congr 1
      omega
    · unfold cut
      rw [ByteArray.data_extract, Array.toList_extract, List.extract_eq_take_drop]
      have hl : (s.data.toList.drop i).length ≤ 10 := by simp; omega
      simp only [Int.toNat_natCast]
      rw [List.take_of_length_le (by simp), List.take_of_length_le hl]
  refine ⟨e, ?_⟩
  have : (cAhead s (i : Int) 10).size = (cAhead s (i : Int) 10).data.toList.length := by simp
  rw [this, e, List.length_take]
  omega
theorem look_any {w : World} {b : Nat} {s : ByteArray} {a : Int} (h : Cur w b s a 0) :
    Calls Tryz.prog 176 #[.func (.func 177) #[ptr b] #[]] w fun e w' =>
      e = .returned (.tuple #[.int .u64 (tNum s a 0), .int .i64 (vRd 10 (vBytes s a)).2.1, .int .i64 (tErr s a 0)]) ∧ ∃ n, w' = w.drewN n := by
  obtain ⟨h1, h2⟩ := vAhead h.lo h.hi
  refine (look_of h _ rfl h2 (vRd 10 (vBytes s a)) (by rw [h1, vRd_take])).mono ?_
  rintro e w' ⟨rfl, hw⟩
  refine ⟨?_, hw⟩
  unfold tNum vNum tErr
  simp
theorem take_any {w : World} {b : Nat} {s : ByteArray} {a x : Int} (h : Cur w b s a x) :
    Calls Tryz.prog 150 #[ptr b] w fun e w' => e = .returned (.int .u64 (tNum s a x)) ∧ Cur w' b s (tAt s a x) (tErr s a x) ∧ Keep1 b w w' := by
  by_cases hx : x = 0
  · subst hx
    have lo := h.lo
    have hi := h.hi
    have hl := vBytes_len lo hi
    have hn := vRd_len 10 (vBytes s a)
    generalize hv : (vRd 10 (vBytes s a)).2.1 = v at *
    have q1 : cAt s a 0 v = tAt s a 0 := by unfold cAt tAt; rw [if_pos (by omega), if_pos rfl, hv]
    have q2 : cErr s a 0 v = 0 := by unfold cErr; rw [if_neg (by omega), if_neg (by omega), if_pos (by omega)]
    have q3 : cFail 0 (tErr s a 0) = tErr s a 0 := if_pos rfl
    have hlk := look_any h
    rw [hv] at hlk
    clear hl hn hv lo hi
    go_enter Tryz.func150, Tryz.ntmps150
    go_wp2_with (first | (go_at_call 80; refine (err_any h).mono ?_; rintro e w' ⟨rfl, rfl⟩) | (go_at_call 176; refine hlk.mono ?_; rintro e w1 ⟨rfl, hw⟩; have k1 := keepN hw; clear hw hlk; have h1 := h.keep0 k1) | (go_at_call 149; refine (bytes_any v h1).mono ?_; rw [q1, q2]; rintro e w2 ⟨rfl, h2, k2⟩) | (go_at_call 79; refine (fail_any _ h2).mono ?_; rw [q3]; rintro e w3 ⟨rfl, h3, k3⟩))
    go_ret
    exact ⟨rfl, h3, ((Keep.any k1).trans k2).trans k3⟩
  · have hx' : (x != 0) = true := by simpa using hx
    rw [tNum_err hx, tAt_err hx, tErr_err hx]
    go_enter Tryz.func150, Tryz.ntmps150
    go_wp2_with (go_at_call 80; refine (err_any h).mono ?_; rintro e w' ⟨rfl, rfl⟩)
    go_ret
    exact ⟨rfl, h, Keep.refl _ _⟩
theorem Cur.at_eq {w : World} {b : Nat} {s : ByteArray} {a a' e e' : Int} (h : Cur w b s a e) (ha : a = a') (he : e = e') : Cur w b s a' e' := by
  subst ha he
  exact h
theorem weight_more (k : Nat) (hk : k ≤ 8) : IntKind.u64.wrap (((128 ^ k : Nat) : Int) * 128) = ((128 ^ (k + 1) : Nat) : Int) := by
  have hp : 128 ^ (k + 1) = 128 ^ k * 128 := Nat.pow_succ _ _
  have h2 : 128 ^ k ≤ 128 ^ 8 := Nat.pow_le_pow_right (by decide) (by omega)
  rw [IntKind.wrap_u64, hp]
  omega
set_option maxRecDepth 100000 in
set_option maxHeartbeats 2000000 in
theorem rtake_of {w : World} {b : Nat} {s : ByteArray} {i : Nat} (h : Cur w b s i 0) (p : Nat × Nat × Int) (hp : vRd 10 (vBytes s i) = p) :
    Calls Tryz.prog 125 #[ptr b] w fun e w' => e = .returned (.int .u64 (vNum p)) ∧ Cur w' b s (i + p.2.1) p.2.2 ∧ Keep1 b w w' := by
  obtain ⟨h0, h1, h2, h3, h4⟩ := h.cells
  have hget := get_bt s
  have hsz := h.sz
  unfold maxLen at hsz
  go_enter Tryz.func125, Tryz.ntmps125
  go_wp2_with fail
  clear h0 h1 h2 h3 h4
  go_loopw [3, 4, 5] (fun n wt v wr => ∃ (k N j W : Nat), k ≤ 9 ∧ j = i + k ∧ W = 128 ^ k ∧ v = .int .i64 k ∧ n = .int .u64 N ∧ wt = .int .u64 W ∧ N < 128 ^ k ∧ Cur wr b s j 0 ∧ Keep1 b w wr ∧
      p = (N + (vRd (10 - k) ((vBytes s i).drop k)).1 * 128 ^ k, k + (vRd (10 - k) ((vBytes s i).drop k)).2.1, (vRd (10 - k) ((vBytes s i).drop k)).2.2)) (fun _ _ v _ => 10 - (intOf v).toNat)
  case atStart => exact ⟨0, 0, i, 1, by omega, rfl, rfl, rfl, rfl, rfl, by decide, h, Keep.refl _ _, by rw [← hp]; simp⟩
  case round =>
    obtain ⟨k, N, j, W, hk9, hj, hW, rfl, rfl, rfl, hN, hc, hK, hrel⟩ := hrel
    obtain ⟨g0, g1, g2, g3, g4⟩ := hc.cells
    have hdr : (vBytes s i).drop k = s.data.toList.drop j := by unfold vBytes; rw [List.drop_drop, hj]; rfl
    have hdr1 : (vBytes s i).drop (k + 1) = s.data.toList.drop (j + 1) := by unfold vBytes; rw [List.drop_drop, hj]; rfl
    rw [hdr] at hrel
    have hjs := hc.hi
    have HJ : Hid (j = i + k) := hj
    have HW : Hid (W = 128 ^ k) := hW
    by_cases hlt : j < s.size
    · have hlt' : j < s.data.toList.length := by simpa using hlt
      have hdrop : s.data.toList.drop j = s.data.toList[j] :: s.data.toList.drop (j + 1) := List.drop_eq_getElem_cons hlt'
      have hbt : bt s j = (s.data.toList[j].toNat : Int) := by rw [← hget j hlt]; rfl
      obtain ⟨m, hm⟩ : ∃ m, 10 - k = m + 1 := ⟨9 - k, by omega⟩
      rw [hdrop, hm] at hrel
      generalize s.data.toList[j] = c at *
      clear hdrop hlt' hdr
      obtain rfl : m = 9 - k := by omega
      have hcn := c.toNat_lt
      have hne : ((j : Int) == (s.size : Int)) = false := by
        have : (j : Int) ≠ s.size := by omega
        simpa using this
      clear hm hW
      by_cases h1 : k = 9 ∧ 1 < c.toNat
      · rw [vRd_over (by omega)] at hrel
        have HR0 : p = (N, k, 5) := by rw [hrel]; simp
        have HR : Hid (p = (N, k, 5)) := HR0
        clear HR0 hrel hN hdr1 hj
        obtain ⟨rfl, h1⟩ := h1
        have h1' : (1 : Int) < c.toNat := by omega
        go_wp2_with fail
        go_quiet (fail)
        go_wp2_with fail
        go_quiet (fail)
        go_wp2_with fail
        go_ret
        have hj := HJ.out
        refine ⟨by rw [HR.out]; rfl, ?_, ?_⟩
        · rw [HR.out]
          refine Cur.at_eq (Cur.setErr (a := j) (e := 0) (hc.keep0 ?_) 5) (by show (j : Int) = i + ((9 : Nat) : Int); omega) rfl
          first | exact (Keep.refl _ _).drewN _ | exact ((Keep.refl _ _).drewN _).drewN _
        · first | exact (hK.drewN _).set1 _ _ | exact ((hK.drewN _).drewN _).set1 _ _
      · by_cases h2 : c.toNat = 0 ∧ 0 < k
        · rw [vRd_minimal (by omega) (by omega)] at hrel
          have HR0 : p = (N, k, 4) := by rw [hrel]; simp
          have HR : Hid (p = (N, k, 4)) := HR0
          clear HR0 hrel hN hdr1 hj h1
          obtain ⟨h2, h3⟩ := h2
          rw [h2] at hbt
          have h3' : (0 : Int) < k := by omega
          go_wp2_with fail
          go_quiet (fail)
          go_wp2_with fail
          go_quiet (fail)
          go_wp2_with fail
          all_goals go_ret
          all_goals
            have hj := HJ.out
            refine ⟨by rw [HR.out]; rfl, ?_, ?_⟩
            · rw [HR.out]
              refine Cur.at_eq (Cur.setErr (a := j) (e := 0) (hc.keep0 ?_) 4) (by show (j : Int) = i + (k : Int); omega) rfl
              first | exact (Keep.refl _ _).drewN _ | exact ((Keep.refl _ _).drewN _).drewN _
            · first | exact (hK.drewN _).set1 _ _ | exact ((hK.drewN _).drewN _).set1 _ _
        · by_cases h3 : c.toNat < 128
          · rw [vRd_last (by omega) (by omega) h3] at hrel
            have HR : Hid (p = (N + c.toNat * 128 ^ k, k + 1, 0)) := hrel
            by_cases hc0 : c.toNat = 0
            · obtain rfl : k = 0 := by omega
              obtain rfl : N = 0 := by omega
              obtain rfl : W = 1 := HW.out
              rw [hc0] at hbt HR
              clear hrel hN hdr1 h1 h2 h3 hj
              go_wp2_with fail
              go_quiet (fail)
              go_wp2_with fail
              go_quiet (fail)
              go_wp2_with fail
              go_ret
              have hj := HJ.out
              refine ⟨by rw [HR.out]; rfl, ?_, ?_⟩
              · rw [HR.out]
                refine Cur.at_eq (Cur.setAt (a := j) (e := 0) (hc.keep0 ?_) (by omega) (by omega)) (by show (j : Int) + 1 = i + ((0 + 1 : Nat) : Int); omega) rfl
                first | exact (Keep.refl _ _).drewN _ | exact ((Keep.refl _ _).drewN _).drewN _
              · first | exact (hK.drewN _).set1 _ _ | exact ((hK.drewN _).drewN _).set1 _ _
            · have hc0' : ((c.toNat : Int) == 0) = false := by
                have : (c.toNat : Int) ≠ 0 := by omega
                simpa using this
              have hA := acc_add k N c.toNat hN hk9 (by omega)
              rw [Nat.mod_eq_of_lt h3, ← HW.out] at hA
              have h3' : (c.toNat : Int) < 128 := by omega
              have hA' : Hid (IntKind.u64.wrap ((N : Int) + IntKind.u64.wrap ((c.toNat : Int) % 128 * (W : Int))) = ((N + c.toNat * W : Nat) : Int)) := hA
              clear hrel hN hdr1 hj hA h2 hc0
              go_wp2_with fail
              go_quiet (fail)
              go_wp2_with fail
              go_quiet (fail)
              go_wp2_with fail
              all_goals go_ret
              all_goals
                have hj := HJ.out
                refine ⟨?_, ?_, ?_⟩
                · rw [HR.out, hA'.out, HW.out]; rfl
                · rw [HR.out]
                  refine Cur.at_eq (Cur.setAt (a := j) (e := 0) (hc.keep0 ?_) (by omega) (by omega)) (by show (j : Int) + 1 = i + ((k + 1 : Nat) : Int); omega) rfl
                  first | exact (Keep.refl _ _).drewN _ | exact ((Keep.refl _ _).drewN _).drewN _
                · first | exact (hK.drewN _).set1 _ _ | exact ((hK.drewN _).drewN _).set1 _ _
          · have hk8 : k ≤ 8 := by omega
            rw [vRd_more (by omega) h3] at hrel
            have h3' : ¬ (c.toNat : Int) < 128 := by omega
            have HR0 : (p = (N + (c.toNat - 128) * 128 ^ k + (vRd (9 - k) (s.data.toList.drop (j + 1))).1 * 128 ^ (k + 1), k + 1 + (vRd (9 - k) (s.data.toList.drop (j + 1))).2.1, (vRd (9 - k) (s.data.toList.drop (j + 1))).2.2)) := by
              rw [hrel]
              have e1 : 128 ^ (k + 1) = 128 ^ k * 128 := Nat.pow_succ _ _
              rw [e1]
              generalize 128 ^ k = P
              generalize (vRd (9 - k) (s.data.toList.drop (j + 1))).1 = V
              refine Prod.ext ?_ (Prod.ext ?_ rfl)
              · show N + (V * 128 + (c.toNat - 128)) * P = N + (c.toNat - 128) * P + V * (P * 128)
                rw [Nat.add_mul, Nat.mul_comm P 128, Nat.mul_assoc V 128 P]
                omega
              · show _ + (_ + 1) = _ + 1 + _
                omega
            have HR : Hid (p = (N + (c.toNat - 128) * 128 ^ k + (vRd (9 - k) (s.data.toList.drop (j + 1))).1 * 128 ^ (k + 1), k + 1 + (vRd (9 - k) (s.data.toList.drop (j + 1))).2.1, (vRd (9 - k) (s.data.toList.drop (j + 1))).2.2)) := HR0
            have hA := acc_add k N c.toNat hN hk9 (by omega)
            have hB := acc_lt k N (c.toNat % 128) hN hk9 (by omega) (by omega)
            have hC := weight_more k hk8
            rw [← HW.out] at hC
            have e1 : c.toNat % 128 = c.toNat - 128 := by omega
            rw [e1] at hA hB
            rw [← HW.out] at hA
            have e2 : 10 - (k + 1) = 9 - k := by omega
            have hA' : Hid (IntKind.u64.wrap ((N : Int) + IntKind.u64.wrap ((c.toNat : Int) % 128 * (W : Int))) = ((N + (c.toNat - 128) * W : Nat) : Int)) := hA
            have hB' : Hid (N + (c.toNat - 128) * 128 ^ k < 128 ^ (k + 1)) := hB.1
            have hC' : Hid (IntKind.u64.wrap ((W : Int) * 128) = ((128 ^ (k + 1) : Nat) : Int)) := hC
            have hD : Hid (List.drop (k + 1) (vBytes s i) = List.drop (j + 1) s.data.toList) := hdr1
            have hc0' : ((c.toNat : Int) == 0) = false := by
              have : (c.toNat : Int) ≠ 0 := by omega
              simpa using this
            have hk9' : ((k : Int) == 9) = false := by
              have : (k : Int) ≠ 9 := by omega
              simpa using this
            clear hrel hN hdr1 hj hA hB hC HR0 e1 h1 h2
            go_wp2_with fail
            go_quiet (fail)
            go_wp2_with fail
            go_quiet (fail)
            go_wp2_with fail
            have hj := HJ.out
            have hcast : ((j : Int) + 1) = ((j + 1 : Nat) : Int) := by omega
            go_roundw
            case rel =>
              refine ⟨k + 1, N + (c.toNat - 128) * W, j + 1, 128 ^ (k + 1), by omega, by omega, rfl, by go_num, by rw [hA'.out], by rw [hC'.out], by rw [HW.out]; exact hB'.out, ?_, ?_, by rw [e2, hD.out, HW.out]; exact HR.out⟩
              · refine Cur.at_eq (Cur.setAt (a := j) (e := 0) (hc.keep0 ?_) (by omega) (by omega)) hcast rfl
                first | exact (Keep.refl _ _).drewN _ | exact ((Keep.refl _ _).drewN _).drewN _
              · first | exact (hK.drewN _).set1 _ _ | exact ((hK.drewN _).drewN _).set1 _ _
            case measure => simp [intOf]; omega
    · have hdrop : s.data.toList.drop j = [] := List.drop_eq_nil_of_le (by simp; omega)
      rw [hdrop, vRd_nil] at hrel
      have HR0 : p = (N, k, 2) := by rw [hrel]; simp
      have HR : Hid (p = (N, k, 2)) := HR0
      obtain rfl : j = s.size := by omega
      clear HR0 hrel hN hdr1 hj hdr hdrop hW
      go_wp2_with fail
      go_quiet (fail)
      go_wp2_with fail
      go_ret
      have hj := HJ.out
      refine ⟨by rw [HR.out]; rfl, ?_, ?_⟩
      · rw [HR.out]
        refine Cur.at_eq (Cur.setErr (a := s.size) (e := 0) (hc.keep0 ?_) 2) (by show (s.size : Int) = i + (k : Int); omega) rfl
        first | exact (Keep.refl _ _).drewN _ | exact ((Keep.refl _ _).drewN _).drewN _
      · first | exact (hK.drewN _).set1 _ _ | exact ((hK.drewN _).drewN _).set1 _ _
theorem rtake_any {w : World} {b : Nat} {s : ByteArray} {a x : Int} (h : Cur w b s a x) :
    Calls Tryz.prog 125 #[ptr b] w fun e w' => e = .returned (.int .u64 (tNum s a x)) ∧ Cur w' b s (tAt s a x) (tErr s a x) ∧ Keep1 b w w' := by
  by_cases hx : x = 0
  · subst hx
    obtain ⟨i, rfl⟩ := Int.eq_ofNat_of_zero_le h.lo
    refine (rtake_of h _ rfl).mono ?_
    rintro e w' ⟨rfl, h1, h2⟩
    refine ⟨?_, ?_, h2⟩
    · unfold vNum tNum; simp
    · unfold tAt tErr; simpa using h1
  · have hx' : (x != 0) = true := by simpa using hx
    rw [tNum_err hx, tAt_err hx, tErr_err hx]
    obtain ⟨h0, h1, h2, h3, h4⟩ := h.cells
    go_enter Tryz.func125, Tryz.ntmps125
    go_wp2_with fail
    go_ret
    exact ⟨rfl, h, Keep.refl _ _⟩
end Go.Proofs.YtoefibkhlhmlfaaGreat
namespace Go.Proofs.YtoefibkhlhmlfaaGreat
open Go.RowKit
open Go.Lib (strCells strCells_length strCells_oneCell)
theorem ownsRow_weak {w : World} {base : Nat} {e : TypeId} {v : Value} {n : Nat} {xs : List Value} (h : w.ownsRow base e 1 v n xs) : w.ownsRow 0 e 1 v n xs := by
  refine ⟨h.1, ?_⟩
  rcases h.2 with hn | ⟨g, cap, cur, h1, h2, h3⟩
  · exact .inl hn
  · exact .inr ⟨g, cap, cur, h1, Nat.zero_le _, h3⟩
theorem Keep.row {w w1 w2 : World} {e : TypeId} {v : Value} {n : Nat} {xs : List Value} (hk : Keep0 w w1) (ho : w1.ownsRow w.heap.size e 1 v n xs) (hg : w1.grownBy w2 v.ownBlock) : Keep0 w w2 := by
  have h2 : Keep (fun k => some k = v.ownBlock) w1 w2 := Keep.ofGrown hg (fun k hk => hk.symm)
  refine hk.step h2 (fun i hi hh => ?_)
  have := (ho.lt i hh.symm).1
  omega
set_option maxRecDepth 100000 in
set_option maxHeartbeats 2000000 in
theorem encode_any (w : World) (n : Nat) (hn : n < 18446744073709551616) :
    Calls Tryz.prog 145 #[.int .u64 n] w fun e w' => e = .returned (.string (vText n)) ∧ Keep0 w w' := by
  obtain ⟨i0, hi, hz0, hz1, hz2⟩ := info_parts infoU8
  have hle := vText_le hn
  rw [vText_size] at hle
  go_enter Tryz.func145, Tryz.ntmps145
  go_wp2_with fail
  go_loopw [0, 3] (fun v l wr => ∃ (N : Nat) (t : ByteArray) (ao : Option Addr) (cap : Nat), v = .int .u64 N ∧ N < 18446744073709551616 ∧ l = .slice ao t.size cap ∧ wr.ownsRow w.heap.size 5 1 (.slice ao t.size cap) t.size (strCells t) ∧ Keep0 w wr ∧
      vEnc n = t.data.toList ++ vEnc N) (fun v _ _ => (intOf v).toNat)
  case atStart => exact ⟨n, ⟨#[]⟩, none, 0, rfl, hn, rfl, World.ownsRow_nil _ _ _ _, Keep.refl _ _, rfl⟩
  case round =>
    obtain ⟨N, t, ao, cap, rfl, hN, rfl, ho, hK, hrel⟩ := hrel
    have hln := congrArg List.length hrel
    rw [List.length_append] at hln
    have hts : t.data.toList.length = t.size := by simp
    have hpos := vEnc_len_pos N
    have htz : t.size ≤ 9 := by omega
    clear hln hts hpos hle
    have hoA := ho.alloc
    by_cases hge : 128 ≤ N
    · rw [vEnc_ge (n := N) (by omega)] at hrel
      have hcn : ((UInt8.ofNat (N % 128 + 128)).toNat : Int) = (N : Int) % 128 + 128 := by rw [byte_nat (by omega)]; omega
      generalize hcc : UInt8.ofNat (N % 128 + 128) = c at *
      have HR : Hid (vEnc n = t.data.toList ++ c :: vEnc (N / 128)) := hrel
      clear hrel hcc
      have HC : Hid ((c.toNat : Int) = (N : Int) % 128 + 128) := hcn
      clear hcn
      go_wp2_with (at_builtin; refine wpList_append_lies _ rfl (.tmp 6) (.tmp 11) 106 rfl w.heap.size 5 i0 (.int .u8 0) 1 1 Tryz.underlying106 hi hz0 hz1 hz2 rfl (by decide) _ _ _ rfl (hoA _) ⟨wr.heap.size, 0, none⟩ 1 1 [.int .u8 ((N : Int) % 128 + 128)] rfl rfl (cell_one_new _ _ _) ?c1 (by decide) ?c2 ?c3 ?c4 _ rfl ?_)
      case c1 => intro u hu; simp at hu; subst hu; rfl
      case c2 => unfold maxLen; omega
      case c3 => omega
      case c4 => have := hK.size; simp; omega
      intro g cap3 w3 ho3 hg3 hat3 hlt3
      have hK3 := (hK.alloc _).row (hoA _) hg3
      have hsz : (t ++ one c).size = t.size + 1 := by rw [ByteArray.size_append, one_size]
      have ho4 : w3.ownsRow w.heap.size 5 1 (.slice (some ⟨g, 0, none⟩) (t ++ one c).size cap3) (t ++ one c).size (strCells (t ++ one c)) := by
        rw [hsz, strCells_append, one_cells, HC.out]
        exact ho3
      rw [hsz] at ho4
      clear ho3 hg3 hat3 hlt3 hoA ho
      go_wp2
      go_roundw
      case rel => exact ⟨N / 128, t ++ one c, some ⟨g, 0, none⟩, cap3, by go_num, by omega, by rw [hsz], by rw [hsz]; exact ho4, hK3, by rw [HR.out, ByteArray.data_append, Array.toList_append, List.append_assoc]; rfl⟩
      case measure => simp [intOf]; omega
    · rw [vEnc_lt (n := N) (by omega)] at hrel
      have hcn : ((UInt8.ofNat N).toNat : Int) = (N : Int) := by rw [byte_nat (by omega)]
      generalize hcc : UInt8.ofNat N = c at *
      have HR : Hid (vEnc n = t.data.toList ++ [c]) := hrel
      clear hrel hcc
      have HC : Hid ((c.toNat : Int) = (N : Int)) := hcn
      clear hcn
      go_wp2_with (at_builtin; refine wpList_append_lies _ rfl (.tmp 15) (.tmp 18) 106 rfl w.heap.size 5 i0 (.int .u8 0) 1 1 Tryz.underlying106 hi hz0 hz1 hz2 rfl (by decide) _ _ _ rfl (hoA _) ⟨wr.heap.size, 0, none⟩ 1 1 [.int .u8 (N : Int)] rfl rfl (cell_one_new _ _ _) ?c1 (by decide) ?c2 ?c3 ?c4 _ rfl ?_)
      case c1 => intro u hu; simp at hu; subst hu; rfl
      case c2 => unfold maxLen; omega
      case c3 => omega
      case c4 => have := hK.size; simp; omega
      intro g cap3 w3 ho3 hg3 hat3 hlt3
      have hK3 := (hK.alloc _).row (hoA _) hg3
      have hsz : (t ++ one c).size = t.size + 1 := by rw [ByteArray.size_append, one_size]
      have ho4 : w3.ownsRow w.heap.size 5 1 (.slice (some ⟨g, 0, none⟩) (t ++ one c).size cap3) (t ++ one c).size (strCells (t ++ one c)) := by
        rw [hsz, strCells_append, one_cells, HC.out]
        exact ho3
      have hcv := run_text (P := Tryz.prog) 106 9 Tryz.underlying106 Tryz.underlying5 Tryz.underlying9 (ownsRow_weak ho4)
      rw [hsz] at hcv
      have htx : t ++ one c = vText n := by
        apply ByteArray.ext
        unfold vText
        rw [HR.out, ByteArray.data_append]
        apply Array.ext'
        simp [one]
      rw [htx] at hcv
      clear ho3 hg3 hat3 hlt3 hoA ho ho4
      go_wp2
      go_ret
      exact ⟨rfl, hK3⟩
theorem run_one {src dst : TypeId} (hs : Tryz.prog.underlying src = some (.slice 5)) (hd : Tryz.prog.underlying dst = some .string) (W : World) (g : Nat) (c : UInt8) (x : Int) (hx : (c.toNat : Int) = x)
    (hc : W.cell? ⟨g, 0, none⟩ = some (.int .u8 x)) : (convert src dst (.slice (some ⟨g, 0, none⟩) 1 1)).run Tryz.prog W = .ok (.string (one c)) W := by
  have h := run_convert_bytes_back (P := Tryz.prog) W src dst 5 ⟨g, 0, none⟩ 1 [c] hs Tryz.underlying5 hd (fun j hj => by
    obtain rfl : j = 0 := by simpa using hj
    subst hx
    exact hc)
  exact h
set_option maxRecDepth 100000 in
theorem rencode_small (w : World) (n : Nat) (hn : n < 128) :
    Calls Tryz.prog 182 #[.int .u64 n] w fun e w' => e = .returned (.string (vText n)) ∧ Keep0 w w' := by
  have htx : vText n = one (UInt8.ofNat n) := by unfold vText; rw [vEnc_lt hn]; rfl
  have hcn : ((UInt8.ofNat n).toNat : Int) = (n : Int) := by rw [byte_nat (by omega)]
  rw [htx]
  generalize UInt8.ofNat n = c at *
  have hcv := run_one (src := 106) (dst := 9) Tryz.underlying106 Tryz.underlying9 (w.alloc (.cells #[.int .u8 (n : Int)] 5)) w.heap.size c n hcn (cell_alloc w _ rfl)
  clear hcn htx
  go_enter Tryz.func182, Tryz.ntmps182
  go_wp2
  go_ret
  exact ⟨rfl, (Keep.refl _ _).alloc _⟩
set_option maxRecDepth 100000 in
set_option maxHeartbeats 2000000 in
theorem rencode_step (w : World) (n : Nat) (hn : n < 18446744073709551616) (hge : 128 ≤ n) (ih : ∀ w : World, Calls Tryz.prog 182 #[.int .u64 (n / 128 : Nat)] w fun e w' => e = .returned (.string (vText (n / 128))) ∧ Keep0 w w') :
    Calls Tryz.prog 182 #[.int .u64 n] w fun e w' => e = .returned (.string (vText n)) ∧ Keep0 w w' := by
  have htx : vText n = one (UInt8.ofNat (n % 128 + 128)) ++ vText (n / 128) := by
    apply ByteArray.ext
    unfold vText
    rw [vEnc_ge (by omega), ByteArray.data_append]
    apply Array.ext'
    simp [one]
  have hcn : ((UInt8.ofNat (n % 128 + 128)).toNat : Int) = IntKind.u8.wrap (IntKind.u64.wrap ((n : Int).tmod 128 + 128)) := by
    rw [byte_nat (by omega), IntKind.wrap_u64, IntKind.wrap_u8, Int.tmod_eq_emod_of_nonneg (by omega)]; omega
  rw [htx]
  generalize UInt8.ofNat (n % 128 + 128) = c at *
  have hdv : ((n / 128 : Nat) : Int) = IntKind.u64.wrap ((n : Int) / 128) := by rw [IntKind.wrap_u64]; omega
  rw [hdv] at ih
  have hcv : ∀ (W : World) (g : Nat), W.cell? ⟨g, 0, none⟩ = some (.int .u8 (IntKind.u8.wrap (IntKind.u64.wrap ((n : Int).tmod 128 + 128)))) → (convert 106 9 (.slice (some ⟨g, 0, none⟩) 1 1)).run Tryz.prog W = .ok (.string (one c)) W :=
    fun W g hc => run_one (src := 106) (dst := 9) Tryz.underlying106 Tryz.underlying9 W g c _ hcn hc
  have hsz : (one c).size + (vText (n / 128)).size ≤ 4611686018427387904 := by
    have := vText_le (n := n / 128) (by omega)
    rw [one_size]; omega
  clear hcn htx hdv
  go_enter Tryz.func182, Tryz.ntmps182
  go_wp2_with fail
  go_region_with (go_at_call 182; refine (ih _).mono ?_; rintro e w1 ⟨rfl, k1⟩; first | (have hc1 : w1.cell? ⟨w.heap.size, 0, none⟩ = some (.int .u8 (IntKind.u8.wrap (IntKind.u64.wrap ((n : Int).tmod 128 + 128)))) := k1.cell (cell_alloc _ _ rfl) (fun f => f)) | skip)
  all_goals go_wp2_with fail
  all_goals go_ret
  all_goals refine ⟨rfl, ?_⟩
  all_goals first | exact (((Keep.refl _ w).alloc _).drew).trans k1 | exact (((Keep.refl _ w).drew).trans k1).alloc _
theorem rencode_any : ∀ (n : Nat) (w : World), n < 18446744073709551616 → Calls Tryz.prog 182 #[.int .u64 n] w fun e w' => e = .returned (.string (vText n)) ∧ Keep0 w w' := by
  intro n
  induction n using Nat.strongRecOn with
  | _ n ih =>
    intro w hn
    by_cases h : n < 128
    · exact rencode_small w n h
    · exact rencode_step w n hn (by omega) (fun w => ih (n / 128) (by omega) w (by omega))
end Go.Proofs.YtoefibkhlhmlfaaGreat
namespace Go.Proofs.YtoefibkhlhmlfaaGreat
open Go.RowKit
theorem vRd_text {n : Nat} (hn : n < 18446744073709551616) (l : List UInt8) : vRd 10 (vEnc n ++ l) = (n, (vEnc n).length, 0) := vRd_enc 9 n l (by omega) (.inl rfl)
theorem pAll_one (m : Int) (p : ByteArray × Int) (s : ByteArray) : pAll m p [s] = pOne m p s := rfl
theorem texts_sum : ∀ (ns : List Nat), (∀ n ∈ ns, n < 18446744073709551616) → ((ns.map vText).map ByteArray.size).sum ≤ 10 * ns.length
  | [], _ => Nat.le_refl _
  | n :: ns, h => by
    have h1 := (vText_le (h n (by simp))).2
    have h2 := texts_sum ns (fun k hk => h k (by simp [hk]))
    simp only [List.map_cons, List.sum_cons, List.length_cons]
    omega
set_option maxRecDepth 100000 in
set_option maxHeartbeats 2000000 in
theorem put_any {w : World} {b r : Nat} {t : ByteArray} {m x : Int} (h : Pen w b r t m x) (ao : Option Addr) (cap : Nat) (ns : List Nat) (hns : ∀ n ∈ ns, n < 18446744073709551616)
    (hc : ∀ k (hk : k < ns.length), ∃ bb off, ao = some ⟨bb, off, none⟩ ∧ w.cell? ⟨bb, off + k, none⟩ = some (.int .u64 (ns[k] : Int)) ∧ bb ≠ b ∧ bb ≠ r)
    (hl : (ns.length : Int) ≤ 9223372036854775807) (hfit : t.size + 10 * ns.length ≤ 140737488355328) :
    Calls Tryz.prog 105 #[pptr b, .slice ao ns.length cap] w fun e w' => e = .returned (.tuple #[]) ∧ PenAfter w w' b r m (pAll m (t, x) (ns.map vText)) := by
  have HC : Hid (∀ k (hk : k < ns.length), ∃ bb off, ao = some ⟨bb, off, none⟩ ∧ w.cell? ⟨bb, off + k, none⟩ = some (.int .u64 (ns[k] : Int)) ∧ bb ≠ b ∧ bb ≠ r) := hc
  have HN : Hid (∀ n ∈ ns, n < 18446744073709551616) := hns
  clear hc hns
  go_enter Tryz.func105, Tryz.ntmps105
  go_wp2_with fail
  go_loopw [8] (fun i wr => ∃ (k r' : Nat) (t' : ByteArray) (x' : Int), k ≤ ns.length ∧ i = .int .i64 k ∧ Pen wr b r' t' m x' ∧ pAll m (t, x) ((ns.map vText).take k) = (t', x') ∧ Keep (two b r) w wr ∧ (r' = r ∨ w.heap.size ≤ r')) (fun i _ => ns.length - (intOf i).toNat)
  case atStart => exact ⟨0, r, t, x, by omega, rfl, h, rfl, Keep.refl _ _, .inl rfl⟩
  case round =>
    obtain ⟨k, r', t', x', hk, rfl, hp, hall, hkp, hr⟩ := hrel
    by_cases hlt : k < ns.length
    · obtain ⟨bb, off, rfl, hcell0, hb1, hb2⟩ := HC.out k hlt
      have hcell : wr.cell? ⟨bb, off + k, none⟩ = some (.int .u64 (ns[k] : Int)) := hkp.cell hcell0 (by simp only [two]; omega)
      have hnk := HN.out ns[k] (by simp)
      have hstep := pAll_take m (t, x) (ns.map vText) k (by simpa using hlt)
      rw [hall, List.getElem_map] at hstep
      have hsz := pAll_size m ((ns.map vText).take k) (t, x)
      have hsm := texts_sum (ns.take k) (fun n hn => HN.out n (List.mem_of_mem_take hn))
      have hlk : (ns.take k).length ≤ k := by simp; omega
      rw [hall, ← List.map_take] at hsz
      generalize ns[k] = n at *
      simp only at hsz
      have hvt := vText_le hnk
      have hfs : t'.size + (vText n).size ≤ 140737488355328 := by omega
      have HS : Hid (pAll m (t, x) ((ns.map vText).take (k + 1)) = pOne m (t', x') (vText n)) := hstep
      clear hcell0 hsz hsm hlk hstep hall hfit hvt
      go_wp2_with fail
      refine (encode_any wr n hnk).mono ?_
      rintro e w2 ⟨rfl, k2⟩
      have hp2 := hp.keep0 k2
      have kA := (Keep.refl (fun _ => False) w2).alloc (.cells #[.string (vText n)] 9)
      have hpA := hp2.keep0 kA
      have hb2' := hp2.lt
      have hr2' := hp2.rlt
      go_wp2_with fail
      refine (ptext_any hpA _ _ [vText n] ?_ (by simp) (.inl ?_)).mono ?_
      · intro j hj
        obtain rfl : j = 0 := by simp at hj; omega
        exact ⟨w2.heap.size, 0, rfl, cell_alloc w2 _ rfl, by omega, by omega⟩
      · simp; omega
      rw [pAll_one]
      rintro e w3 ⟨rfl, r3, hp3, k3, hr3⟩
      have hs2 := k2.size
      have hsA := kA.size
      go_wp2
      go_roundw
      case rel => exact ⟨k + 1, r3, _, _, by omega, by go_num, hp3, HS.out, ((hkp.step0 k2).step0 kA).step k3 (fun i hi' hh => by simp only [two] at hh ⊢; omega), by have := hkp.size; omega⟩
      case measure => simp [intOf]; omega
    · rw [List.take_of_length_le (by simp; omega)] at hall
      have HE : Hid (pAll m (t, x) (ns.map vText) = (t', x')) := hall
      clear hall
      go_wp2
      go_end0
      refine ⟨rfl, ?_⟩
      rw [HE.out]
      exact ⟨r', hp, hkp, hr⟩
theorem rput_any {w : World} {b : Nat} {t : ByteArray} {m x : Int} (n : Nat) (hn : n < 18446744073709551616) (h : RPen w b t m x) (ht : t.size ≤ 140737488355328) :
    Calls Tryz.prog 158 #[pptr b, .int .u64 n] w fun e w' => e = .returned (.tuple #[]) ∧ RPen w' b (pOne m (t, x) (vText n)).1 m (pOne m (t, x) (vText n)).2 ∧ Keep1 b w w' := by
  have hv := vText_le hn
  go_enter Tryz.func158, Tryz.ntmps158
  go_wp2_with fail
  refine (rencode_any n w hn).mono ?_
  rintro e w1 ⟨rfl, k1⟩
  go_wp2_with fail
  refine (rptext_any (vText n) (h.keep0 k1) (by omega)).mono ?_
  rintro e w2 ⟨rfl, h2, k2⟩
  go_wp2
  go_end0
  exact ⟨rfl, h2, k1.any.trans k2⟩
end Go.Proofs.YtoefibkhlhmlfaaGreat
