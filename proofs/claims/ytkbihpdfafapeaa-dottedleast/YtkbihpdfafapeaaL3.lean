/-
  The texts Var, VarTake, VarEnc, VarDec of this seat, one behind the other.
  Conditions: as each says.
-/
import Derived.Test.YtkbihpdfafapeaaL1
import Derived.Laws.Bits64b
import Derived.PlainAid
import Derived.Test.YtkbihpdfafapeaaL2
import Derived.Deep.RegionWith
/-
  A number's bytes (layer 3), and reading them, as functions on lists: that each number has one text that is read as it, and how long it is. No program is spoken of here.
  Conditions: a number takes 64 bits.
-/
namespace Go.Proofs.Ytkbihpdfafapeaa
open Go.RowKit

/-- Reading a number off bytes where k bytes are to go (10 at first): the number, how many bytes may be read, the error. -/
def vRd : Nat → List UInt8 → Nat × Nat × Int
  | 0, _ => (0, 0, 2)
  | _ + 1, [] => (0, 0, 2)
  | k + 1, b :: l => if k = 0 ∧ 1 < b.toNat then (0, 0, 5) else if b.toNat = 0 ∧ k < 9 then (0, 0, 4) else if b.toNat < 128 then (b.toNat, 1, 0) else
      ((vRd k l).1 * 128 + (b.toNat - 128), (vRd k l).2.1 + 1, (vRd k l).2.2)

theorem vRd_nil (k : Nat) : vRd k [] = (0, 0, 2) := by cases k <;> rfl
theorem vRd_over {k : Nat} {b : UInt8} {l : List UInt8} (h : k = 0 ∧ 1 < b.toNat) : vRd (k + 1) (b :: l) = (0, 0, 5) := if_pos h
theorem vRd_minimal {k : Nat} {b : UInt8} {l : List UInt8} (h : ¬ (k = 0 ∧ 1 < b.toNat)) (h1 : b.toNat = 0 ∧ k < 9) : vRd (k + 1) (b :: l) = (0, 0, 4) := by
  rw [vRd, if_neg h, if_pos h1]
theorem vRd_last {k : Nat} {b : UInt8} {l : List UInt8} (h : ¬ (k = 0 ∧ 1 < b.toNat)) (h1 : ¬ (b.toNat = 0 ∧ k < 9)) (h2 : b.toNat < 128) : vRd (k + 1) (b :: l) = (b.toNat, 1, 0) := by
  rw [vRd, if_neg h, if_neg h1, if_pos h2]
theorem vRd_more {k : Nat} {b : UInt8} {l : List UInt8} (h : ¬ (k = 0 ∧ 1 < b.toNat)) (h2 : ¬ b.toNat < 128) :
    vRd (k + 1) (b :: l) = ((vRd k l).1 * 128 + (b.toNat - 128), (vRd k l).2.1 + 1, (vRd k l).2.2) := by
  rw [vRd, if_neg h, if_neg (by omega), if_neg h2]
theorem vRd_take : ∀ (k : Nat) (l : List UInt8), vRd k (l.take k) = vRd k l
  | 0, _ => rfl
  | _ + 1, [] => rfl
  | k + 1, b :: l => by
    rw [List.take_succ_cons, vRd, vRd, vRd_take k l]
theorem vRd_len : ∀ (k : Nat) (l : List UInt8), (vRd k l).2.1 ≤ l.length
  | 0, _ => Nat.zero_le _
  | _ + 1, [] => Nat.zero_le _
  | k + 1, b :: l => by
    have ih := vRd_len k l
    rw [vRd]
    simp only [List.length_cons]
    split
    · exact Nat.zero_le _
    · split
      · exact Nat.zero_le _
      · split
        · show 1 ≤ _; omega
        · show _ + 1 ≤ _; omega
theorem vRd_le : ∀ (k : Nat) (l : List UInt8), (vRd k l).2.1 ≤ k
  | 0, _ => Nat.zero_le _
  | _ + 1, [] => Nat.zero_le _
  | k + 1, b :: l => by
    have ih := vRd_le k l
    rw [vRd]
    split
    · exact Nat.zero_le _
    · split
      · exact Nat.zero_le _
      · split
        · show 1 ≤ _; omega
        · show _ + 1 ≤ _; omega
/-- The error is one of those that the chapter names. -/
theorem vRd_err : ∀ (k : Nat) (l : List UInt8), 0 ≤ (vRd k l).2.2 ∧ (vRd k l).2.2 ≤ 5
  | 0, _ => by show (0 : Int) ≤ 2 ∧ (2 : Int) ≤ 5; decide
  | _ + 1, [] => by show (0 : Int) ≤ 2 ∧ (2 : Int) ≤ 5; decide
  | k + 1, b :: l => by
    have ih := vRd_err k l
    rw [vRd]
    split
    · show (0 : Int) ≤ 5 ∧ (5 : Int) ≤ 5; decide
    · split
      · show (0 : Int) ≤ 4 ∧ (4 : Int) ≤ 5; decide
      · split
        · show (0 : Int) ≤ 0 ∧ (0 : Int) ≤ 5; decide
        · exact ih
/-- Where k bytes are to go the number takes 7 bits for each but the last, which has one. -/
theorem vRd_lt : ∀ (k : Nat) (l : List UInt8), k < 10 → (vRd (k + 1) l).1 < 2 * 128 ^ k
  | k, [], _ => by show 0 < _; exact Nat.mul_pos (by decide) (Nat.pow_pos (by decide))
  | 0, b :: l, _ => by
    rw [vRd]
    split
    · decide
    · split
      · decide
      · split
        · show b.toNat < 2; omega
        · omega
  | k + 1, b :: l, h => by
    have ih := vRd_lt k l (by omega)
    have hb := b.toNat_lt
    have hp : 128 ^ (k + 1) = 128 ^ k * 128 := Nat.pow_succ _ _
    have h1 : 1 ≤ 128 ^ k := Nat.pow_pos (by decide)
    rw [vRd]
    split
    · show 0 < _; omega
    · split
      · show 0 < _; omega
      · split
        · show b.toNat < _; omega
        · show _ * 128 + _ < _
          omega

/-- A number's bytes. -/
def vEnc (n : Nat) : List UInt8 := if n < 128 then [UInt8.ofNat n] else UInt8.ofNat (n % 128 + 128) :: vEnc (n / 128)
  termination_by n
  decreasing_by omega
theorem vEnc_lt {n : Nat} (h : n < 128) : vEnc n = [UInt8.ofNat n] := by rw [vEnc, if_pos h]
theorem vEnc_ge {n : Nat} (h : ¬ n < 128) : vEnc n = UInt8.ofNat (n % 128 + 128) :: vEnc (n / 128) := by rw [vEnc, if_neg h]
theorem byte_nat {n : Nat} (h : n < 256) : (UInt8.ofNat n).toNat = n := by
  rw [UInt8.toNat_ofNat']
  exact Nat.mod_eq_of_lt (by simpa using h)
theorem vEnc_len_lt : ∀ (k n : Nat), n < 128 ^ (k + 1) → (vEnc n).length ≤ k + 1
  | 0, n, h => by rw [vEnc_lt (by omega)]; exact Nat.le_refl _
  | k + 1, n, h => by
    have hp : 128 ^ (k + 1 + 1) = 128 ^ (k + 1) * 128 := Nat.pow_succ _ _
    by_cases hn : n < 128
    · rw [vEnc_lt hn]; show 1 ≤ _; omega
    · rw [vEnc_ge hn]
      have := vEnc_len_lt k (n / 128) (by omega)
      simp only [List.length_cons]
      omega
theorem vEnc_len_ge : ∀ (k n : Nat), 128 ^ k ≤ n → k + 1 ≤ (vEnc n).length
  | 0, n, _ => by
    by_cases hn : n < 128
    · rw [vEnc_lt hn]; exact Nat.le_refl _
    · rw [vEnc_ge hn]; simp
  | k + 1, n, h => by
    have hp : 128 ^ (k + 1) = 128 ^ k * 128 := Nat.pow_succ _ _
    have h1 : 1 ≤ 128 ^ k := Nat.pow_pos (by decide)
    have hn : ¬ n < 128 := by omega
    rw [vEnc_ge hn]
    have := vEnc_len_ge k (n / 128) (by omega)
    simp only [List.length_cons]
    omega
theorem vEnc_len_pos (n : Nat) : 1 ≤ (vEnc n).length := by
  by_cases hn : n < 128
  · rw [vEnc_lt hn]; exact Nat.le_refl _
  · rw [vEnc_ge hn]; simp
/-- A greater number has no fewer bytes. -/
theorem vEnc_mono : ∀ (n m : Nat), n ≤ m → (vEnc n).length ≤ (vEnc m).length := by
  intro n
  induction n using Nat.strongRecOn with
  | _ n ih =>
    intro m h
    by_cases hn : n < 128
    · rw [vEnc_lt hn]; exact vEnc_len_pos m
    · rw [vEnc_ge hn, vEnc_ge (by omega : ¬ m < 128)]
      have := ih (n / 128) (by omega) (m / 128) (by omega)
      simp only [List.length_cons]
      omega

/-- What is written is read again, whatever is behind it. -/
theorem vRd_enc : ∀ (k n : Nat) (l : List UInt8), n < 2 * 128 ^ k → (k = 9 ∨ (k < 9 ∧ 0 < n)) → vRd (k + 1) (vEnc n ++ l) = (n, (vEnc n).length, 0)
  | 0, n, l, h, h0 => by
    have hn : n < 128 := by omega
    have hb := byte_nat (n := n) (by omega)
    rw [vEnc_lt hn, List.singleton_append, vRd_last (by rw [hb]; omega) (by rw [hb]; omega) (by rw [hb]; omega), hb]
    rfl
  | k + 1, n, l, h, h0 => by
    have hp : 128 ^ (k + 1) = 128 ^ k * 128 := Nat.pow_succ _ _
    by_cases hn : n < 128
    · have hb := byte_nat (n := n) (by omega)
      rw [vEnc_lt hn, List.singleton_append, vRd_last (by rw [hb]; omega) (by rw [hb]; omega) (by rw [hb]; omega), hb]
      rfl
    · have hb := byte_nat (n := n % 128 + 128) (by omega)
      have ih := vRd_enc k (n / 128) l (by omega) (by omega)
      rw [vEnc_ge hn, List.cons_append, vRd_more (by rw [hb]; omega) (by rw [hb]; omega), hb, ih]
      rw [List.length_cons, Nat.add_sub_cancel, Nat.div_add_mod' n 128]

/-- What is read is written so again. -/
theorem vRd_back : ∀ (k : Nat) (l : List UInt8), k < 10 → (vRd (k + 1) l).2.2 = 0 → l.take (vRd (k + 1) l).2.1 = vEnc (vRd (k + 1) l).1 ∧ (k < 9 → 0 < (vRd (k + 1) l).1)
  | k, [], _, h => by
    rw [vRd_nil] at h
    exact absurd h (by decide)
  | k, b :: l, hk, h => by
    have hb := b.toNat_lt
    by_cases h1 : k = 0 ∧ 1 < b.toNat
    · rw [vRd_over h1] at h
      exact absurd h (by decide)
    · by_cases h2 : b.toNat = 0 ∧ k < 9
      · rw [vRd_minimal h1 h2] at h
        exact absurd h (by decide)
      · by_cases h3 : b.toNat < 128
        · rw [vRd_last h1 h2 h3]
          refine ⟨?_, fun h9 => ?_⟩
          · rw [vEnc_lt h3]
            simp
          · show 0 < b.toNat
            omega
        · rw [vRd_more h1 h3] at h ⊢
          match k, hk, h1, h2, h with
          | k + 1, hk, h1, h2, h =>
            obtain ⟨ih, ih0⟩ := vRd_back k l (by omega) h
            have ih0 := ih0 (by omega)
            have hge : ¬ (vRd (k + 1) l).1 * 128 + (b.toNat - 128) < 128 := by omega
            refine ⟨?_, fun _ => by show 0 < _ * 128 + _; omega⟩
            show List.take ((vRd (k + 1) l).2.1 + 1) (b :: l) = vEnc ((vRd (k + 1) l).1 * 128 + (b.toNat - 128))
            have e1 : ((vRd (k + 1) l).1 * 128 + (b.toNat - 128)) % 128 + 128 = b.toNat := by omega
            have e2 : ((vRd (k + 1) l).1 * 128 + (b.toNat - 128)) / 128 = (vRd (k + 1) l).1 := by omega
            rw [vEnc_ge hge, List.take_succ_cons, ih, e1, e2]
            simp
          | 0, hk, h1, h2, h => omega

/-! ### what a cursor's reading comes to -/
/-- The bytes at a place. -/
def vBytes (s : ByteArray) (a : Int) : List UInt8 := s.data.toList.drop a.toNat
/-- What Take answers; the place then; the error then. -/
def tNum (s : ByteArray) (a x : Int) : Int := if x = 0 ∧ (vRd 10 (vBytes s a)).2.2 = 0 then (vRd 10 (vBytes s a)).1 else 0
def tAt (s : ByteArray) (a x : Int) : Int := if x = 0 then a + (vRd 10 (vBytes s a)).2.1 else a
def tErr (s : ByteArray) (a x : Int) : Int := if x = 0 then (vRd 10 (vBytes s a)).2.2 else x
theorem tNum_err {s : ByteArray} {a x : Int} (h : x ≠ 0) : tNum s a x = 0 := if_neg (fun e => h e.1)
theorem tAt_err {s : ByteArray} {a x : Int} (h : x ≠ 0) : tAt s a x = a := if_neg h
theorem tErr_err {s : ByteArray} {a x : Int} (h : x ≠ 0) : tErr s a x = x := if_neg h
theorem tNum_lt (s : ByteArray) (a x : Int) : 0 ≤ tNum s a x ∧ tNum s a x ≤ 18446744073709551615 := by
  have h : (vRd 10 (vBytes s a)).1 < _ := vRd_lt 9 (vBytes s a) (by decide)
  unfold tNum
  split <;> omega
theorem vBytes_len {s : ByteArray} {a : Int} (h0 : 0 ≤ a) (h1 : a ≤ s.size) : ((vBytes s a).length : Int) = s.size - a := by
  have : s.size = s.data.toList.length := by simp
  unfold vBytes
  rw [List.length_drop]
  omega
theorem tAt_le {s : ByteArray} {a x : Int} (h0 : 0 ≤ a) (h1 : a ≤ s.size) : 0 ≤ tAt s a x ∧ tAt s a x ≤ s.size := by
  have h := vRd_len 10 (vBytes s a)
  have hl := vBytes_len h0 h1
  unfold tAt
  split <;> omega
/-- A number's text. -/
def vText (n : Nat) : ByteArray := ⟨(vEnc n).toArray⟩
theorem vText_size (n : Nat) : (vText n).size = (vEnc n).length := by
  show (vEnc n).toArray.size = _
  simp
theorem vText_le {n : Nat} (h : n < 18446744073709551616) : 1 ≤ (vText n).size ∧ (vText n).size ≤ 10 := by
  rw [vText_size]
  exact ⟨vEnc_len_pos n, vEnc_len_lt 9 n (by omega)⟩

/-! ### seven bits more -/
theorem or_shift (i n c : Nat) (h : n < 2 ^ i) : n ||| c * 2 ^ i = n + c * 2 ^ i := by
  have := Nat.shiftLeft_add_eq_or_of_lt h c
  rw [Nat.shiftLeft_eq] at this
  rw [Nat.or_comm, ← this, Nat.add_comm]
theorem pow7 (i : Nat) : 2 ^ (7 * i) = 128 ^ i := by rw [Nat.pow_mul]
theorem acc_lt (k N c : Nat) (hN : N < 128 ^ k) (hk : k ≤ 9) (hc : c < 128) (h9 : k = 9 → c ≤ 1) : N + c * 128 ^ k < 128 ^ (k + 1) ∧ N + c * 128 ^ k < 18446744073709551616 := by
  have hp : 128 ^ (k + 1) = 128 ^ k * 128 := Nat.pow_succ _ _
  have h1 : c * 128 ^ k ≤ 127 * 128 ^ k := Nat.mul_le_mul_right _ (by omega)
  refine ⟨by omega, ?_⟩
  by_cases h : k = 9
  · subst h
    have := h9 rfl
    omega
  · have h2 : 128 ^ k ≤ 128 ^ 8 := Nat.pow_le_pow_right (by decide) (by omega)
    omega
theorem acc_or (k N c : Nat) (hN : N < 128 ^ k) (hk : k ≤ 9) (h9 : k = 9 → c % 128 ≤ 1) :
    bits .or .u64 (N : Int) (IntKind.u64.wrap ((c : Int) % 128 * 2 ^ (7 * k))) = ((N + c % 128 * 128 ^ k : Nat) : Int) := by
  have hb := acc_lt k N (c % 128) hN hk (by omega) h9
  have e : ((c : Int) % 128 * 2 ^ (7 * k)) = ((c % 128 * 2 ^ (7 * k) : Nat) : Int) := by simp
  rw [e, IntKind.wrap_u64]
  have hq : c % 128 * 2 ^ (7 * k) = c % 128 * 128 ^ k := by rw [pow7]
  have hw : (((c % 128 * 2 ^ (7 * k) : Nat) : Int) % 18446744073709551616) = ((c % 128 * 2 ^ (7 * k) : Nat) : Int) := by
    rw [hq]
    omega
  rw [hw, bits_or_u64_nat _ _ (by omega) (by rw [hq]; omega), or_shift _ _ _ (by rw [pow7]; exact hN), pow7]
theorem acc_add (k N c : Nat) (hN : N < 128 ^ k) (hk : k ≤ 9) (h9 : k = 9 → c % 128 ≤ 1) :
    IntKind.u64.wrap ((N : Int) + IntKind.u64.wrap ((c : Int) % 128 * ((128 ^ k : Nat) : Int))) = ((N + c % 128 * 128 ^ k : Nat) : Int) := by
  have hb := acc_lt k N (c % 128) hN hk (by omega) h9
  have e : ((c : Int) % 128 * ((128 ^ k : Nat) : Int)) = ((c % 128 * 128 ^ k : Nat) : Int) := by simp
  rw [e, IntKind.wrap_u64, IntKind.wrap_u64]
  omega
end Go.Proofs.Ytkbihpdfafapeaa
/-
  Contracts of reading a number (layer 3): the code's fault, look and Take, and the document's own Take, each proved over this seat's translation.
  Conditions: the cursor's place lies within its text, which takes at most the greatest length that a string may have.
-/
namespace Go.Proofs.Ytkbihpdfafapeaa
open Go.RowKit
open Go.PlainAid (bt get_bt bt_nonneg bt_le)

/-- What is wrong with the i-th byte. -/
def vFault (i b : Int) : Int := if i = 9 ∧ 1 < b then 5 else if 0 < i ∧ b = 0 then 4 else 0
/-- Three results of reading. -/
def vNum (p : Nat × Nat × Int) : Int := if p.2.2 = 0 then p.1 else 0
theorem vAhead {s : ByteArray} {a : Int} (h0 : 0 ≤ a) (h1 : a ≤ s.size) : (cAhead s a 10).data.toList = (vBytes s a).take 10 ∧ (cAhead s a 10).size ≤ 10 := by
  obtain ⟨i, rfl⟩ := Int.eq_ofNat_of_zero_le h0
  have hsz : s.size = s.data.size := rfl
  have e : (cAhead s (i : Int) 10).data.toList = (vBytes s (i : Int)).take 10 := by
    unfold cAhead vBytes
    rw [if_neg (by omega)]
    split
    · unfold cut
      rw [ByteArray.data_extract, Array.toList_extract, List.extract_eq_take_drop]
      congr 1
      omega
    · unfold cut
      rw [ByteArray.data_extract, Array.toList_extract, List.extract_eq_take_drop]
      have hl : (s.data.toList.drop i).length ≤ 10 := by simp; omega
      simp only [Int.toNat_natCast]
      rw [List.take_of_length_le (by simp), List.take_of_length_le hl]
  refine ⟨e, ?_⟩
  have : (cAhead s (i : Int) 10).size = (cAhead s (i : Int) 10).data.toList.length := by simp
  rw [this, e, List.length_take]
  omega
/-! ### the document's own reading -/
theorem Cur.at_eq {w : World} {b : Nat} {s : ByteArray} {a a' e e' : Int} (h : Cur w b s a e) (ha : a = a') (he : e = e') : Cur w b s a' e' := by
  subst ha he
  exact h
theorem weight_more (k : Nat) (hk : k ≤ 8) : IntKind.u64.wrap (((128 ^ k : Nat) : Int) * 128) = ((128 ^ (k + 1) : Nat) : Int) := by
  have hp : 128 ^ (k + 1) = 128 ^ k * 128 := Nat.pow_succ _ _
  have h2 : 128 ^ k ≤ 128 ^ 8 := Nat.pow_le_pow_right (by decide) (by omega)
  rw [IntKind.wrap_u64, hp]
  omega
end Go.Proofs.Ytkbihpdfafapeaa
/-
  Contracts of writing a number (layer 3): the code's Encode and the document's own, each proved over this seat's translation.
  Conditions: the number takes 64 bits.
-/
namespace Go.Proofs.Ytkbihpdfafapeaa
open Go.RowKit
open Go.Lib (strCells strCells_length strCells_oneCell)

theorem ownsRow_weak {w : World} {base : Nat} {e : TypeId} {v : Value} {n : Nat} {xs : List Value} (h : w.ownsRow base e 1 v n xs) : w.ownsRow 0 e 1 v n xs := by
  refine ⟨h.1, ?_⟩
  rcases h.2 with hn | ⟨g, cap, cur, h1, h2, h3⟩
  · exact .inl hn
  · exact .inr ⟨g, cap, cur, h1, Nat.zero_le _, h3⟩
theorem Keep.row {w w1 w2 : World} {e : TypeId} {v : Value} {n : Nat} {xs : List Value} (hk : Keep0 w w1) (ho : w1.ownsRow w.heap.size e 1 v n xs) (hg : w1.grownBy w2 v.ownBlock) : Keep0 w w2 := by
  have h2 : Keep (fun k => some k = v.ownBlock) w1 w2 := Keep.ofGrown hg (fun k hk => hk.symm)
  refine hk.step h2 (fun i hi hh => ?_)
  have := (ho.lt i hh.symm).1
  omega

/-! ### the document's own -/
theorem run_one {src dst : TypeId} (hs : Try.prog.underlying src = some (.slice 5)) (hd : Try.prog.underlying dst = some .string) (W : World) (g : Nat) (c : UInt8) (x : Int) (hx : (c.toNat : Int) = x)
    (hc : W.cell? ⟨g, 0, none⟩ = some (.int .u8 x)) : (convert src dst (.slice (some ⟨g, 0, none⟩) 1 1)).run Try.prog W = .ok (.string (one c)) W := by
  have h := run_convert_bytes_back (P := Try.prog) W src dst 5 ⟨g, 0, none⟩ 1 [c] hs Try.underlying5 hd (fun j hj => by
    obtain rfl : j = 0 := by simpa using hj
    subst hx
    exact hc)
  exact h
end Go.Proofs.Ytkbihpdfafapeaa
/-
  Contracts of Decode and of Put (layer 3), and of the document's own, each proved over this seat's translation.
  Conditions: a text takes at most the greatest length that a string may have; a number takes 64 bits.
-/
namespace Go.Proofs.Ytkbihpdfafapeaa
open Go.RowKit

/-- What Decode answers: the number, the error. -/
def dErr (s : ByteArray) : Int := cEnd s (tAt s 0 0) (tErr s 0 0)
def dNum (s : ByteArray) : Int := if dErr s = 0 then tNum s 0 0 else 0
/-! ### what Decode comes to -/
theorem vBytes_zero (s : ByteArray) : vBytes s 0 = s.data.toList := rfl
theorem vRd_text {n : Nat} (hn : n < 18446744073709551616) (l : List UInt8) : vRd 10 (vEnc n ++ l) = (n, (vEnc n).length, 0) := vRd_enc 9 n l (by omega) (.inl rfl)
theorem decode_text {n : Nat} (hn : n < 18446744073709551616) : dErr (vText n) = 0 ∧ dNum (vText n) = n := by
  have h := vRd_text hn []
  rw [List.append_nil] at h
  have hb : vBytes (vText n) 0 = vEnc n := by rw [vBytes_zero]; unfold vText; simp
  have h1 : tErr (vText n) 0 0 = 0 := by unfold tErr; rw [if_pos rfl, hb, h]
  have h2 : tAt (vText n) 0 0 = (vText n).size := by unfold tAt; rw [if_pos rfl, hb, h, vText_size]; simp
  have h3 : tNum (vText n) 0 0 = n := by unfold tNum; rw [hb, h, if_pos ⟨rfl, rfl⟩]
  have h4 : dErr (vText n) = 0 := by unfold dErr cEnd; rw [h1, h2, if_neg (by omega)]
  exact ⟨h4, by unfold dNum; rw [if_pos h4, h3]⟩
theorem decode_back {s : ByteArray} (h : dErr s = 0) : ∃ n : Nat, n < 18446744073709551616 ∧ dNum s = n ∧ vText n = s := by
  have hl := vRd_len 10 (vBytes s 0)
  have hlt : (vRd 10 (vBytes s 0)).1 < 2 * 128 ^ 9 := vRd_lt 9 (vBytes s 0) (by decide)
  have hsz : s.size = s.data.toList.length := by simp
  rw [vBytes_zero] at hl
  have hE : tErr s 0 0 = (vRd 10 s.data.toList).2.2 := by unfold tErr; rw [if_pos rfl, vBytes_zero]
  have hA : tAt s 0 0 = (vRd 10 s.data.toList).2.1 := by unfold tAt; rw [if_pos rfl, vBytes_zero]; omega
  have h' := h
  unfold dErr cEnd cFail at h'
  have h0 : (vRd 10 s.data.toList).2.2 = 0 ∧ ¬ tAt s 0 0 < s.size := by
    split at h'
    · split at h' <;> omega
    · exact ⟨by rw [← hE]; exact h', by assumption⟩
  obtain ⟨h1, h2⟩ := h0
  have hb := (vRd_back 9 s.data.toList (by decide) h1).1
  rw [List.take_of_length_le (by show s.data.toList.length ≤ (vRd 10 s.data.toList).2.1; omega)] at hb
  refine ⟨(vRd 10 s.data.toList).1, by rw [vBytes_zero] at hlt; omega, ?_, ?_⟩
  · unfold dNum tNum
    rw [if_pos h, vBytes_zero, if_pos ⟨rfl, h1⟩]
  · unfold vText
    apply ByteArray.ext
    show (vEnc (vRd (9 + 1) s.data.toList).1).toArray = s.data
    rw [← hb]

/-! ### Put -/
theorem pAll_one (m : Int) (p : ByteArray × Int) (s : ByteArray) : pAll m p [s] = pOne m p s := rfl
theorem texts_sum : ∀ (ns : List Nat), (∀ n ∈ ns, n < 18446744073709551616) → ((ns.map vText).map ByteArray.size).sum ≤ 10 * ns.length
  | [], _ => Nat.le_refl _
  | n :: ns, h => by
    have h1 := (vText_le (h n (by simp))).2
    have h2 := texts_sum ns (fun k hk => h k (by simp [hk]))
    simp only [List.map_cons, List.sum_cons, List.length_cons]
    omega
end Go.Proofs.Ytkbihpdfafapeaa
