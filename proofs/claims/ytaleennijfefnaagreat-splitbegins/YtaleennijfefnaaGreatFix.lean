/-
  Numbers of a width and their bytes, the highest first, on lists: bNum, bEnc; widths: fIs, fGreat. No program.
  Conditions: none.
-/
import Derived.Test.YtaleennijfefnaaGreatBase
import Derived.Laws.Bits64b
import Derived.PlainAid
namespace Go.Proofs.YtaleennijfefnaaGreat
open Go.RowKit

/-- A width? The greatest number that fits it; 0 of none. -/
def fIs (k : Int) : Bool := decide (k = 1 ∨ k = 2 ∨ k = 4 ∨ k = 8)
def fGreat (k : Int) : Int := if k = 8 then 18446744073709551615 else if k = 4 then 4294967295 else if k = 2 then 65535 else if k = 1 then 255 else 0
theorem fIs_cases {k : Int} (h : fIs k = true) : k = 1 ∨ k = 2 ∨ k = 4 ∨ k = 8 := of_decide_eq_true h
theorem fIs_not {k : Int} (h : fIs k = false) : k ≠ 1 ∧ k ≠ 2 ∧ k ≠ 4 ∧ k ≠ 8 := by have := of_decide_eq_false h; omega
theorem fGreat_pow {k : Int} (h : fIs k = true) : fGreat k = ((256 ^ k.toNat - 1 : Nat) : Int) := by
  rcases fIs_cases h with rfl | rfl | rfl | rfl <;> decide
theorem fIs_nat {k : Int} (h : fIs k = true) : ∃ j : Nat, k = j ∧ 1 ≤ j ∧ j ≤ 8 := by
  rcases fIs_cases h with rfl | rfl | rfl | rfl
  · exact ⟨1, rfl, by decide, by decide⟩
  · exact ⟨2, rfl, by decide, by decide⟩
  · exact ⟨4, rfl, by decide, by decide⟩
  · exact ⟨8, rfl, by decide, by decide⟩

/-- The number of bytes, the highest first. -/
def bNum (l : List UInt8) : Nat := l.foldl (fun n c => n * 256 + c.toNat) 0
/-- The lowest k bytes of a number, the highest first. -/
def bEnc : Nat → Nat → List UInt8
  | 0, _ => []
  | k + 1, n => bEnc k (n / 256) ++ [UInt8.ofNat (n % 256)]
theorem bNum_nil : bNum [] = 0 := rfl
theorem bNum_snoc (l : List UInt8) (c : UInt8) : bNum (l ++ [c]) = bNum l * 256 + c.toNat := by
  unfold bNum
  rw [List.foldl_append]
  rfl
theorem bFold_lt : ∀ (l : List UInt8) (a : Nat), l.foldl (fun n c => n * 256 + c.toNat) a = a * 256 ^ l.length + bNum l
  | [], a => by simp [bNum]
  | c :: l, a => by
    have h1 := bFold_lt l (a * 256 + c.toNat)
    have h2 := bFold_lt l (0 * 256 + c.toNat)
    have h3 : bNum (c :: l) = l.foldl (fun n c => n * 256 + c.toNat) (0 * 256 + c.toNat) := rfl
    rw [List.foldl_cons, h1, h3, h2, List.length_cons, Nat.pow_succ]
    generalize 256 ^ l.length = p
    rw [Nat.add_mul, Nat.zero_mul, Nat.zero_add, Nat.mul_assoc, Nat.mul_comm 256 p, Nat.add_assoc]
theorem bNum_cons (c : UInt8) (l : List UInt8) : bNum (c :: l) = c.toNat * 256 ^ l.length + bNum l := by
  have h := bFold_lt l (0 * 256 + c.toNat)
  rw [Nat.zero_mul, Nat.zero_add] at h
  have h3 : bNum (c :: l) = l.foldl (fun n c => n * 256 + c.toNat) (0 * 256 + c.toNat) := rfl
  rw [h3, Nat.zero_mul, Nat.zero_add, h]
theorem bNum_lt : ∀ l : List UInt8, bNum l < 256 ^ l.length
  | [] => by simp [bNum]
  | c :: l => by
    have h := bNum_lt l
    have hc := c.toNat_lt
    rw [bNum_cons, List.length_cons, Nat.pow_succ]
    generalize 256 ^ l.length = p at *
    have : c.toNat * p ≤ 255 * p := Nat.mul_le_mul_right _ (by omega)
    omega
theorem bNum_zeros (l : List UInt8) : ∀ k, bNum (List.replicate k 0 ++ l) = bNum l
  | 0 => rfl
  | k + 1 => by
    rw [List.replicate_succ, List.cons_append, bNum_cons, bNum_zeros l k]
    simp
theorem bNum_take {l : List UInt8} {k : Nat} (h : k < l.length) : bNum (l.take (k + 1)) = bNum (l.take k) * 256 + l[k].toNat := by
  rw [List.take_succ_eq_append_getElem h, bNum_snoc]
theorem bNum_le8 {l : List UInt8} (h : l.length ≤ 8) : bNum l < 18446744073709551616 := by
  have := bNum_lt l
  have h2 : 256 ^ l.length ≤ 256 ^ 8 := Nat.pow_le_pow_right (by decide) h
  omega
theorem bNum_le7 {l : List UInt8} (h : l.length ≤ 7) : bNum l < 72057594037927936 := by
  have := bNum_lt l
  have h2 : 256 ^ l.length ≤ 256 ^ 7 := Nat.pow_le_pow_right (by decide) h
  omega
theorem bEnc_len : ∀ (k n : Nat), (bEnc k n).length = k
  | 0, _ => rfl
  | k + 1, n => by rw [bEnc, List.length_append, bEnc_len k]; rfl
theorem byte_nat4 {n : Nat} (h : n < 256) : (UInt8.ofNat n).toNat = n := by
  rw [UInt8.toNat_ofNat']
  omega
theorem bNum_enc : ∀ (k n : Nat), bNum (bEnc k n) = n % 256 ^ k
  | 0, n => by simp [bEnc, bNum, Nat.mod_one]
  | k + 1, n => by
    rw [bEnc, bNum_snoc, bNum_enc k, byte_nat4 (by omega), Nat.pow_succ, Nat.mul_comm (256 ^ k) 256, Nat.mod_mul]
    omega
theorem bEnc_cons : ∀ (k n : Nat), bEnc (k + 1) n = UInt8.ofNat (n / 256 ^ k % 256) :: bEnc k n
  | 0, n => by simp [bEnc]
  | k + 1, n => by
    rw [bEnc, bEnc_cons k (n / 256), Nat.div_div_eq_div_mul, Nat.pow_succ, Nat.mul_comm (256 ^ k) 256, List.cons_append]
    rfl
theorem bEnc_drop (w : Nat) (n : Nat) : ∀ j, (bEnc (j + w) n).drop j = bEnc w n
  | 0 => by simp
  | j + 1 => by
    rw [show j + 1 + w = j + w + 1 from by omega, bEnc_cons, List.drop_succ_cons]
    exact bEnc_drop w n j
/-- The text of a number in k bytes. -/
def bText (k n : Nat) : ByteArray := ⟨(bEnc k n).toArray⟩
theorem bText_list (k n : Nat) : (bText k n).data.toList = bEnc k n := by simp [bText]
theorem bText_size (k n : Nat) : (bText k n).size = k := by
  show (bEnc k n).toArray.size = k
  rw [List.size_toArray, bEnc_len]
/-- Bytes are in the order of their numbers. -/
theorem less_num : ∀ (a b : List UInt8), a.length = b.length → Op.bytesLess a b = decide (bNum a < bNum b)
  | [], [], _ => by simp [Op.bytesLess, bNum]
  | [], _ :: _, h => by simp at h
  | _ :: _, [], h => by simp at h
  | x :: a, y :: b, h => by
    have hl : a.length = b.length := by simpa using h
    have ih := less_num a b hl
    have ha := bNum_lt a
    have hb := bNum_lt b
    rw [Op.bytesLess, ih, bNum_cons, bNum_cons, hl]
    rw [hl] at ha
    generalize 256 ^ b.length = p at *
    have hxy : (x < y) ↔ x.toNat < y.toNat := UInt8.lt_iff_toNat_lt
    rcases Nat.lt_trichotomy x.toNat y.toNat with h1 | h1 | h1
    · have hm : (x.toNat + 1) * p ≤ y.toNat * p := Nat.mul_le_mul_right _ h1
      rw [Nat.add_mul] at hm
      have e1 : x < y := hxy.2 h1
      have e2 : x.toNat * p + bNum a < y.toNat * p + bNum b := by omega
      simp [e1, e2]
    · have e0 : x = y := UInt8.toNat_inj.1 h1
      subst e0
      simp
    · have hm : (y.toNat + 1) * p ≤ x.toNat * p := Nat.mul_le_mul_right _ h1
      rw [Nat.add_mul] at hm
      have e1 : ¬ x < y := fun e => by have := hxy.1 e; omega
      have e3 : ¬ x = y := fun e => by subst e; omega
      have e2 : ¬ x.toNat * p + bNum a < y.toNat * p + bNum b := by omega
      simp [e1, e2, e3]
theorem less_text (k n m : Nat) (hn : n < 256 ^ k) (hm : m < 256 ^ k) : Op.bytesLess (bEnc k n) (bEnc k m) = decide (n < m) := by
  rw [less_num _ _ (by rw [bEnc_len, bEnc_len]), bNum_enc, bNum_enc, Nat.mod_eq_of_lt hn, Nat.mod_eq_of_lt hm]

/-! ### one byte more -/
theorem or_byte (n c : Nat) (hc : c < 256) : n * 256 ||| c = n * 256 + c := by
  have := Nat.shiftLeft_add_eq_or_of_lt (i := 8) hc n
  rw [Nat.shiftLeft_eq] at this
  exact this.symm
theorem acc_byte (n c : Nat) (hn : n < 72057594037927936) (hc : c < 256) : bits .or .u64 ((n : Int) * 256) (c : Int) = ((n * 256 + c : Nat) : Int) := by
  have hw : (n : Int) * 256 = ((n * 256 : Nat) : Int) := by omega
  rw [hw, bits_or_u64_nat _ _ (by omega) (by omega), or_byte _ _ hc]
/-- The byte that is written at place j, as the walk prints it. -/
theorem byte_shift (n j : Nat) : (n : Int) / 2 ^ (8 * j) % 256 = ((UInt8.ofNat (n / 256 ^ j % 256)).toNat : Int) := by
  rw [byte_nat4 (by omega), Int.natCast_emod, Int.natCast_ediv, Int.natCast_pow, Int.pow_mul]
  rfl
/-- A byte as the cell that holds it. -/
def bCell (c : UInt8) : Value := .int .u8 (c.toNat : Int)
/-- The row of 8 bytes, of which the last j are written. -/
def bRow (j n : Nat) : Array Value := ((List.replicate (8 - j) 0 ++ bEnc j n).map bCell).toArray
theorem bRow_zero (n : Nat) : bRow 0 n = #[.int .u8 0, .int .u8 0, .int .u8 0, .int .u8 0, .int .u8 0, .int .u8 0, .int .u8 0, .int .u8 0] := rfl
theorem bRow_at {j : Nat} (n : Nat) (h : j < 8) : (bRow j n)[7 - j]? = some (.int .u8 0) := by
  unfold bRow
  have e : 8 - j = (7 - j) + 1 := by omega
  rw [e, List.replicate_succ', List.append_assoc, List.getElem?_toArray, List.map_append, List.getElem?_append_right (by simp)]
  simp [bCell]
theorem bRow_step {j : Nat} (n : Nat) (h : j < 8) : (bRow j n).setIfInBounds (7 - j) (.int .u8 ((n : Int) / 2 ^ (8 * j) % 256)) = bRow (j + 1) n := by
  unfold bRow
  have e : 8 - j = (7 - j) + 1 := by omega
  have e2 : 8 - (j + 1) = 7 - j := by omega
  rw [byte_shift, e, e2, List.replicate_succ', List.append_assoc, bEnc_cons]
  generalize UInt8.ofNat (n / 256 ^ j % 256) = c
  generalize 7 - j = m
  rw [List.setIfInBounds_toArray, List.map_append, List.set_append]
  simp [bCell]
theorem bRow_end {k o i : Nat} (n : Nat) (hk : k ≤ 8) (ho : o = 8 - k ∨ (k = 0 ∧ o = 0)) (hi : i < (bEnc k n).length) : (bRow 8 n)[o + i]? = some (bCell (bEnc k n)[i]) := by
  have hl := hi
  rw [bEnc_len] at hl
  obtain rfl : o = 8 - k := by omega
  have hd := bEnc_drop k n (8 - k)
  rw [show 8 - k + k = 8 from by omega] at hd
  have h1 : (bEnc 8 n)[8 - k + i]? = some (bEnc k n)[i] := by
    rw [← List.getElem?_drop, hd, List.getElem?_eq_getElem hi]
  unfold bRow
  rw [List.getElem?_toArray, List.getElem?_map]
  show Option.map bCell (([] ++ bEnc 8 n)[8 - k + i]?) = _
  rw [List.nil_append, h1]
  rfl
end Go.Proofs.YtaleennijfefnaaGreat
