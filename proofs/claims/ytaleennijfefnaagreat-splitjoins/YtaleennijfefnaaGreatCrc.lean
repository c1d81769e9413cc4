/-
  Sums of 32 bits, bit by bit, on numbers: cStep, c8, cPut, cText; that they are linear over 'exclusive or', so that a table of 256 serves; that one byte changed changes the sum. No program.
  Conditions: none.
-/
import Derived.Test.YtaleennijfefnaaGreatBase
namespace Go.Proofs.YtaleennijfefnaaGreat

def cPoly : Nat := 3988292384
/-- One bit. -/
def cStep (n : Nat) : Nat := if n % 2 = 1 then n / 2 ^^^ 3988292384 else n / 2
/-- k bits. -/
def cBits : Nat → Nat → Nat
  | 0, n => n
  | k + 1, n => cBits k (cStep n)
/-- A byte is put to a sum. -/
def cPut (n c : Nat) : Nat := cBits 8 (n ^^^ c)
/-- Bytes are put to a sum, from the left. -/
def cPuts (n : Nat) (l : List UInt8) : Nat := l.foldl (fun n c => cPut n c.toNat) n
/-- The sum of a text that is put behind one whose sum is n; the sum of a text. -/
def cMore (n : Nat) (l : List UInt8) : Nat := 4294967295 - cPuts (4294967295 - n) l
def cSum (l : List UInt8) : Nat := 4294967295 - cPuts 4294967295 l

theorem xor_lt32 {a b : Nat} (ha : a < 4294967296) (hb : b < 4294967296) : a ^^^ b < 4294967296 := Nat.xor_lt_two_pow (n := 32) ha hb
theorem cStep_lt {n : Nat} (h : n < 4294967296) : cStep n < 4294967296 := by
  unfold cStep
  split
  · exact xor_lt32 (by omega) (by decide)
  · omega
theorem cBits_lt : ∀ (k : Nat) {n : Nat}, n < 4294967296 → cBits k n < 4294967296
  | 0, _, h => h
  | k + 1, _, h => cBits_lt k (cStep_lt h)
theorem cPut_lt {n c : Nat} (h : n < 4294967296) (hc : c < 256) : cPut n c < 4294967296 := cBits_lt 8 (xor_lt32 h (by omega))
theorem cPuts_lt : ∀ (l : List UInt8) {n : Nat}, n < 4294967296 → cPuts n l < 4294967296
  | [], _, h => h
  | c :: l, _, h => cPuts_lt l (cPut_lt h c.toNat_lt)

/-! ### linear -/
theorem cStep_xor (a b : Nat) : cStep (a ^^^ b) = cStep a ^^^ cStep b := by
  have hd : (a ^^^ b) / 2 = a / 2 ^^^ b / 2 := Nat.xor_div_two
  have hm : (a ^^^ b) % 2 = a % 2 ^^^ b % 2 := Nat.xor_mod_two_pow (n := 1)
  unfold cStep
  rw [hd, hm]
  rcases Nat.mod_two_eq_zero_or_one a with ha | ha <;> rcases Nat.mod_two_eq_zero_or_one b with hb | hb <;> rw [ha, hb]
  · rfl
  · show a / 2 ^^^ b / 2 ^^^ 3988292384 = a / 2 ^^^ (b / 2 ^^^ 3988292384)
    rw [Nat.xor_assoc]
  · show a / 2 ^^^ b / 2 ^^^ 3988292384 = (a / 2 ^^^ 3988292384) ^^^ b / 2
    rw [Nat.xor_assoc, Nat.xor_assoc, Nat.xor_comm (b / 2)]
  · show a / 2 ^^^ b / 2 = (a / 2 ^^^ 3988292384) ^^^ (b / 2 ^^^ 3988292384)
    rw [Nat.xor_comm (b / 2) 3988292384, Nat.xor_assoc, ← Nat.xor_assoc 3988292384, Nat.xor_self, Nat.zero_xor]
theorem cBits_xor : ∀ (k a b : Nat), cBits k (a ^^^ b) = cBits k a ^^^ cBits k b
  | 0, _, _ => rfl
  | k + 1, a, b => by
    show cBits k (cStep (a ^^^ b)) = cBits k (cStep a) ^^^ cBits k (cStep b)
    rw [cStep_xor, cBits_xor k]
theorem cStep_even (n : Nat) : cStep (2 * n) = n := by
  unfold cStep
  rw [if_neg (by omega)]
  omega
theorem cBits_high (n : Nat) : cBits 8 (256 * n) = n := by
  have e : 256 * n = 2 * (2 * (2 * (2 * (2 * (2 * (2 * (2 * n))))))) := by omega
  rw [e]
  simp only [cBits, cStep_even]
theorem split_byte (n : Nat) : n = (256 * (n / 256)) ^^^ n % 256 := by
  apply Nat.eq_of_testBit_eq
  intro i
  rw [Nat.testBit_xor]
  have h1 : (256 * (n / 256)).testBit i = (decide (8 ≤ i) && n.testBit i) := by
    have := Nat.testBit_two_pow_mul (i := 8) (a := n / 256) (j := i)
    have h3 : (n / 256).testBit (i - 8) = n.testBit (i - 8 + 8) := Nat.testBit_div_two_pow (n := 8) n (i - 8)
    rw [h3] at this
    refine Eq.trans this ?_
    by_cases h : 8 ≤ i
    · rw [show i - 8 + 8 = i from by omega]
    · simp [h]
  have h2 : (n % 256).testBit i = (decide (i < 8) && n.testBit i) := Nat.testBit_mod_two_pow n 8 i
  rw [h1, h2]
  by_cases h : 8 ≤ i
  · have h' : ¬ i < 8 := by omega
    simp [h, h']
  · have h' : i < 8 := by omega
    simp [h, h']
/-- A table of the 256 lowest bytes serves. -/
theorem cBits_table (n : Nat) : cBits 8 n = cBits 8 (n % 256) ^^^ n / 256 := by
  have h := congrArg (cBits 8) (split_byte n)
  rw [cBits_xor, cBits_high] at h
  rw [h, Nat.xor_comm]
theorem xor_byte_div (n c : Nat) (hc : c < 256) : (n ^^^ c) / 256 = n / 256 := by
  apply Nat.eq_of_testBit_eq
  intro i
  rw [show (256 : Nat) = 2 ^ 8 from rfl, Nat.testBit_div_two_pow, Nat.testBit_div_two_pow, Nat.testBit_xor, Nat.testBit_lt_two_pow (x := c) (i := i + 8)]
  · simp
  · exact Nat.lt_of_lt_of_le hc (Nat.pow_le_pow_right (n := 2) (by decide) (by omega : 8 ≤ i + 8))
theorem cPut_table (n c : Nat) (hc : c < 256) : cPut n c = cBits 8 ((n ^^^ c) % 256) ^^^ n / 256 := by
  unfold cPut
  rw [cBits_table, xor_byte_div n c hc]

/-! ### one byte changed -/
theorem cStep_high {n : Nat} (h : n < 4294967296) : n % 2 = cStep n / 2147483648 := by
  unfold cStep
  have hx : (n / 2 ^^^ 3988292384) / 2147483648 = 1 := by
    have e : (n / 2 ^^^ 3988292384) / 2 ^ 31 = n / 2 / 2 ^ 31 ^^^ 3988292384 / 2 ^ 31 := Nat.xor_div_two_pow
    have e2 : n / 2 / 2 ^ 31 = 0 := by omega
    rw [e2] at e
    exact e
  split
  · omega
  · omega
theorem cStep_inj {a b : Nat} (ha : a < 4294967296) (hb : b < 4294967296) (h : cStep a = cStep b) : a = b := by
  have h1 := cStep_high ha
  have h2 := cStep_high hb
  rw [h, ← h2] at h1
  unfold cStep at h
  rw [h1] at h
  have hd : a / 2 = b / 2 := by
    split at h
    · have h3 := congrArg (· ^^^ 3988292384) h
      simp only [Nat.xor_assoc, Nat.xor_self, Nat.xor_zero] at h3
      exact h3
    · exact h
  omega
theorem cBits_inj : ∀ (k : Nat) {a b : Nat}, a < 4294967296 → b < 4294967296 → cBits k a = cBits k b → a = b
  | 0, _, _, _, _, h => h
  | k + 1, _, _, ha, hb, h => cStep_inj ha hb (cBits_inj k (cStep_lt ha) (cStep_lt hb) h)
theorem xor_left_inj' {a b c : Nat} (h : a ^^^ c = b ^^^ c) : a = b := by
  have h3 := congrArg (· ^^^ c) h
  simp only [Nat.xor_assoc, Nat.xor_self, Nat.xor_zero] at h3
  exact h3
theorem cPut_inj {a b c : Nat} (ha : a < 4294967296) (hb : b < 4294967296) (hc : c < 256) (h : cPut a c = cPut b c) : a = b :=
  xor_left_inj' (cBits_inj 8 (xor_lt32 ha (by omega)) (xor_lt32 hb (by omega)) h)
theorem cPut_byte {n c d : Nat} (hn : n < 4294967296) (hc : c < 256) (hd : d < 256) (h : cPut n c = cPut n d) : c = d := by
  have h1 := cBits_inj 8 (xor_lt32 hn (by omega)) (xor_lt32 hn (by omega)) h
  rw [Nat.xor_comm n c, Nat.xor_comm n d] at h1
  exact xor_left_inj' h1
theorem cPuts_inj : ∀ (l : List UInt8) {a b : Nat}, a < 4294967296 → b < 4294967296 → cPuts a l = cPuts b l → a = b
  | [], _, _, _, _, h => h
  | c :: l, _, _, ha, hb, h => cPut_inj ha hb c.toNat_lt (cPuts_inj l (cPut_lt ha c.toNat_lt) (cPut_lt hb c.toNat_lt) h)
theorem cPuts_append (n : Nat) (l r : List UInt8) : cPuts n (l ++ r) = cPuts (cPuts n l) r := List.foldl_append
theorem cPuts_spoilt {n : Nat} (hn : n < 4294967296) (l r : List UInt8) (c d : UInt8) (h : c ≠ d) : cPuts n (l ++ c :: r) ≠ cPuts n (l ++ d :: r) := by
  intro he
  rw [cPuts_append, cPuts_append] at he
  have hl := cPuts_lt l hn
  have h1 := cPuts_inj r (cPut_lt hl c.toNat_lt) (cPut_lt hl d.toNat_lt) he
  exact h (UInt8.toNat_inj.1 (cPut_byte hl c.toNat_lt d.toNat_lt h1))
theorem cSum_spoilt (l r : List UInt8) (c d : UInt8) (h : c ≠ d) : cSum (l ++ c :: r) ≠ cSum (l ++ d :: r) := by
  have h1 := cPuts_spoilt (n := 4294967295) (by decide) l r c d h
  have h2 := cPuts_lt (l ++ c :: r) (n := 4294967295) (by decide)
  have h3 := cPuts_lt (l ++ d :: r) (n := 4294967295) (by decide)
  unfold cSum
  omega
theorem cMore_lt (n : Nat) (l : List UInt8) : cMore n l < 4294967296 := by unfold cMore; omega
theorem cMore_nil {n : Nat} (h : n < 4294967296) : cMore n [] = n := by
  show 4294967295 - (4294967295 - n) = n
  omega
theorem cMore_zero (l : List UInt8) : cMore 0 l = cSum l := rfl
theorem cMore_append {n : Nat} (l r : List UInt8) : cMore n (l ++ r) = cMore (cMore n l) r := by
  have h := cPuts_lt l (n := 4294967295 - n) (by omega)
  unfold cMore
  rw [cPuts_append, show 4294967295 - (4294967295 - cPuts (4294967295 - n) l) = cPuts (4294967295 - n) l from by omega]
/-- 'All bits are turned about' by exclusive or. -/
theorem xor_all {n : Nat} (h : n < 4294967296) : n ^^^ 4294967295 = 4294967295 - n := by
  apply Nat.eq_of_testBit_eq
  intro i
  have h1 : (4294967295 - n).testBit i = (decide (i < 32) && !n.testBit i) := by
    have := Nat.testBit_two_pow_sub_succ (n := 32) h i
    rwa [show 2 ^ 32 - (n + 1) = 4294967295 - n from by omega] at this
  have h2 : (4294967295 : Nat).testBit i = decide (i < 32) := Nat.testBit_two_pow_sub_one 32 i
  rw [Nat.testBit_xor, h1, h2]
  by_cases hi : i < 32
  · simp [hi]
  · have h3 : n.testBit i = false := Nat.testBit_lt_two_pow (Nat.lt_of_lt_of_le h (Nat.pow_le_pow_right (n := 2) (by decide) (by omega : 32 ≤ i)))
    simp [hi, h3]
end Go.Proofs.YtaleennijfefnaaGreat
