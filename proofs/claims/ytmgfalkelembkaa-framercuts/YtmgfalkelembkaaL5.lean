/-
  The texts Crc, RefCrc, Once, CrcMem, CrcFns, CrcMore of this seat, one behind the other.
  Conditions: as each says.
-/
import Derived.Test.YtmgfalkelembkaaL1
import Derived.Test.YtmgfalkelembkaaChecked
import Derived.PlainAid
import Derived.OpenShut
import Derived.WalkLawsBesides
import Derived.Tactics2
import Derived.Defers
import Derived.Laws.Pointers
import Derived.Laws.LoneSync
import Derived.Deep.RegionWith
import Derived.RegionCalls
import Derived.Conc.MuLone
/-
  Sums of 32 bits, bit by bit, on numbers: cStep, c8, cPut, cText; that they are linear over 'exclusive or', so that a table of 256 serves; that one byte changed changes the sum. No program.
  Conditions: none.
-/
namespace Go.Proofs.Ytmgfalkelembkaa

def cPoly : Nat := 3988292384
/-- One bit. -/
def cStep (n : Nat) : Nat := if n % 2 = 1 then n / 2 ^^^ 3988292384 else n / 2
/-- k bits. -/
def cBits : Nat → Nat → Nat
  | 0, n => n
  | k + 1, n => cBits k (cStep n)
/-- A byte is put to a sum. -/
def cPut (n c : Nat) : Nat := cBits 8 (n ^^^ c)
/-- Bytes are put to a sum, from the left. -/
def cPuts (n : Nat) (l : List UInt8) : Nat := l.foldl (fun n c => cPut n c.toNat) n
/-- The sum of a text that is put behind one whose sum is n; the sum of a text. -/
def cMore (n : Nat) (l : List UInt8) : Nat := 4294967295 - cPuts (4294967295 - n) l
def cSum (l : List UInt8) : Nat := 4294967295 - cPuts 4294967295 l

theorem xor_lt32 {a b : Nat} (ha : a < 4294967296) (hb : b < 4294967296) : a ^^^ b < 4294967296 := Nat.xor_lt_two_pow (n := 32) ha hb
theorem cStep_lt {n : Nat} (h : n < 4294967296) : cStep n < 4294967296 := by
  unfold cStep
  split
  · exact xor_lt32 (by omega) (by decide)
  · omega
theorem cBits_lt : ∀ (k : Nat) {n : Nat}, n < 4294967296 → cBits k n < 4294967296
  | 0, _, h => h
  | k + 1, _, h => cBits_lt k (cStep_lt h)
theorem cPut_lt {n c : Nat} (h : n < 4294967296) (hc : c < 256) : cPut n c < 4294967296 := cBits_lt 8 (xor_lt32 h (by omega))
theorem cPuts_lt : ∀ (l : List UInt8) {n : Nat}, n < 4294967296 → cPuts n l < 4294967296
  | [], _, h => h
  | c :: l, _, h => cPuts_lt l (cPut_lt h c.toNat_lt)

/-! ### linear -/
theorem cStep_xor (a b : Nat) : cStep (a ^^^ b) = cStep a ^^^ cStep b := by
  have hd : (a ^^^ b) / 2 = a / 2 ^^^ b / 2 := Nat.xor_div_two
  have hm : (a ^^^ b) % 2 = a % 2 ^^^ b % 2 := Nat.xor_mod_two_pow (n := 1)
  unfold cStep
  rw [hd, hm]
  rcases Nat.mod_two_eq_zero_or_one a with ha | ha <;> rcases Nat.mod_two_eq_zero_or_one b with hb | hb <;> rw [ha, hb]
  · rfl
  · show a / 2 ^^^ b / 2 ^^^ 3988292384 = a / 2 ^^^ (b / 2 ^^^ 3988292384)
    rw [Nat.xor_assoc]
  · show a / 2 ^^^ b / 2 ^^^ 3988292384 = (a / 2 ^^^ 3988292384) ^^^ b / 2
    rw [Nat.xor_assoc, Nat.xor_assoc, Nat.xor_comm (b / 2)]
  · show a / 2 ^^^ b / 2 = (a / 2 ^^^ 3988292384) ^^^ (b / 2 ^^^ 3988292384)
    rw [Nat.xor_comm (b / 2) 3988292384, Nat.xor_assoc, ← Nat.xor_assoc 3988292384, Nat.xor_self, Nat.zero_xor]
theorem cBits_xor : ∀ (k a b : Nat), cBits k (a ^^^ b) = cBits k a ^^^ cBits k b
  | 0, _, _ => rfl
  | k + 1, a, b => by
    show cBits k (cStep (a ^^^ b)) = cBits k (cStep a) ^^^ cBits k (cStep b)
    rw [cStep_xor, cBits_xor k]
theorem cStep_even (n : Nat) : cStep (2 * n) = n := by
  unfold cStep
  rw [if_neg (by omega)]
  omega
theorem cBits_high (n : Nat) : cBits 8 (256 * n) = n := by
  have e : 256 * n = 2 * (2 * (2 * (2 * (2 * (2 * (2 * (2 * n))))))) := by omega
  rw [e]
  simp only [cBits, cStep_even]
theorem split_byte (n : Nat) : n = (256 * (n / 256)) ^^^ n % 256 := by
  apply Nat.eq_of_testBit_eq
  intro i
  rw [Nat.testBit_xor]
  have h1 : (256 * (n / 256)).testBit i = (decide (8 ≤ i) && n.testBit i) := by
    have := Nat.testBit_two_pow_mul (i := 8) (a := n / 256) (j := i)
    have h3 : (n / 256).testBit (i - 8) = n.testBit (i - 8 + 8) := Nat.testBit_div_two_pow (n := 8) n (i - 8)
    rw [h3] at this
    refine Eq.trans this ?_
    by_cases h : 8 ≤ i
    · rw [show i - 8 + 8 = i from by omega]
    · simp [h]
  have h2 : (n % 256).testBit i = (decide (i < 8) && n.testBit i) := Nat.testBit_mod_two_pow n 8 i
  rw [h1, h2]
  by_cases h : 8 ≤ i
  · have h' : ¬ i < 8 := by omega
    simp [h, h']
  · have h' : i < 8 := by omega
    simp [h, h']
/-- A table of the 256 lowest bytes serves. -/
theorem cBits_table (n : Nat) : cBits 8 n = cBits 8 (n % 256) ^^^ n / 256 := by
  have h := congrArg (cBits 8) (split_byte n)
  rw [cBits_xor, cBits_high] at h
  rw [h, Nat.xor_comm]
theorem xor_byte_div (n c : Nat) (hc : c < 256) : (n ^^^ c) / 256 = n / 256 := by
  apply Nat.eq_of_testBit_eq
  intro i
  rw [show (256 : Nat) = 2 ^ 8 from rfl, Nat.testBit_div_two_pow, Nat.testBit_div_two_pow, Nat.testBit_xor, Nat.testBit_lt_two_pow (x := c) (i := i + 8)]
  · simp
  · exact Nat.lt_of_lt_of_le hc (Nat.pow_le_pow_right (n := 2) (by decide) (by omega : 8 ≤ i + 8))
theorem cPut_table (n c : Nat) (hc : c < 256) : cPut n c = cBits 8 ((n ^^^ c) % 256) ^^^ n / 256 := by
  unfold cPut
  rw [cBits_table, xor_byte_div n c hc]

/-! ### one byte changed -/
theorem cStep_high {n : Nat} (h : n < 4294967296) : n % 2 = cStep n / 2147483648 := by
  unfold cStep
  have hx : (n / 2 ^^^ 3988292384) / 2147483648 = 1 := by
    have e : (n / 2 ^^^ 3988292384) / 2 ^ 31 = n / 2 / 2 ^ 31 ^^^ 3988292384 / 2 ^ 31 := Nat.xor_div_two_pow
    have e2 : n / 2 / 2 ^ 31 = 0 := by omega
    rw [e2] at e
    exact e
  split
  · omega
  · omega
theorem cStep_inj {a b : Nat} (ha : a < 4294967296) (hb : b < 4294967296) (h : cStep a = cStep b) : a = b := by
  have h1 := cStep_high ha
  have h2 := cStep_high hb
  rw [h, ← h2] at h1
  unfold cStep at h
  rw [h1] at h
  have hd : a / 2 = b / 2 := by
    split at h
    · have h3 := congrArg (· ^^^ 3988292384) h
      simp only [Nat.xor_assoc, Nat.xor_self, Nat.xor_zero] at h3
      exact h3
    · exact h
  omega
theorem cBits_inj : ∀ (k : Nat) {a b : Nat}, a < 4294967296 → b < 4294967296 → cBits k a = cBits k b → a = b
  | 0, _, _, _, _, h => h
  | k + 1, _, _, ha, hb, h => cStep_inj ha hb (cBits_inj k (cStep_lt ha) (cStep_lt hb) h)
theorem xor_left_inj' {a b c : Nat} (h : a ^^^ c = b ^^^ c) : a = b := by
  have h3 := congrArg (· ^^^ c) h
  simp only [Nat.xor_assoc, Nat.xor_self, Nat.xor_zero] at h3
  exact h3
theorem cPut_inj {a b c : Nat} (ha : a < 4294967296) (hb : b < 4294967296) (hc : c < 256) (h : cPut a c = cPut b c) : a = b :=
  xor_left_inj' (cBits_inj 8 (xor_lt32 ha (by omega)) (xor_lt32 hb (by omega)) h)
theorem cPut_byte {n c d : Nat} (hn : n < 4294967296) (hc : c < 256) (hd : d < 256) (h : cPut n c = cPut n d) : c = d := by
  have h1 := cBits_inj 8 (xor_lt32 hn (by omega)) (xor_lt32 hn (by omega)) h
  rw [Nat.xor_comm n c, Nat.xor_comm n d] at h1
  exact xor_left_inj' h1
theorem cPuts_inj : ∀ (l : List UInt8) {a b : Nat}, a < 4294967296 → b < 4294967296 → cPuts a l = cPuts b l → a = b
  | [], _, _, _, _, h => h
  | c :: l, _, _, ha, hb, h => cPut_inj ha hb c.toNat_lt (cPuts_inj l (cPut_lt ha c.toNat_lt) (cPut_lt hb c.toNat_lt) h)
theorem cPuts_append (n : Nat) (l r : List UInt8) : cPuts n (l ++ r) = cPuts (cPuts n l) r := List.foldl_append
theorem cPuts_spoilt {n : Nat} (hn : n < 4294967296) (l r : List UInt8) (c d : UInt8) (h : c ≠ d) : cPuts n (l ++ c :: r) ≠ cPuts n (l ++ d :: r) := by
  intro he
  rw [cPuts_append, cPuts_append] at he
  have hl := cPuts_lt l hn
  have h1 := cPuts_inj r (cPut_lt hl c.toNat_lt) (cPut_lt hl d.toNat_lt) he
  exact h (UInt8.toNat_inj.1 (cPut_byte hl c.toNat_lt d.toNat_lt h1))
theorem cSum_spoilt (l r : List UInt8) (c d : UInt8) (h : c ≠ d) : cSum (l ++ c :: r) ≠ cSum (l ++ d :: r) := by
  have h1 := cPuts_spoilt (n := 4294967295) (by decide) l r c d h
  have h2 := cPuts_lt (l ++ c :: r) (n := 4294967295) (by decide)
  have h3 := cPuts_lt (l ++ d :: r) (n := 4294967295) (by decide)
  unfold cSum
  omega
theorem cMore_lt (n : Nat) (l : List UInt8) : cMore n l < 4294967296 := by unfold cMore; omega
theorem cMore_nil {n : Nat} (h : n < 4294967296) : cMore n [] = n := by
  show 4294967295 - (4294967295 - n) = n
  omega
theorem cMore_zero (l : List UInt8) : cMore 0 l = cSum l := rfl
theorem cMore_append {n : Nat} (l r : List UInt8) : cMore n (l ++ r) = cMore (cMore n l) r := by
  have h := cPuts_lt l (n := 4294967295 - n) (by omega)
  unfold cMore
  rw [cPuts_append, show 4294967295 - (4294967295 - cPuts (4294967295 - n) l) = cPuts (4294967295 - n) l from by omega]
/-- 'All bits are turned about' by exclusive or. -/
theorem xor_all {n : Nat} (h : n < 4294967296) : n ^^^ 4294967295 = 4294967295 - n := by
  apply Nat.eq_of_testBit_eq
  intro i
  have h1 : (4294967295 - n).testBit i = (decide (i < 32) && !n.testBit i) := by
    have := Nat.testBit_two_pow_sub_succ (n := 32) h i
    rwa [show 2 ^ 32 - (n + 1) = 4294967295 - n from by omega] at this
  have h2 : (4294967295 : Nat).testBit i = decide (i < 32) := Nat.testBit_two_pow_sub_one 32 i
  rw [Nat.testBit_xor, h1, h2]
  by_cases hi : i < 32
  · simp [hi]
  · have h3 : n.testBit i = false := Nat.testBit_lt_two_pow (Nat.lt_of_lt_of_le h (Nat.pow_le_pow_right (n := 2) (by decide) (by omega : 32 ≤ i)))
    simp [hi, h3]
end Go.Proofs.Ytmgfalkelembkaa
/-
  Contracts of the document's own sums (layer 5), each proved over this seat's translation; numbers of 32 bits and of bytes under 'exclusive or', as the walk prints them.
  Conditions: a text takes at most the greatest length that a string may have.
-/
namespace Go.Proofs.Ytmgfalkelembkaa
open Go.RowKit
open Go.PlainAid (bt get_bt bt_nonneg bt_le)

theorem xor_u32 (a b : Nat) (ha : a < 4294967296) (hb : b < 4294967296) : bits .xor .u32 (a : Int) (b : Int) = ((a ^^^ b : Nat) : Int) := by
  have hx := xor_lt32 ha hb
  have h1 : (BitVec.ofInt 32 (a : Int)).toNat = a := by
    rw [BitVec.ofInt_natCast, BitVec.toNat_ofNat]; exact Nat.mod_eq_of_lt (by omega)
  have h2 : (BitVec.ofInt 32 (b : Int)).toNat = b := by
    rw [BitVec.ofInt_natCast, BitVec.toNat_ofNat]; exact Nat.mod_eq_of_lt (by omega)
  show IntKind.u32.wrap ((BitVec.ofInt 32 (a : Int) ^^^ BitVec.ofInt 32 (b : Int)).toNat : Int) = _
  rw [BitVec.toNat_xor, h1, h2, IntKind.wrap_u32]
  omega
theorem xor_u8 (a b : Nat) (ha : a < 256) (hb : b < 256) : bits .xor .u8 (a : Int) (b : Int) = ((a ^^^ b : Nat) : Int) := by
  have hx : a ^^^ b < 256 := Nat.xor_lt_two_pow (n := 8) ha hb
  have h1 : (BitVec.ofInt 8 (a : Int)).toNat = a := by
    rw [BitVec.ofInt_natCast, BitVec.toNat_ofNat]; exact Nat.mod_eq_of_lt (by omega)
  have h2 : (BitVec.ofInt 8 (b : Int)).toNat = b := by
    rw [BitVec.ofInt_natCast, BitVec.toNat_ofNat]; exact Nat.mod_eq_of_lt (by omega)
  show IntKind.u8.wrap ((BitVec.ofInt 8 (a : Int) ^^^ BitVec.ofInt 8 (b : Int)).toNat : Int) = _
  rw [BitVec.toNat_xor, h1, h2, IntKind.wrap_u8]
  omega

set_option maxRecDepth 100000 in
theorem rput5_any (w : World) (n c : Nat) (hn : n < 4294967296) (hc : c < 256) :
    Calls Try.prog 39 #[.int .u32 n, .int .u8 c] w fun e w' => e = .returned (.int .u32 (cPut n c)) ∧ w = w' := by
  have hx := xor_u32 n c hn (by omega)
  have hlt := xor_lt32 hn (by omega : c < 4294967296)
  have HP : Hid (cPut n c = cBits 8 (n ^^^ c)) := rfl
  have hc' : (c : Int) < 256 := by omega
  generalize n ^^^ c = m at *
  generalize cPut n c = r at *
  go_enter Try.func39, Try.ntmps39
  go_wp2_with fail
  go_loopw [0, 5] (fun v i wr => ∃ (k N : Nat), k ≤ 8 ∧ v = .int .u32 N ∧ N < 4294967296 ∧ cBits (8 - k) N = r ∧ i = .int .i64 k ∧ wr = w) (fun _ i _ => 8 - (intOf i).toNat)
  case atStart => exact ⟨0, m, by omega, rfl, hlt, HP.out.symm, rfl, rfl⟩
  case round =>
    obtain ⟨k, N, hk, rfl, hN, hr, rfl, rfl⟩ := hrel
    by_cases hk8 : k < 8
    · have hr' : cBits (8 - (k + 1)) (cStep N) = r := by
        rw [show 8 - k = 8 - (k + 1) + 1 from by omega] at hr
        exact hr
      have HR : Hid (cBits (8 - (k + 1)) (cStep N) = r) := hr'
      have hs := cStep_lt hN
      clear hr hr' HP hx
      by_cases ho : N % 2 = 1
      · have e1 : cStep N = N / 2 ^^^ 3988292384 := if_pos ho
        have hx2 := xor_u32 (N / 2) 3988292384 (by omega) (by decide)
        have ho' : (N : Int) % 2 = 1 := by omega
        have HX : Hid (bits .xor .u32 ((N / 2 : Nat) : Int) 3988292384 = ((cStep N : Nat) : Int)) := by rw [e1]; exact hx2
        clear e1 hx2 ho
        go_wp2
        go_roundw
        case rel => exact ⟨k + 1, cStep N, by omega, by rw [← HX.out]; first | rfl | go_num, hs, HR.out, by go_num, trivial⟩
        case measure => simp [intOf]; omega
      · have e1 : cStep N = N / 2 := if_neg ho
        have ho' : (N : Int) % 2 = 0 := by omega
        rw [e1] at HR
        clear e1 ho hs
        go_wp2
        go_roundw
        case rel => exact ⟨k + 1, N / 2, by omega, by go_num, by omega, HR.out, by go_num, trivial⟩
        case measure => simp [intOf]; omega
    · obtain rfl : k = 8 := by omega
      have hr' : N = r := hr
      clear hr
      subst hr'
      go_wp2
      go_ret
      exact ⟨rfl, rfl⟩

set_option maxRecDepth 100000 in
theorem rsum5_any (w : World) (s : ByteArray) (hs : s.size ≤ maxLen) :
    Calls Try.prog 28 #[.string s] w fun e w' => e = .returned (.int .u32 (cSum s.data.toList)) ∧ w = w' := by
  have hget := get_bt s
  have hsz : (s.size : Int) ≤ 9223372036854775807 := by unfold maxLen at hs; omega
  go_enter Try.func28, Try.ntmps28
  go_wp2_with fail
  go_loopw [3, 4] (fun v i wr => ∃ (k N : Nat), k ≤ s.size ∧ v = .int .u32 N ∧ N < 4294967296 ∧ N = cPuts 4294967295 (s.data.toList.take k) ∧ i = .int .i64 k ∧ wr = w) (fun _ i _ => s.size - (intOf i).toNat)
  case atStart => exact ⟨0, 4294967295, by omega, rfl, by decide, rfl, rfl, rfl⟩
  case round =>
    obtain ⟨k, N, hk, rfl, hN, hp, rfl, rfl⟩ := hrel
    have hll : s.data.toList.length = s.size := by simp
    by_cases hlt : k < s.size
    · have hbt : bt s k = (s.data.toList[k].toNat : Int) := by rw [← hget k hlt]; rfl
      have hp' : cPuts 4294967295 (s.data.toList.take (k + 1)) = cPut N s.data.toList[k].toNat := by
        rw [List.take_succ_eq_append_getElem (by omega), cPuts_append, ← hp]
        rfl
      generalize s.data.toList[k] = c at *
      have hc : c.toNat < 256 := c.toNat_lt
      have HP : Hid (cPuts 4294967295 (s.data.toList.take (k + 1)) = cPut N c.toNat) := hp'
      have hl := cPut_lt hN hc
      clear hp hp' hll
      go_wp2_with (go_at_call 39; refine (rput5_any _ N c.toNat hN hc).mono ?_; rintro e w' ⟨rfl, rfl⟩)
      go_roundw
      case rel => exact ⟨k + 1, cPut N c.toNat, by omega, rfl, hl, HP.out.symm, by go_num, trivial⟩
      case measure => simp [intOf]; omega
    · rw [List.take_of_length_le (by omega)] at hp
      have HC : Hid (((cSum s.data.toList : Nat) : Int) = 4294967295 - (N : Int)) := by
        show ((cSum s.data.toList : Nat) : Int) = _
        unfold cSum
        rw [← hp]
        omega
      clear hp hll
      go_wp2
      go_ret
      refine ⟨?_, rfl⟩
      rw [HC.out]
      rfl
end Go.Proofs.Ytmgfalkelembkaa
/-
  Contracts of the library's sync.Once (one goroutine): Do where it is done already, and where it is not: the function is called, and 'done' is stored.
  Conditions: the lock is free; the function that is handed in leaves the once's own cells as they were.
-/
namespace Go.Proofs.Ytmgfalkelembkaa
open Go.RowKit

theorem raceDisable (w : World) : (callFunc 90 #[]).run Try.prog w = .ok (.value (.tuple #[])) w := run_call_mark0 Try.func90 (by kernel_rfl) (by kernel_rfl) (by kernel_rfl) .disable (by kernel_rfl) w
theorem raceEnable (w : World) : (callFunc 92 #[]).run Try.prog w = .ok (.value (.tuple #[])) w := run_call_mark0 Try.func92 (by kernel_rfl) (by kernel_rfl) (by kernel_rfl) .enable (by kernel_rfl) w
theorem raceAcquire (a : Addr) (w : World) : (callFunc 93 #[.pointer (some a)]).run Try.prog w = .ok (.value (.tuple #[])) w := run_call_marked Try.func93 (by kernel_rfl) (by kernel_rfl) (by kernel_rfl) .acquire (by kernel_rfl) a w
theorem raceRelease (a : Addr) (w : World) : (callFunc 95 #[.pointer (some a)]).run Try.prog w = .ok (.value (.tuple #[])) w := run_call_marked Try.func95 (by kernel_rfl) (by kernel_rfl) (by kernel_rfl) .releaseMerge (by kernel_rfl) a w

/-- The once at ⟨b, o⟩: done (1) or not (0); its lock held (1) or free (0). -/
structure OnceAt (w : World) (b o : Nat) (d l : Int) : Prop where
  done : w.cell? ⟨b, o, none⟩ = some (.int .u32 d)
  lock : w.cell? ⟨b, o + 1, none⟩ = some (.int .i32 l)
  fdone : w.frozen? ⟨b, o, none⟩ = false
  flock : w.frozen? ⟨b, o + 1, none⟩ = false
theorem OnceAt.setDone {w : World} {b o : Nat} {d l : Int} (h : OnceAt w b o d l) (d' : Int) : OnceAt (w.setCell ⟨b, o, none⟩ (.int .u32 d')) b o d' l :=
  ⟨World.cell?_setCell_same _ _ _ h.done, (World.cell?_setCell_other _ ⟨b, o, none⟩ ⟨b, o + 1, none⟩ _ (by simp)).trans h.lock, by simp [h.fdone], by simp [h.flock]⟩
theorem OnceAt.setLock {w : World} {b o : Nat} {d l : Int} (h : OnceAt w b o d l) (l' : Int) : OnceAt (w.setCell ⟨b, o + 1, none⟩ (.int .i32 l')) b o d l' :=
  ⟨(World.cell?_setCell_other _ ⟨b, o + 1, none⟩ ⟨b, o, none⟩ _ (by simp)).trans h.done, World.cell?_setCell_same _ _ _ h.lock, by simp [h.fdone], by simp [h.flock]⟩
theorem OnceAt.drew {w : World} {b o : Nat} {d l : Int} (h : OnceAt w b o d l) : OnceAt w.drew b o d l := ⟨h.done, h.lock, h.fdone, h.flock⟩

set_option maxRecDepth 100000 in
theorem onceStore (a : Addr) (x : Value) (u : FrameMode) (w : World) (hc : w.cell? a = some x) (hz : w.frozen? a = false) :
    CallsD Try.prog 85 #[.pointer (some a), .bool true] u w fun e u' w' => u' = u ∧ (e = .returned (.tuple #[]) ∧ w' = w.drew.setCell a (.int .u32 1)) := by
  have hc' : w.drew.cell? a = some x := by go_simp
  have hz' : w.drew.frozen? a = false := by go_simp
  have hst := run_call_store (P := Try.prog) Try.func88 (by kernel_rfl) (by kernel_rfl) (by kernel_rfl) (by kernel_rfl) (k := .u32) (y := 1) hc' hz'
  go_enter_d Try.func85, Try.ntmps85
  go_wp2
  go_region_calls
  all_goals (go_end0; exact ⟨rfl, rfl⟩)
set_option maxRecDepth 100000 in
theorem onceUnlock (a : Addr) (u : FrameMode) (w : World) (hc : w.cell? a = some (.int .i32 1)) (hz : w.frozen? a = false) :
    CallsD Try.prog 84 #[.pointer (some a)] u w fun e u' w' => u' = u ∧ (e = .returned (.tuple #[]) ∧ w' = w.setCell a (.int .i32 0)) := by
  have hd := raceDisable
  have he := raceEnable
  have hr := raceRelease
  have hadd := run_call_add (P := Try.prog) Try.func96 (by kernel_rfl) (by kernel_rfl) (by kernel_rfl) .i32 (by kernel_rfl) (y := -1) (s := 0) hc hz (by simp [go_sem]; rfl)
  have hcv := run_convert_to_unsafe (P := Try.prog) (src := 150) (dst := 154) Try.underlying150 Try.underlying154 (by kernel_rfl) hc
  go_enter_d Try.func84, Try.ntmps84
  go_wp2
  go_end0
  go_wp2
  go_end0
  exact ⟨rfl, rfl⟩
set_option maxRecDepth 100000 in
theorem onceLock (a : Addr) (w : World) (hc : w.cell? a = some (.int .i32 0)) (hz : w.frozen? a = false) :
    Calls Try.prog 83 #[.pointer (some a)] w fun e w' => e = .returned (.tuple #[]) ∧ w' = w.setCell a (.int .i32 1) := by
  have hd := raceDisable
  have he := raceEnable
  have ha := raceAcquire
  have hcas := run_call_cas_hit (P := Try.prog) Try.func91 (by kernel_rfl) (by kernel_rfl) (by kernel_rfl) .i32 (by kernel_rfl) (y := 1) hc hz
  have hc' : (w.setCell a (.int .i32 1)).cell? a = some (.int .i32 1) := World.cell?_setCell_same w a _ hc
  have hcv := run_convert_to_unsafe (P := Try.prog) (src := 150) (dst := 154) Try.underlying150 Try.underlying154 (by kernel_rfl) hc'
  go_enter Try.func83, Try.ntmps83
  go_wp2
  first | go_end0 | (simp only [Exit.inBlock, Exit.then]; refine bodyPost_ret (results_none rfl _ _ _) rfl ?_) | refine bodyPost_ret (results_none rfl _ _ _) rfl ?_
  go_wp2
  go_end0
  exact ⟨rfl, rfl⟩

set_option maxRecDepth 100000 in
theorem boolLoad {w : World} {a : Addr} {d : Int} (h : w.cell? a = some (.int .u32 d)) :
    Calls Try.prog 79 #[.pointer (some a)] w fun e w' => e = .returned (.bool (d != 0)) ∧ w = w' := by
  have hl := run_call_load (P := Try.prog) Try.func82 (by kernel_rfl) (by kernel_rfl) (by kernel_rfl) .u32 (by kernel_rfl) h
  go_enter Try.func79, Try.ntmps79
  go_wp2
  go_ret
  exact ⟨rfl, rfl⟩
set_option maxRecDepth 100000 in
/-- Do, done already: nothing is called. -/
theorem onceDone {w : World} {b o : Nat} {d l : Int} (h : OnceAt w b o d l) (hd : d ≠ 0) (fv : Value) :
    Calls Try.prog 75 #[.pointer (some ⟨b, o, none⟩), fv] w fun e w' => e = .returned (.tuple #[]) ∧ w = w' := by
  have hnot : ∀ (x : Bool) (w : World), (Op.unary .not (.bool x)).run Try.prog w = .ok (.bool (!x)) w := fun _ _ => rfl
  have hd' : (d != 0) = true := by simp [hd]
  go_enter Try.func75, Try.ntmps75
  go_wp2_with (go_at_call 79; refine (boolLoad h.done).mono ?_; rw [hd']; rintro e w' ⟨rfl, rfl⟩)
  go_end0
  exact ⟨rfl, rfl⟩

set_option maxRecDepth 100000 in
set_option maxHeartbeats 1600000 in
theorem onceSlow {w : World} {b o : Nat} (h : OnceAt w b o 0 0) (f : FuncId) (x : Value) (R : World → Prop) (hin : ∀ (args : Array Value) (w : World), (callFunc f args).run Try.prog w = .ok (.enter f args) w)
    (hf : Calls Try.prog f #[x] (w.setCell ⟨b, o + 1, none⟩ (.int .i32 1)) fun e w' => e = .returned (.tuple #[]) ∧ OnceAt w' b o 0 1 ∧ R w') :
    Calls Try.prog 80 #[.pointer (some ⟨b, o, none⟩), .func (.func f) #[x] #[]] w fun e w' => e = .returned (.tuple #[]) ∧
      ∃ w2, OnceAt w2 b o 0 1 ∧ R w2 ∧ w' = (w2.drew.setCell ⟨b, o, none⟩ (.int .u32 1)).setCell ⟨b, o + 1, none⟩ (.int .i32 0) := by
  have h1 := h.setLock 1
  have hnot : ∀ (x : Bool) (w : World), (Op.unary .not (.bool x)).run Try.prog w = .ok (.bool (!x)) w := fun _ _ => rfl
  have hd' : ((0 : Int) != 0) = false := rfl
  go_enter_defers Try.func80, Try.ntmps80
  go_wp2_with (go_at_call 83; refine (onceLock ⟨b, o + 1, none⟩ _ h.lock h.flock).mono ?_; rintro e w' ⟨rfl, rfl⟩)
  refine (boolLoad h1.done).mono ?_
  rw [hd']
  rintro e w' ⟨rfl, rfl⟩
  go_wp2_with fail
  refine hf.mono ?_
  rintro e w2 ⟨rfl, h2, hR⟩
  go_wp2_with fail
  refine leaves_cons (f := 85) (args := #[.pointer (some ⟨b, o, none⟩), .bool true]) (by simp) (by simp [go_sem]) ?_
  refine (onceStore ⟨b, o, none⟩ (.int .u32 0) .returning _ h2.done h2.fdone).mono ?_
  rintro e u' w'' ⟨rfl, rfl, rfl⟩
  have h3 := h2.drew.setDone 1
  refine leaves_cons (f := 84) (args := #[.pointer (some ⟨b, o + 1, none⟩)]) (by simp [settle]) (by simp [go_sem]) ?_
  refine (onceUnlock ⟨b, o + 1, none⟩ _ _ h3.lock h3.flock).mono ?_
  rintro e u' w'' ⟨rfl, rfl, rfl⟩
  simp [Leaves, settle, results, Try.results80]
  exact ⟨w2, h2, hR, rfl⟩
set_option maxRecDepth 100000 in
/-- Do, not yet done: the function is called; then it is done, and the lock is free. -/
theorem onceDo {w : World} {b o : Nat} (h : OnceAt w b o 0 0) (f : FuncId) (x : Value) (R : World → Prop) (hin : ∀ (args : Array Value) (w : World), (callFunc f args).run Try.prog w = .ok (.enter f args) w)
    (hf : Calls Try.prog f #[x] (w.setCell ⟨b, o + 1, none⟩ (.int .i32 1)) fun e w' => e = .returned (.tuple #[]) ∧ OnceAt w' b o 0 1 ∧ R w') :
    Calls Try.prog 75 #[.pointer (some ⟨b, o, none⟩), .func (.func f) #[x] #[]] w fun e w' => e = .returned (.tuple #[]) ∧
      ∃ w2, OnceAt w2 b o 0 1 ∧ R w2 ∧ w' = (w2.drew.setCell ⟨b, o, none⟩ (.int .u32 1)).setCell ⟨b, o + 1, none⟩ (.int .i32 0) := by
  have hnot : ∀ (x : Bool) (w : World), (Op.unary .not (.bool x)).run Try.prog w = .ok (.bool (!x)) w := fun _ _ => rfl
  have hd' : ((0 : Int) != 0) = false := rfl
  go_enter Try.func75, Try.ntmps75
  go_wp2_with (first | (go_at_call 79; refine (boolLoad h.done).mono ?_; rw [hd']; rintro e w' ⟨rfl, rfl⟩) | (go_at_call 80; refine (onceSlow h f x R hin hf).mono ?_; rintro e w3 ⟨rfl, h3⟩))
  go_end0
  exact ⟨rfl, h3⟩
end Go.Proofs.Ytmgfalkelembkaa
/-
  The sums of layer 5 in memory: a once, whether the table is made, and a table of 256 numbers; how they are carried through writes; new ones.
  Conditions: none beyond what each lemma states.
-/
namespace Go.Proofs.Ytmgfalkelembkaa
open Go.RowKit

/-- The cells of new sums. -/
def zSums : Array Value := (Value.int .u32 0 :: Value.int .i32 0 :: Value.int .u32 0 :: Value.bool false :: List.replicate 256 (Value.int .u32 0)).toArray
theorem zSums_info : ((Try.prog.info? 107).bind (fun i => i.zero)) = some (.agg zSums) := by kernel_rfl
theorem zSums_size : zSums.size = 260 := by kernel_rfl
theorem zSums_0 : zSums[0]? = some (.int .u32 0) := by kernel_rfl
theorem zSums_1 : zSums[1]? = some (.int .i32 0) := by kernel_rfl
theorem zSums_3 : zSums[3]? = some (.bool false) := by kernel_rfl
theorem zeroSums (w : World) : (zeroValue 107).run Try.prog w = .ok (.agg zSums) w := by
  have h := zSums_info
  generalize zSums = Z at *
  cases h1 : Try.prog.info? 107 with
  | none => rw [h1] at h; cases h
  | some i =>
    rw [h1] at h
    cases h2 : i.zero with
    | none => simp [h2] at h
    | some v =>
      have h3 : v = .agg Z := by simpa [h2] using h
      simp [zeroValue, typeInfo, h1, h2, h3]
theorem newSums_any (w : World) : Calls Try.prog 74 #[] w fun e w' => e = .returned (.pointer (some ⟨w.heap.size, 0, none⟩)) ∧ w' = w.alloc (.cells zSums 107) := by
  have hn := zeroSums
  generalize zSums = Z at *
  go_enter Try.func74, Try.ntmps74
  go_wp2
  go_ret
  exact ⟨rfl, rfl⟩

/-- THE SUMS at block b: 'done' d and the lock l of their once, whether the table is made, and a table whose first k numbers are as they should be. -/
structure Sums (w : World) (b : Nat) (d l : Int) (m : Bool) (k : Nat) : Prop where
  blk : ∃ c ty, w.heap[b]? = some (.cells c ty) ∧ c.size = 260 ∧ c[0]? = some (.int .u32 d) ∧ c[1]? = some (.int .i32 l) ∧ c[3]? = some (.bool m) ∧
    ∀ i, i < 256 → ∃ n : Nat, c[4 + i]? = some (.int .u32 n) ∧ (i < k → n = cBits 8 i)
theorem Sums.lt {w : World} {b : Nat} {d l : Int} {m : Bool} {k : Nat} (h : Sums w b d l m k) : b < w.heap.size := by
  obtain ⟨c, t, ht, _⟩ := h.blk
  exact (Array.getElem?_eq_some_iff.mp ht).1
theorem Sums.keep {R : Nat → Prop} {w w' : World} {b : Nat} {d l : Int} {m : Bool} {k : Nat} (h : Sums w b d l m k) (K : Keep R w w') (hn : ¬ R b) : Sums w' b d l m k := by
  have hlt := h.lt
  obtain ⟨c, t, ht, hr⟩ := h.blk
  exact ⟨c, t, by rw [K.block b hlt hn]; exact ht, hr⟩
theorem Sums.keep0 {w w' : World} {b : Nat} {d l : Int} {m : Bool} {k : Nat} (h : Sums w b d l m k) (K : Keep0 w w') : Sums w' b d l m k := h.keep K (fun f => f)
theorem Sums.once {w : World} {b : Nat} {d l : Int} {m : Bool} {k : Nat} (h : Sums w b d l m k) : OnceAt w b 0 d l := by
  obtain ⟨c, t, ht, hs, h0, h1, _⟩ := h.blk
  refine ⟨?_, ?_, ?_, ?_⟩ <;> simp [World.cell?, World.frozen?, ht, h0, h1]
theorem Sums.made {w : World} {b : Nat} {d l : Int} {m : Bool} {k : Nat} (h : Sums w b d l m k) : w.cell? ⟨b, 3, none⟩ = some (.bool m) ∧ w.frozen? ⟨b, 3, none⟩ = false := by
  obtain ⟨c, t, ht, hs, h0, h1, h3, _⟩ := h.blk
  constructor <;> simp [World.cell?, World.frozen?, ht, h3]
theorem Sums.at {w : World} {b : Nat} {d l : Int} {m : Bool} {k : Nat} (h : Sums w b d l m k) (i : Nat) (hi : i < 256) : ∃ n : Nat, w.cell? ⟨b, 4 + i, none⟩ = some (.int .u32 n) ∧ w.frozen? ⟨b, 4 + i, none⟩ = false ∧ (i < k → n = cBits 8 i) := by
  obtain ⟨c, t, ht, hs, h0, h1, h3, h4⟩ := h.blk
  obtain ⟨n, hn, hk⟩ := h4 i hi
  refine ⟨n, ?_, ?_, hk⟩ <;> simp [World.cell?, World.frozen?, ht, hn]
theorem Sums.setDone {w : World} {b : Nat} {d l : Int} {m : Bool} {k : Nat} (h : Sums w b d l m k) (d' : Int) : Sums (w.setCell ⟨b, 0, none⟩ (.int .u32 d')) b d' l m k := by
  obtain ⟨c, t, ht, hs, h0, h1, h3, h4⟩ := h.blk
  refine ⟨_, t, heap_setCell_at ht _, by simp [hs], ?_, ?_, ?_, fun i hi => ?_⟩
  · simp [hs]
  · simp [h1]
  · simp [h3]
  · obtain ⟨n, hn, hk⟩ := h4 i hi
    exact ⟨n, by rw [Array.getElem?_setIfInBounds_ne (by omega)]; exact hn, hk⟩
theorem Sums.setLock {w : World} {b : Nat} {d l : Int} {m : Bool} {k : Nat} (h : Sums w b d l m k) (l' : Int) : Sums (w.setCell ⟨b, 1, none⟩ (.int .i32 l')) b d l' m k := by
  obtain ⟨c, t, ht, hs, h0, h1, h3, h4⟩ := h.blk
  refine ⟨_, t, heap_setCell_at ht _, by simp [hs], ?_, ?_, ?_, fun i hi => ?_⟩
  · simp [h0]
  · simp [hs]
  · simp [h3]
  · obtain ⟨n, hn, hk⟩ := h4 i hi
    exact ⟨n, by rw [Array.getElem?_setIfInBounds_ne (by omega)]; exact hn, hk⟩
theorem Sums.setMade {w : World} {b : Nat} {d l : Int} {m : Bool} {k : Nat} (h : Sums w b d l m k) (m' : Bool) : Sums (w.setCell ⟨b, 3, none⟩ (.bool m')) b d l m' k := by
  obtain ⟨c, t, ht, hs, h0, h1, h3, h4⟩ := h.blk
  refine ⟨_, t, heap_setCell_at ht _, by simp [hs], ?_, ?_, ?_, fun i hi => ?_⟩
  · simp [h0]
  · simp [h1]
  · simp [hs]
  · obtain ⟨n, hn, hk⟩ := h4 i hi
    exact ⟨n, by rw [Array.getElem?_setIfInBounds_ne (by omega)]; exact hn, hk⟩
/-- The next number of the table is stored. -/
theorem Sums.next {w : World} {b : Nat} {d l : Int} {m : Bool} {k : Nat} (h : Sums w b d l m k) (hk : k < 256) : Sums (w.setCell ⟨b, 4 + k, none⟩ (.int .u32 (cBits 8 k))) b d l m (k + 1) := by
  obtain ⟨c, t, ht, hs, h0, h1, h3, h4⟩ := h.blk
  refine ⟨_, t, heap_setCell_at ht _, by simp [hs], ?_, ?_, ?_, fun i hi => ?_⟩
  · rw [Array.getElem?_setIfInBounds_ne (by omega)]; exact h0
  · rw [Array.getElem?_setIfInBounds_ne (by omega)]; exact h1
  · rw [Array.getElem?_setIfInBounds_ne (by omega)]; exact h3
  · by_cases e : i = k
    · subst e
      exact ⟨cBits 8 i, by rw [Array.getElem?_setIfInBounds_self_of_lt (by omega)], fun _ => rfl⟩
    · obtain ⟨n, hn, hk⟩ := h4 i hi
      exact ⟨n, by rw [Array.getElem?_setIfInBounds_ne (by omega)]; exact hn, fun hlt => hk (by omega)⟩
theorem Sums.new (w : World) (t : TypeId) : Sums (w.alloc (.cells zSums t)) w.heap.size 0 0 false 0 := by
  refine ⟨zSums, t, (MapKept.heap_alloc w _).1, zSums_size, zSums_0, zSums_1, zSums_3, fun i hi => ⟨0, ?_, fun h => absurd h (by omega)⟩⟩
  unfold zSums
  rw [List.getElem?_toArray, show 4 + i = i + 1 + 1 + 1 + 1 from by omega]
  simp only [List.getElem?_cons_succ]
  rw [List.getElem?_replicate_of_lt hi]
  rfl
end Go.Proofs.Ytmgfalkelembkaa
/-
  Contracts of layer 5's own functions: halved, fill, put, each proved over this seat's translation.
  Conditions: a text takes at most the greatest length that a string may have.
-/
namespace Go.Proofs.Ytmgfalkelembkaa
open Go.RowKit
open Go.PlainAid (bt get_bt bt_nonneg bt_le)

theorem and1_u32 (a : Nat) (ha : a < 4294967296) : bits .and .u32 (a : Int) 1 = ((a % 2 : Nat) : Int) := by
  have h1 : (BitVec.ofInt 32 (a : Int)).toNat = a := by
    rw [BitVec.ofInt_natCast, BitVec.toNat_ofNat]; exact Nat.mod_eq_of_lt (by omega)
  show IntKind.u32.wrap ((BitVec.ofInt 32 (a : Int) &&& BitVec.ofInt 32 1).toNat : Int) = _
  rw [BitVec.toNat_and, h1, show (BitVec.ofInt 32 1).toNat = 1 from rfl, Nat.and_one_is_mod, IntKind.wrap_u32]
  omega

set_option maxRecDepth 100000 in
theorem halved_any (w : World) (m : Nat) (hlt : m < 4294967296) : Calls Try.prog 81 #[.int .u32 m] w fun e w' => e = .returned (.int .u32 (cBits 8 m)) ∧ w = w' := by
  obtain ⟨r, hr⟩ : ∃ r, cBits 8 m = r := ⟨_, rfl⟩
  rw [hr]
  have HP : Hid (cBits 8 m = r) := hr
  clear hr
  go_enter Try.func81, Try.ntmps81
  go_wp2_with fail
  go_loopw [0, 4] (fun v i wr => ∃ (k N : Nat), k ≤ 8 ∧ v = .int .u32 N ∧ N < 4294967296 ∧ cBits (8 - k) N = r ∧ i = .int .i64 k ∧ wr = w) (fun _ i _ => 8 - (intOf i).toNat)
  case atStart => exact ⟨0, m, by omega, rfl, hlt, HP.out, rfl, rfl⟩
  case round =>
    obtain ⟨k, N, hk, rfl, hN, hr, rfl, rfl⟩ := hrel
    have ha := and1_u32 N hN
    by_cases hk8 : k < 8
    · have hr' : cBits (8 - (k + 1)) (cStep N) = r := by
        rw [show 8 - k = 8 - (k + 1) + 1 from by omega] at hr
        exact hr
      have HR : Hid (cBits (8 - (k + 1)) (cStep N) = r) := hr'
      have hs := cStep_lt hN
      clear hr hr' HP
      by_cases ho : N % 2 = 1
      · have e1 : cStep N = N / 2 ^^^ 3988292384 := if_pos ho
        have hx2 := xor_u32 (N / 2) 3988292384 (by omega) (by decide)
        have HX : Hid (bits .xor .u32 ((N / 2 : Nat) : Int) 3988292384 = ((cStep N : Nat) : Int)) := by rw [e1]; exact hx2
        rw [ho] at ha
        clear e1 hx2 ho
        go_wp2
        go_roundw
        case rel => exact ⟨k + 1, cStep N, by omega, by rw [← HX.out]; first | rfl | go_num, hs, HR.out, by go_num, trivial⟩
        case measure => simp [intOf]; omega
      · have e1 : cStep N = N / 2 := if_neg ho
        have ho' : N % 2 = 0 := by omega
        rw [ho'] at ha
        rw [e1] at HR
        clear e1 ho hs
        go_wp2
        go_roundw
        case rel => exact ⟨k + 1, N / 2, by omega, by go_num, by omega, HR.out, by go_num, trivial⟩
        case measure => simp [intOf]; omega
    · obtain rfl : k = 8 := by omega
      have hr' : N = r := hr
      clear hr
      subst hr'
      go_wp2
      go_ret
      exact ⟨rfl, rfl⟩

set_option maxRecDepth 100000 in
theorem fill_any {w : World} {b : Nat} {d l : Int} {m : Bool} {k0 : Nat} (h : Sums w b d l m k0) :
    Calls Try.prog 76 #[.pointer (some ⟨b, 0, none⟩)] w fun e w' => e = .returned (.tuple #[]) ∧ Sums w' b d l true 256 ∧ Keep1 b w w' := by
  have h0 : Sums w b d l m 0 := by
    obtain ⟨c, t, ht, hs, h0, h1, h3, h4⟩ := h.blk
    refine ⟨c, t, ht, hs, h0, h1, h3, fun i hi => ?_⟩
    obtain ⟨n, hn, _⟩ := h4 i hi
    exact ⟨n, hn, fun h => absurd h (by omega)⟩
  clear h
  go_enter Try.func76, Try.ntmps76
  go_wp2_with fail
  go_loopw [3] (fun i wr => ∃ (k : Nat), k ≤ 256 ∧ i = .int .u32 k ∧ Sums wr b d l m k ∧ Keep1 b w wr) (fun i _ => 256 - (intOf i).toNat)
  case atStart => exact ⟨0, by omega, rfl, h0, Keep.refl _ _⟩
  case round =>
    obtain ⟨k, hk, rfl, hS, hK⟩ := hrel
    by_cases hk8 : k < 256
    · obtain ⟨n, hc, hf, _⟩ := hS.at k hk8
      have hnx := hS.next hk8
      have hKx := hK.set1 (4 + k) (.int .u32 (cBits 8 k))
      have hk' : (k : Int) < 256 := by omega
      go_wp2_with fail
      go_region_with (go_at_call 81; refine (halved_any _ k (by omega)).mono ?_; rintro e w' ⟨rfl, rfl⟩)
      go_wp2
      go_roundw
      case rel => exact ⟨k + 1, by omega, by go_num, hnx.keep0 (Keep.refl _ _).drew, hKx.drew⟩
      case measure => simp [intOf]; omega
    · obtain rfl : k = 256 := by omega
      obtain ⟨hc, hf⟩ := hS.made
      go_wp2
      go_end0
      exact ⟨rfl, hS.setMade true, hK.set1 3 (.bool true)⟩

set_option maxRecDepth 100000 in
theorem put5_any {w : World} {b : Nat} {d l : Int} {m : Bool} (h : Sums w b d l m 256) (n : Nat) (hn : n < 4294967296) (s : ByteArray) (hs : s.size ≤ maxLen) :
    Calls Try.prog 77 #[.pointer (some ⟨b, 0, none⟩), .int .u32 n, .string s] w fun e w' => e = .returned (.int .u32 (cPuts n s.data.toList)) ∧ w = w' := by
  have hget := get_bt s
  have hsz : (s.size : Int) ≤ 9223372036854775807 := by unfold maxLen at hs; omega
  go_enter Try.func77, Try.ntmps77
  go_wp2_with fail
  go_loopw [1, 11] (fun v i wr => ∃ (k N : Nat), k ≤ s.size ∧ v = .int .u32 N ∧ N < 4294967296 ∧ N = cPuts n (s.data.toList.take k) ∧ i = .int .i64 k ∧ wr = w) (fun _ i _ => s.size - (intOf i).toNat)
  case atStart => exact ⟨0, n, by omega, rfl, hn, rfl, rfl, rfl⟩
  case round =>
    obtain ⟨k, N, hk, rfl, hN, hp, rfl, rfl⟩ := hrel
    have hll : s.data.toList.length = s.size := by simp
    by_cases hlt : k < s.size
    · have hbt : bt s k = (s.data.toList[k].toNat : Int) := by rw [← hget k hlt]; rfl
      have hp' : cPuts n (s.data.toList.take (k + 1)) = cPut N s.data.toList[k].toNat := by
        rw [List.take_succ_eq_append_getElem (by omega), cPuts_append, ← hp]
        rfl
      generalize s.data.toList[k] = c at *
      have hc : c.toNat < 256 := c.toNat_lt
      have HP : Hid (cPuts n (s.data.toList.take (k + 1)) = cPut N c.toNat) := hp'
      have hl := cPut_lt hN hc
      have hx : bits .xor .u8 ((N : Int) % 256) (c.toNat : Int) = ((N % 256 ^^^ c.toNat : Nat) : Int) := xor_u8 (N % 256) c.toNat (by omega) hc
      have hj : (N ^^^ c.toNat) % 256 = N % 256 ^^^ c.toNat := by
        rw [Nat.xor_mod_two_pow (n := 8), Nat.mod_eq_of_lt (a := c.toNat) hc]
      have ht := cPut_table N c.toNat hc
      rw [hj] at ht
      have hj8 : N % 256 ^^^ c.toNat < 256 := Nat.xor_lt_two_pow (n := 8) (by omega) hc
      generalize N % 256 ^^^ c.toNat = j at *
      obtain ⟨v, hcell, _, hv⟩ := h.at j hj8
      obtain rfl := hv hj8
      have hx2 := xor_u32 (N / 256) (cBits 8 j) (by omega) (cBits_lt 8 (by omega))
      rw [Nat.xor_comm, ← ht] at hx2
      have HX : Hid (bits .xor .u32 ((N / 256 : Nat) : Int) ((cBits 8 j : Nat) : Int) = ((cPut N c.toNat : Nat) : Int)) := hx2
      have hj' : (j : Int) < 256 := by omega
      clear hp hp' hll ht hx2 hj hv
      go_wp2
      go_roundw
      case rel => exact ⟨k + 1, cPut N c.toNat, by omega, by rw [← HX.out]; first | rfl | go_num, hl, HP.out.symm, by go_num, trivial⟩
      case measure => simp [intOf]; omega
    · rw [List.take_of_length_le (by omega)] at hp
      have HE : Hid (N = cPuts n s.data.toList) := hp
      clear hp hll
      go_wp2
      go_ret
      exact ⟨by rw [← HE.out]; rfl, rfl⟩
end Go.Proofs.Ytmgfalkelembkaa
/-
  Contracts of layer 5's exported calls: More, Sum, Made, of new, of made, of nil sums, each proved over this seat's translation.
  Conditions: a text takes at most the greatest length that a string may have; the list of texts lies elsewhere than the sums.
-/
namespace Go.Proofs.Ytmgfalkelembkaa
open Go.RowKit

/-- Sums as a caller meets them: new ones, or ones whose table is made. -/
def SumsAny (w : World) (b : Nat) (m : Bool) : Prop := (m = false ∧ Sums w b 0 0 false 0) ∨ (m = true ∧ Sums w b 1 0 true 256)
theorem SumsAny.lt {w : World} {b : Nat} {m : Bool} (h : SumsAny w b m) : b < w.heap.size := by
  rcases h with ⟨_, h⟩ | ⟨_, h⟩ <;> exact h.lt
theorem SumsAny.made {w : World} {b : Nat} {m : Bool} (h : SumsAny w b m) : w.cell? ⟨b, 3, none⟩ = some (.bool m) := by
  rcases h with ⟨rfl, h⟩ | ⟨rfl, h⟩ <;> exact h.made.1
theorem SumsAny.keep {R : Nat → Prop} {w w' : World} {b : Nat} {m : Bool} (h : SumsAny w b m) (K : Keep R w w') (hn : ¬ R b) : SumsAny w' b m := by
  rcases h with ⟨hm, h⟩ | ⟨hm, h⟩
  · exact .inl ⟨hm, h.keep K hn⟩
  · exact .inr ⟨hm, h.keep K hn⟩
theorem SumsAny.keep0 {w w' : World} {b : Nat} {m : Bool} (h : SumsAny w b m) (K : Keep0 w w') : SumsAny w' b m := h.keep K (fun f => f)
theorem SumsAny.new (w : World) (t : TypeId) : SumsAny (w.alloc (.cells zSums t)) w.heap.size false := .inl ⟨rfl, Sums.new w t⟩
theorem Sums.any {w : World} {b : Nat} (h : Sums w b 1 0 true 256) : SumsAny w b true := .inr ⟨rfl, h⟩

theorem fill_in (args : Array Value) (w : World) : (callFunc 76 args).run Try.prog w = .ok (.enter 76 args) w :=
  Go.MuLone.run_callFunc_enter Try.func76 (by kernel_rfl) rfl args w

/-- The once of the sums: behind it the table is made. -/
theorem do5 {w : World} {b : Nat} {m : Bool} (h : SumsAny w b m) :
    Calls Try.prog 75 #[.pointer (some ⟨b, 0, none⟩), .func (.func 76) #[.pointer (some ⟨b, 0, none⟩)] #[]] w fun e w' => e = .returned (.tuple #[]) ∧ Sums w' b 1 0 true 256 ∧ Keep1 b w w' := by
  rcases h with ⟨_, h⟩ | ⟨_, h⟩
  · refine (onceDo h.once 76 (.pointer (some ⟨b, 0, none⟩)) (fun w2 => Sums w2 b 0 1 true 256 ∧ Keep1 b w w2) fill_in ?_).mono ?_
    · refine (fill_any (h.setLock 1)).mono ?_
      rintro e w' ⟨rfl, h1, k1⟩
      exact ⟨rfl, h1.once, h1, ((Keep.refl _ w).set1 1 _).trans k1⟩
    · rintro e w' ⟨rfl, w2, _, ⟨h2, k2⟩, rfl⟩
      exact ⟨rfl, ((h2.keep0 (Keep.refl _ _).drew).setDone 1).setLock 0, (k2.drew.set1 0 _).set1 1 _⟩
  · refine (onceDone h.once (by decide) _).mono ?_
    rintro e w' ⟨rfl, rfl⟩
    exact ⟨rfl, h, Keep.refl _ _⟩

/-- Texts, one behind the other. -/
def cJoin (l : List ByteArray) : List UInt8 := l.flatMap (fun s => s.data.toList)
theorem cJoin_append (l r : List ByteArray) : cJoin (l ++ r) = cJoin l ++ cJoin r := List.flatMap_append
theorem cJoin_one (s : ByteArray) : cJoin [s] = s.data.toList := by simp [cJoin]
/-- The slice ao holds the texts l in w, elsewhere than in block b. -/
def TextsAt (w : World) (b : Nat) (ao : Option Addr) (l : List ByteArray) : Prop := ∀ k (hk : k < l.length), ∃ bb off, ao = some ⟨bb, off, none⟩ ∧ bb ≠ b ∧ w.cell? ⟨bb, off + k, none⟩ = some (.string l[k])

theorem not_u32 (n : Nat) (hn : n < 4294967296) : bits .xor .u32 IntKind.u32.max (n : Int) = ((4294967295 - n : Nat) : Int) := by
  have h := xor_u32 4294967295 n (by decide) hn
  rw [Nat.xor_comm, xor_all hn] at h
  exact h

set_option maxRecDepth 100000 in
theorem more5_any {w : World} {b : Nat} {m : Bool} (h : SumsAny w b m) (n : Nat) (hn : n < 4294967296) (ao : Option Addr) (cap : Nat) (l : List ByteArray) (hl : l.length ≤ maxLen) (hls : ∀ s ∈ l, s.size ≤ maxLen) (hc : TextsAt w b ao l) :
    Calls Try.prog 71 #[.pointer (some ⟨b, 0, none⟩), .int .u32 n, .slice ao l.length cap] w fun e w' => e = .returned (.int .u32 (cMore n (cJoin l))) ∧ Sums w' b 1 0 true 256 ∧ Keep1 b w w' := by
  have hsz : (l.length : Int) ≤ 9223372036854775807 := by unfold maxLen at hl; omega
  have HS : Hid (∀ s ∈ l, s.size ≤ maxLen) := hls
  have hsg : IntKind.u32.signed = false := rfl
  have hx := not_u32 n hn
  obtain ⟨n', hn'e⟩ : ∃ n', n' = 4294967295 - n := ⟨_, rfl⟩
  have hn' : n' < 4294967296 := by omega
  rw [← hn'e] at hx
  have HNE : Hid (n' = 4294967295 - n) := hn'e
  clear hn'e
  have HC : Hid (TextsAt w b ao l) := hc
  clear hc hls
  go_enter Try.func71, Try.ntmps71
  go_wp2_with fail
  refine (do5 h).mono ?_
  rintro e W ⟨rfl, hW, kW⟩
  go_wp2_with fail
  go_loopw [1, 22] (fun v i wr => ∃ (k N : Nat), k ≤ l.length ∧ v = .int .u32 N ∧ N < 4294967296 ∧ N = cPuts n' (cJoin (l.take k)) ∧ i = .int .i64 k ∧ wr = W) (fun _ i _ => l.length - (intOf i).toNat)
  case atStart => exact ⟨0, n', by omega, rfl, hn', rfl, rfl, rfl⟩
  case round =>
    obtain ⟨k, N, hk, rfl, hN, hp, rfl, rfl⟩ := hrel
    by_cases hlt : k < l.length
    · obtain ⟨bb, off, rfl, hne, hcell⟩ := HC.out k hlt
      have hcl : wr.cell? ⟨bb, off + k, none⟩ = some (.string l[k]) := kW.cell hcell hne
      have hsk := HS.out l[k] (List.getElem_mem hlt)
      have hp' : cPuts n' (cJoin (l.take (k + 1))) = cPuts N l[k].data.toList := by
        rw [List.take_succ_eq_append_getElem hlt, cJoin_append, cPuts_append, ← hp, cJoin_one]
      generalize l[k] = s at *
      have HP : Hid (cPuts n' (cJoin (l.take (k + 1))) = cPuts N s.data.toList) := hp'
      have hl2 := cPuts_lt s.data.toList hN
      have hlt' : (k : Int) < l.length := by omega
      clear hp hp' hcell
      go_wp2_with (go_at_call 77; refine (put5_any hW N hN s hsk).mono ?_; rintro e w' ⟨rfl, rfl⟩)
      go_roundw
      case rel => exact ⟨k + 1, cPuts N s.data.toList, by omega, rfl, hl2, HP.out.symm, by go_num, trivial⟩
      case measure => simp [intOf]; omega
    · rw [List.take_of_length_le (by omega)] at hp
      have hx2 := not_u32 N hN
      have HE : Hid (cMore n (cJoin l) = 4294967295 - N) := by
        show cMore n (cJoin l) = _
        unfold cMore
        rw [hp, HNE.out]
      clear hp
      go_wp2
      go_ret
      refine ⟨?_, hW, kW⟩
      rw [HE.out]
      rfl

/-- Of nil sums. -/
def StrsIn (w : World) (ao : Option Addr) (l : List ByteArray) : Prop := ∀ k (hk : k < l.length), ∃ bb off, ao = some ⟨bb, off, none⟩ ∧ w.cell? ⟨bb, off + k, none⟩ = some (.string l[k])
set_option maxRecDepth 100000 in
theorem more5_nil (w : World) (n : Nat) (hn : n < 4294967296) (ao : Option Addr) (cap : Nat) (l : List ByteArray) (hl : l.length ≤ maxLen) (hls : ∀ s ∈ l, s.size ≤ maxLen) (hc : StrsIn w ao l) :
    Calls Try.prog 71 #[.pointer none, .int .u32 n, .slice ao l.length cap] w fun e w' => e = .returned (.int .u32 (cMore n (cJoin l))) ∧ Keep0 w w' := by
  have hsz : (l.length : Int) ≤ 9223372036854775807 := by unfold maxLen at hl; omega
  have HS : Hid (∀ s ∈ l, s.size ≤ maxLen) := hls
  have hsg : IntKind.u32.signed = false := rfl
  have hx := not_u32 n hn
  obtain ⟨n', hn'e⟩ : ∃ n', n' = 4294967295 - n := ⟨_, rfl⟩
  have hn' : n' < 4294967296 := by omega
  rw [← hn'e] at hx
  have HNE : Hid (n' = 4294967295 - n) := hn'e
  clear hn'e
  have HC : Hid (TextsAt (w.alloc (.cells zSums 107)) w.heap.size ao l) := by
    intro k hk
    obtain ⟨bb, off, h1, h2⟩ := hc k hk
    exact ⟨bb, off, h1, Nat.ne_of_lt (World.block_lt_of_cell? w _ h2), ((Keep.refl (fun _ => False) w).alloc (.cells zSums 107)).cell h2 (fun f => f)⟩
  have hnew := SumsAny.new w 107
  have k0 : Keep0 w (w.alloc (.cells zSums 107)) := (Keep.refl _ w).alloc _
  clear hc hls
  go_enter Try.func71, Try.ntmps71
  go_wp2_with (go_at_call 74; refine (newSums_any w).mono ?_; rintro e w' ⟨rfl, rfl⟩)
  refine (do5 hnew).mono ?_
  rintro e W ⟨rfl, hW, kW⟩
  have k1 : Keep0 w W := k0.step1 kW (Nat.le_refl _)
  go_wp2_with fail
  go_loopw [1, 22] (fun v i wr => ∃ (k N : Nat), k ≤ l.length ∧ v = .int .u32 N ∧ N < 4294967296 ∧ N = cPuts n' (cJoin (l.take k)) ∧ i = .int .i64 k ∧ wr = W) (fun _ i _ => l.length - (intOf i).toNat)
  case atStart => exact ⟨0, n', by omega, rfl, hn', rfl, rfl, rfl⟩
  case round =>
    obtain ⟨k, N, hk, rfl, hN, hp, rfl, rfl⟩ := hrel
    by_cases hlt : k < l.length
    · obtain ⟨bb, off, rfl, hne, hcell⟩ := HC.out k hlt
      have hcl : wr.cell? ⟨bb, off + k, none⟩ = some (.string l[k]) := kW.cell hcell hne
      have hsk := HS.out l[k] (List.getElem_mem hlt)
      have hp' : cPuts n' (cJoin (l.take (k + 1))) = cPuts N l[k].data.toList := by
        rw [List.take_succ_eq_append_getElem hlt, cJoin_append, cPuts_append, ← hp, cJoin_one]
      generalize l[k] = s at *
      have HP : Hid (cPuts n' (cJoin (l.take (k + 1))) = cPuts N s.data.toList) := hp'
      have hl2 := cPuts_lt s.data.toList hN
      have hlt' : (k : Int) < l.length := by omega
      clear hp hp' hcell
      go_wp2_with (go_at_call 77; refine (put5_any hW N hN s hsk).mono ?_; rintro e w' ⟨rfl, rfl⟩)
      go_roundw
      case rel => exact ⟨k + 1, cPuts N s.data.toList, by omega, rfl, hl2, HP.out.symm, by go_num, trivial⟩
      case measure => simp [intOf]; omega
    · rw [List.take_of_length_le (by omega)] at hp
      have hx2 := not_u32 N hN
      have HE : Hid (cMore n (cJoin l) = 4294967295 - N) := by
        show cMore n (cJoin l) = _
        unfold cMore
        rw [hp, HNE.out]
      clear hp
      go_wp2
      go_ret
      refine ⟨?_, k1⟩
      rw [HE.out]
      rfl

/-- With one text, whose list has just been made. -/
theorem more5_one {w : World} {b : Nat} {m : Bool} (h : SumsAny w b m) (n : Nat) (hn : n < 4294967296) (s : ByteArray) (hs : s.size ≤ maxLen) (t : TypeId) :
    Calls Try.prog 71 #[.pointer (some ⟨b, 0, none⟩), .int .u32 n, .slice (some ⟨w.heap.size, 0, none⟩) 1 1] (w.alloc (.cells #[.string s] t)) fun e w' => e = .returned (.int .u32 (cMore n s.data.toList)) ∧ Sums w' b 1 0 true 256 ∧ Keep1 b w w' := by
  have k0 : Keep0 w (w.alloc (.cells #[.string s] t)) := (Keep.refl _ w).alloc _
  have hlt := h.lt
  refine (more5_any (h.keep0 k0) n hn (some ⟨w.heap.size, 0, none⟩) 1 [s] (by unfold maxLen; simp) (by simpa using hs) ?_).mono ?_
  · intro k hk
    obtain rfl : k = 0 := by simpa using hk
    exact ⟨w.heap.size, 0, rfl, by omega, cell_alloc w t rfl⟩
  · rw [cJoin_one]
    rintro e w' ⟨rfl, h1, k1⟩
    exact ⟨rfl, h1, k0.any.trans k1⟩
theorem more5_none {w : World} {b : Nat} {m : Bool} (h : SumsAny w b m) (n : Nat) (hn : n < 4294967296) :
    Calls Try.prog 71 #[.pointer (some ⟨b, 0, none⟩), .int .u32 n, .slice none 0 0] w fun e w' => e = .returned (.int .u32 n) ∧ Sums w' b 1 0 true 256 ∧ Keep1 b w w' := by
  refine (more5_any h n hn none 0 [] (by unfold maxLen; decide) (by simp) (fun k hk => absurd hk (by simp))).mono ?_
  have q : cMore n (cJoin []) = n := cMore_nil hn
  rw [q]
  exact fun _ _ h => h
theorem sum5_any {w : World} {b : Nat} {m : Bool} (h : SumsAny w b m) (s : ByteArray) (hs : s.size ≤ maxLen) :
    Calls Try.prog 66 #[.pointer (some ⟨b, 0, none⟩), .string s] w fun e w' => e = .returned (.int .u32 (cSum s.data.toList)) ∧ Sums w' b 1 0 true 256 ∧ Keep1 b w w' := by
  go_enter Try.func66, Try.ntmps66
  go_wp2_with fail
  refine (more5_one h 0 (by decide) s hs _).mono ?_
  rw [cMore_zero]
  rintro e w1 ⟨rfl, h1, k1⟩
  go_wp2
  go_ret
  exact ⟨rfl, h1, k1⟩
theorem sum5_nil (w : World) (s : ByteArray) (hs : s.size ≤ maxLen) :
    Calls Try.prog 66 #[.pointer none, .string s] w fun e w' => e = .returned (.int .u32 (cSum s.data.toList)) ∧ Keep0 w w' := by
  have k0 : ∀ t, Keep0 w (w.alloc (.cells #[.string s] t)) := fun t => (Keep.refl _ w).alloc _
  go_enter Try.func66, Try.ntmps66
  go_wp2_with fail
  refine (more5_nil _ 0 (by decide) (some ⟨w.heap.size, 0, none⟩) 1 [s] (by unfold maxLen; simp) (by simpa using hs) ?_).mono ?_
  · intro k hk
    obtain rfl : k = 0 := by simpa using hk
    exact ⟨w.heap.size, 0, rfl, cell_alloc w _ rfl⟩
  rw [cJoin_one, cMore_zero]
  rintro e w1 ⟨rfl, k1⟩
  go_wp2
  go_ret
  exact ⟨rfl, (k0 _).trans k1⟩
end Go.Proofs.Ytmgfalkelembkaa
