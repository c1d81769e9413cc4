/-
  The texts Fix, FixNum, FixPut, FixTake of this seat, one behind the other.
  Conditions: as each says.
-/
import Derived.Test.YtmgfalkelembkaaL1
import Derived.Laws.Bits64b
import Derived.PlainAid
import Derived.Test.YtmgfalkelembkaaL2
import Derived.Laws.CopyRow
/-
  Numbers of a width and their bytes, the highest first, on lists: bNum, bEnc; widths: fIs, fGreat. No program.
  Conditions: none.
-/
namespace Go.Proofs.Ytmgfalkelembkaa
open Go.RowKit

/-- A width? The greatest number that fits it; 0 of none. -/
def fIs (k : Int) : Bool := decide (k = 1 ∨ k = 2 ∨ k = 4 ∨ k = 8)
def fGreat (k : Int) : Int := if k = 8 then 18446744073709551615 else if k = 4 then 4294967295 else if k = 2 then 65535 else if k = 1 then 255 else 0
theorem fIs_cases {k : Int} (h : fIs k = true) : k = 1 ∨ k = 2 ∨ k = 4 ∨ k = 8 := of_decide_eq_true h
theorem fIs_not {k : Int} (h : fIs k = false) : k ≠ 1 ∧ k ≠ 2 ∧ k ≠ 4 ∧ k ≠ 8 := by have := of_decide_eq_false h; omega
theorem fGreat_pow {k : Int} (h : fIs k = true) : fGreat k = ((256 ^ k.toNat - 1 : Nat) : Int) := by
  rcases fIs_cases h with rfl | rfl | rfl | rfl <;> decide
theorem fIs_nat {k : Int} (h : fIs k = true) : ∃ j : Nat, k = j ∧ 1 ≤ j ∧ j ≤ 8 := by
  rcases fIs_cases h with rfl | rfl | rfl | rfl
  · exact ⟨1, rfl, by decide, by decide⟩
  · exact ⟨2, rfl, by decide, by decide⟩
  · exact ⟨4, rfl, by decide, by decide⟩
  · exact ⟨8, rfl, by decide, by decide⟩

/-- The number of bytes, the highest first. -/
def bNum (l : List UInt8) : Nat := l.foldl (fun n c => n * 256 + c.toNat) 0
/-- The lowest k bytes of a number, the highest first. -/
def bEnc : Nat → Nat → List UInt8
  | 0, _ => []
  | k + 1, n => bEnc k (n / 256) ++ [UInt8.ofNat (n % 256)]
theorem bNum_nil : bNum [] = 0 := rfl
theorem bNum_snoc (l : List UInt8) (c : UInt8) : bNum (l ++ [c]) = bNum l * 256 + c.toNat := by
  unfold bNum
  rw [List.foldl_append]
  rfl
theorem bFold_lt : ∀ (l : List UInt8) (a : Nat), l.foldl (fun n c => n * 256 + c.toNat) a = a * 256 ^ l.length + bNum l
  | [], a => by simp [bNum]
  | c :: l, a => by
    have h1 := bFold_lt l (a * 256 + c.toNat)
    have h2 := bFold_lt l (0 * 256 + c.toNat)
    have h3 : bNum (c :: l) = l.foldl (fun n c => n * 256 + c.toNat) (0 * 256 + c.toNat) := rfl
    rw [List.foldl_cons, h1, h3, h2, List.length_cons, Nat.pow_succ]
    generalize 256 ^ l.length = p
    rw [Nat.add_mul, Nat.zero_mul, Nat.zero_add, Nat.mul_assoc, Nat.mul_comm 256 p, Nat.add_assoc]
theorem bNum_cons (c : UInt8) (l : List UInt8) : bNum (c :: l) = c.toNat * 256 ^ l.length + bNum l := by
  have h := bFold_lt l (0 * 256 + c.toNat)
  rw [Nat.zero_mul, Nat.zero_add] at h
  have h3 : bNum (c :: l) = l.foldl (fun n c => n * 256 + c.toNat) (0 * 256 + c.toNat) := rfl
  rw [h3, Nat.zero_mul, Nat.zero_add, h]
theorem bNum_lt : ∀ l : List UInt8, bNum l < 256 ^ l.length
  | [] => by simp [bNum]
  | c :: l => by
    have h := bNum_lt l
    have hc := c.toNat_lt
    rw [bNum_cons, List.length_cons, Nat.pow_succ]
    generalize 256 ^ l.length = p at *
    have : c.toNat * p ≤ 255 * p := Nat.mul_le_mul_right _ (by omega)
    omega
theorem bNum_zeros (l : List UInt8) : ∀ k, bNum (List.replicate k 0 ++ l) = bNum l
  | 0 => rfl
  | k + 1 => by
    rw [List.replicate_succ, List.cons_append, bNum_cons, bNum_zeros l k]
    simp
theorem bNum_take {l : List UInt8} {k : Nat} (h : k < l.length) : bNum (l.take (k + 1)) = bNum (l.take k) * 256 + l[k].toNat := by
  rw [List.take_succ_eq_append_getElem h, bNum_snoc]
theorem bNum_le8 {l : List UInt8} (h : l.length ≤ 8) : bNum l < 18446744073709551616 := by
  have := bNum_lt l
  have h2 : 256 ^ l.length ≤ 256 ^ 8 := Nat.pow_le_pow_right (by decide) h
  omega
theorem bNum_le7 {l : List UInt8} (h : l.length ≤ 7) : bNum l < 72057594037927936 := by
  have := bNum_lt l
  have h2 : 256 ^ l.length ≤ 256 ^ 7 := Nat.pow_le_pow_right (by decide) h
  omega
theorem bEnc_len : ∀ (k n : Nat), (bEnc k n).length = k
  | 0, _ => rfl
  | k + 1, n => by rw [bEnc, List.length_append, bEnc_len k]; rfl
theorem byte_nat4 {n : Nat} (h : n < 256) : (UInt8.ofNat n).toNat = n := by
  rw [UInt8.toNat_ofNat']
  omega
theorem bNum_enc : ∀ (k n : Nat), bNum (bEnc k n) = n % 256 ^ k
  | 0, n => by simp [bEnc, bNum, Nat.mod_one]
  | k + 1, n => by
    rw [bEnc, bNum_snoc, bNum_enc k, byte_nat4 (by omega), Nat.pow_succ, Nat.mul_comm (256 ^ k) 256, Nat.mod_mul]
    omega
theorem bEnc_cons : ∀ (k n : Nat), bEnc (k + 1) n = UInt8.ofNat (n / 256 ^ k % 256) :: bEnc k n
  | 0, n => by simp [bEnc]
  | k + 1, n => by
    rw [bEnc, bEnc_cons k (n / 256), Nat.div_div_eq_div_mul, Nat.pow_succ, Nat.mul_comm (256 ^ k) 256, List.cons_append]
    rfl
theorem bEnc_drop (w : Nat) (n : Nat) : ∀ j, (bEnc (j + w) n).drop j = bEnc w n
  | 0 => by simp
  | j + 1 => by
    rw [show j + 1 + w = j + w + 1 from by omega, bEnc_cons, List.drop_succ_cons]
    exact bEnc_drop w n j
/-- The text of a number in k bytes. -/
def bText (k n : Nat) : ByteArray := ⟨(bEnc k n).toArray⟩
theorem bText_list (k n : Nat) : (bText k n).data.toList = bEnc k n := by simp [bText]
theorem bText_size (k n : Nat) : (bText k n).size = k := by
  show (bEnc k n).toArray.size = k
  rw [List.size_toArray, bEnc_len]
/-- Bytes are in the order of their numbers. -/
theorem less_num : ∀ (a b : List UInt8), a.length = b.length → Op.bytesLess a b = decide (bNum a < bNum b)
  | [], [], _ => by simp [Op.bytesLess, bNum]
  | [], _ :: _, h => by simp at h
  | _ :: _, [], h => by simp at h
  | x :: a, y :: b, h => by
    have hl : a.length = b.length := by simpa using h
    have ih := less_num a b hl
    have ha := bNum_lt a
    have hb := bNum_lt b
    rw [Op.bytesLess, ih, bNum_cons, bNum_cons, hl]
    rw [hl] at ha
    generalize 256 ^ b.length = p at *
    have hxy : (x < y) ↔ x.toNat < y.toNat := UInt8.lt_iff_toNat_lt
    rcases Nat.lt_trichotomy x.toNat y.toNat with h1 | h1 | h1
    · have hm : (x.toNat + 1) * p ≤ y.toNat * p := Nat.mul_le_mul_right _ h1
      rw [Nat.add_mul] at hm
      have e1 : x < y := hxy.2 h1
      have e2 : x.toNat * p + bNum a < y.toNat * p + bNum b := by omega
      simp [e1, e2]
    · have e0 : x = y := UInt8.toNat_inj.1 h1
      subst e0
      simp
    · have hm : (y.toNat + 1) * p ≤ x.toNat * p := Nat.mul_le_mul_right _ h1
      rw [Nat.add_mul] at hm
      have e1 : ¬ x < y := fun e => by have := hxy.1 e; omega
      have e3 : ¬ x = y := fun e => by subst e; omega
      have e2 : ¬ x.toNat * p + bNum a < y.toNat * p + bNum b := by omega
      simp [e1, e2, e3]
theorem less_text (k n m : Nat) (hn : n < 256 ^ k) (hm : m < 256 ^ k) : Op.bytesLess (bEnc k n) (bEnc k m) = decide (n < m) := by
  rw [less_num _ _ (by rw [bEnc_len, bEnc_len]), bNum_enc, bNum_enc, Nat.mod_eq_of_lt hn, Nat.mod_eq_of_lt hm]

/-! ### one byte more -/
theorem or_byte (n c : Nat) (hc : c < 256) : n * 256 ||| c = n * 256 + c := by
  have := Nat.shiftLeft_add_eq_or_of_lt (i := 8) hc n
  rw [Nat.shiftLeft_eq] at this
  exact this.symm
theorem acc_byte (n c : Nat) (hn : n < 72057594037927936) (hc : c < 256) : bits .or .u64 ((n : Int) * 256) (c : Int) = ((n * 256 + c : Nat) : Int) := by
  have hw : (n : Int) * 256 = ((n * 256 : Nat) : Int) := by omega
  rw [hw, bits_or_u64_nat _ _ (by omega) (by omega), or_byte _ _ hc]
/-- The byte that is written at place j, as the walk prints it. -/
theorem byte_shift (n j : Nat) : (n : Int) / 2 ^ (8 * j) % 256 = ((UInt8.ofNat (n / 256 ^ j % 256)).toNat : Int) := by
  rw [byte_nat4 (by omega), Int.natCast_emod, Int.natCast_ediv, Int.natCast_pow, Int.pow_mul]
  rfl
/-- A byte as the cell that holds it. -/
def bCell (c : UInt8) : Value := .int .u8 (c.toNat : Int)
/-- The row of 8 bytes, of which the last j are written. -/
def bRow (j n : Nat) : Array Value := ((List.replicate (8 - j) 0 ++ bEnc j n).map bCell).toArray
theorem bRow_zero (n : Nat) : bRow 0 n = #[.int .u8 0, .int .u8 0, .int .u8 0, .int .u8 0, .int .u8 0, .int .u8 0, .int .u8 0, .int .u8 0] := rfl
theorem bRow_at {j : Nat} (n : Nat) (h : j < 8) : (bRow j n)[7 - j]? = some (.int .u8 0) := by
  unfold bRow
  have e : 8 - j = (7 - j) + 1 := by omega
  rw [e, List.replicate_succ', List.append_assoc, List.getElem?_toArray, List.map_append, List.getElem?_append_right (by simp)]
  simp [bCell]
theorem bRow_step {j : Nat} (n : Nat) (h : j < 8) : (bRow j n).setIfInBounds (7 - j) (.int .u8 ((n : Int) / 2 ^ (8 * j) % 256)) = bRow (j + 1) n := by
  unfold bRow
  have e : 8 - j = (7 - j) + 1 := by omega
  have e2 : 8 - (j + 1) = 7 - j := by omega
  rw [byte_shift, e, e2, List.replicate_succ', List.append_assoc, bEnc_cons]
  generalize UInt8.ofNat (n / 256 ^ j % 256) = c
  generalize 7 - j = m
  rw [List.setIfInBounds_toArray, List.map_append, List.set_append]
  simp [bCell]
theorem bRow_end {k o i : Nat} (n : Nat) (hk : k ≤ 8) (ho : o = 8 - k ∨ (k = 0 ∧ o = 0)) (hi : i < (bEnc k n).length) : (bRow 8 n)[o + i]? = some (bCell (bEnc k n)[i]) := by
  have hl := hi
  rw [bEnc_len] at hl
  obtain rfl : o = 8 - k := by omega
  have hd := bEnc_drop k n (8 - k)
  rw [show 8 - k + k = 8 from by omega] at hd
  have h1 : (bEnc 8 n)[8 - k + i]? = some (bEnc k n)[i] := by
    rw [← List.getElem?_drop, hd, List.getElem?_eq_getElem hi]
  unfold bRow
  rw [List.getElem?_toArray, List.getElem?_map]
  show Option.map bCell (([] ++ bEnc 8 n)[8 - k + i]?) = _
  rw [List.nil_append, h1]
  rfl
end Go.Proofs.Ytmgfalkelembkaa
/-
  Contracts of layer 4's own small functions: greatest, isWidth, number, text, and the document's Width and bytes, each proved over this seat's translation.
  Conditions: a text takes at most 8 bytes; a number takes 64 bits.
-/
namespace Go.Proofs.Ytmgfalkelembkaa
open Go.RowKit
open Go.Lib (strCells strCells_length strCells_oneCell)

theorem greatest_any (w : World) (k : Int) : Calls Try.prog 70 #[.int .i64 k] w fun e w' => e = .returned (.int .u64 (fGreat k)) ∧ w = w' := by
  unfold fGreat
  have q1 : bits .or .u64 0 18446744069414584320 = 18446744069414584320 := by decide
  have q2 : bits .or .u64 18446744069414584320 4294901760 = 18446744073709486080 := by decide
  have q3 : bits .or .u64 18446744073709486080 65280 = 18446744073709551360 := by decide
  have q4 : bits .or .u64 18446744073709551360 255 = 18446744073709551615 := by decide
  have q5 : bits .or .u64 0 4294901760 = 4294901760 := by decide
  have q6 : bits .or .u64 4294901760 65280 = 4294967040 := by decide
  have q7 : bits .or .u64 4294967040 255 = 4294967295 := by decide
  have q8 : bits .or .u64 0 65280 = 65280 := by decide
  have q9 : bits .or .u64 65280 255 = 65535 := by decide
  have q0 : bits .or .u64 0 255 = 255 := by decide
  by_cases h8 : k = 8
  · subst h8
    go_enter Try.func70, Try.ntmps70
    go_wp2
    go_ret
    exact ⟨rfl, rfl⟩
  · rw [if_neg h8]
    by_cases h4 : k = 4
    · subst h4
      go_enter Try.func70, Try.ntmps70
      go_wp2
      go_ret
      exact ⟨rfl, rfl⟩
    · rw [if_neg h4]
      by_cases h2 : k = 2
      · subst h2
        go_enter Try.func70, Try.ntmps70
        go_wp2
        go_ret
        exact ⟨rfl, rfl⟩
      · rw [if_neg h2]
        by_cases h1 : k = 1
        · subst h1
          go_enter Try.func70, Try.ntmps70
          go_wp2
          go_ret
          exact ⟨rfl, rfl⟩
        · rw [if_neg h1]
          have g8 : (k == 8) = false := by simpa using h8
          have g4 : (k == 4) = false := by simpa using h4
          have g2 : (k == 2) = false := by simpa using h2
          have g1 : (k == 1) = false := by simpa using h1
          go_enter Try.func70, Try.ntmps70
          go_wp2
          go_ret
          exact ⟨rfl, rfl⟩
theorem isWidth_any (w : World) (k : Int) : Calls Try.prog 64 #[.int .i64 k] w fun e w' => e = .returned (.bool (fIs k)) ∧ w = w' := by
  have q : fIs k = decide (0 < fGreat k) := by
    unfold fIs fGreat
    by_cases h : k = 1 ∨ k = 2 ∨ k = 4 ∨ k = 8
    · rcases h with rfl | rfl | rfl | rfl <;> decide
    · rw [if_neg (by omega), if_neg (by omega), if_neg (by omega), if_neg (by omega)]
      simp [h]
  rw [q]
  go_enter Try.func64, Try.ntmps64
  go_wp2_with (go_at_call 70; refine (greatest_any w k).mono ?_; rintro e w' ⟨rfl, rfl⟩)
  go_ret
  exact ⟨rfl, rfl⟩
theorem rwidth_any (w : World) (k : Int) : Calls Try.prog 35 #[.int .i64 k] w fun e w' => e = .returned (.bool (fIs k)) ∧ w = w' := by
  by_cases h : fIs k = true
  · rw [h]
    rcases fIs_cases h with rfl | rfl | rfl | rfl <;>
    · go_enter Try.func35, Try.ntmps35
      go_wp2
      go_ret
      exact ⟨rfl, rfl⟩
  · have h' : fIs k = false := by simpa using h
    obtain ⟨h1, h2, h4, h8⟩ := fIs_not h'
    have g8 : (k == 8) = false := by simpa using h8
    have g4 : (k == 4) = false := by simpa using h4
    have g2 : (k == 2) = false := by simpa using h2
    have g1 : (k == 1) = false := by simpa using h1
    rw [h']
    go_enter Try.func35, Try.ntmps35
    go_wp2
    go_ret
    exact ⟨rfl, rfl⟩

/-- 'copy' of a string into a row of bytes of one's own. -/
theorem run_copy_str {P : Program} {w : World} (dT sT ty elem : TypeId) (hu : P.underlying dT = some (.slice elem)) (hsz : (P.info? elem).map (·.size) = some 1)
    (g off dLen dCap : Nat) (x : ByteArray) (cur : List Value) (t : TypeId) (hg : w.heap[g]? = some (.cells cur.toArray t (0, 0))) (hn : x.size ≤ dLen) (hfit : off + x.size ≤ cur.length) :
    ∃ w', (Builtin.copy_ #[dT, sT] ty #[.slice (some ⟨g, off, none⟩) dLen dCap, .string x]).run P w = .ok (goInt x.size) w' ∧
      w'.heap[g]? = some (.cells (cur.take off ++ strCells x ++ cur.drop (off + x.size)).toArray t (0, 0)) ∧ Keep1 g w w' := by
  have hst := run_storeCells_at P g off t (strCells x) 0 cur.toArray w hg (by rw [strCells_length]; simpa using hfit) (strCells_oneCell x)
  have hm : Nat.min x.size dLen = x.size := Nat.min_eq_left hn
  have htk : List.take x.size (List.map (fun b => Value.int .u8 (b.toNat : Int)) x.data.toList) = strCells x := by
    rw [List.take_of_length_le (by simp)]
    rfl
  refine ⟨w.setRow g (cur.take off ++ strCells x ++ cur.drop (off + x.size)).toArray, ?_, setRow_heap w g _ _ t _ hg, ⟨rfl, rfl, rfl, by simp [World.setRow], fun k _ hk => setRow_other w g k _ hk⟩⟩
  cases hq : P.info? elem with
  | none => simp [hq] at hsz
  | some i =>
    have hi : i.size = 1 := by simpa [hq] using hsz
    rw [strCells_length] at hst
    simp only [Nat.add_zero] at hst
    simp only [Builtin.copy_, Builtin.lenOf, Builtin.firstCells, sizeOf, typeInfo]
    simp [run_underlying hu, hq, hm]
    rw [htk, hst]
    simp
theorem run_slice8 (g : Nat) (l : Nat) (hl : l ≤ 8) : ∃ o, (o = 8 - l ∨ (l = 0 ∧ o = 0)) ∧
    ∀ W : World, (Instr.sliceAt 131 (.pointer (some ⟨g, 0, none⟩)) (some (.int .i64 (8 - (l : Int)))) none none).run Try.prog W = .ok (.slice (some ⟨g, o, none⟩) l l) W := by
  obtain ⟨i0, hi, hz0, hz1, hz2⟩ := info_parts infoU8
  have ha : Try.prog.arrayLen 131 = 8 := by kernel_rfl
  have he : Try.prog.elem 131 = 5 := by kernel_rfl
  have hs : ∀ W : World, (sizeOf 5).run Try.prog W = .ok 1 W := fun W => by simp [sizeOf, typeInfo, hi, hz1]
  have hr := fun W : World => run_sliceAt_array_l (P := Try.prog) W 131 ⟨g, 0, none⟩ (by rw [ha, he]; exact Try.underlying131) .i64 (8 - (l : Int)) (by omega) (by rw [ha]; omega)
  rw [ha, he] at hr
  have ht : (8 - (l : Int)).toNat = 8 - l := by omega
  have h8 : 8 - (8 - l) = l := by omega
  rw [ht] at hr
  by_cases h0 : l = 0
  · subst h0
    refine ⟨0, .inr ⟨rfl, rfl⟩, fun W => ?_⟩
    rw [hr, hs]
    rfl
  · refine ⟨8 - l, .inl rfl, fun W => ?_⟩
    rw [hr, hs]
    have hne : ¬ (8 = 8 - l) := by omega
    simp only [Result.andThen, slicedAt, if_neg hne, h8, add_plain, Nat.mul_one, Nat.zero_add]
theorem run_index8 (W : World) (l : List UInt8) (k : Nat) (h8 : l.length = 8) (hk : k < 8) :
    (Instr.index 131 (.agg (l.map (fun c => Value.int .u8 (c.toNat : Int))).toArray) (.int .i64 k)).run Try.prog W = .ok (.int .u8 (l[k].toNat : Int)) W := by
  obtain ⟨i0, hi, hz0, hz1, hz2⟩ := info_parts infoU8
  have hs : ∀ W : World, (sizeOf 5).run Try.prog W = .ok 1 W := fun W => by simp [sizeOf, typeInfo, hi, hz1]
  simp [Instr.index, run_underlying Try.underlying131, asIntOf, hs, part, isAgg, run_underlying Try.underlying5]
  rw [if_pos hk, List.getElem?_eq_getElem (by omega)]
  rfl
theorem pad8 (s : ByteArray) (hs : s.size ≤ 8) : ∃ c0 c1 c2 c3 c4 c5 c6 c7 : UInt8, List.replicate (8 - s.size) 0 ++ s.data.toList = [c0, c1, c2, c3, c4, c5, c6, c7] := by
  have hl : (List.replicate (8 - s.size) (0 : UInt8) ++ s.data.toList).length = 8 := by
    have : s.data.toList.length = s.size := by simp
    rw [List.length_append, List.length_replicate]
    omega
  generalize List.replicate (8 - s.size) (0 : UInt8) ++ s.data.toList = l at *
  match l, hl with
  | [c0, c1, c2, c3, c4, c5, c6, c7], _ => exact ⟨_, _, _, _, _, _, _, _, rfl⟩
set_option maxRecDepth 100000 in
theorem number_any (w : World) (s : ByteArray) (hs : s.size ≤ 8) : Calls Try.prog 65 #[.string s] w fun e w' => e = .returned (.int .u64 (bNum s.data.toList)) ∧ Keep0 w w' := by
  have hs' : (s.size : Int) ≤ 8 := by omega
  obtain ⟨o, ho, hsl⟩ := run_slice8 w.heap.size s.size hs
  obtain ⟨c0, c1, c2, c3, c4, c5, c6, c7, hp⟩ := pad8 s hs
  have kA := (Keep.refl (fun _ => False) w).alloc (.cells #[.int .u8 0, .int .u8 0, .int .u8 0, .int .u8 0, .int .u8 0, .int .u8 0, .int .u8 0, .int .u8 0] 131)
  obtain ⟨W1, hcp, hW1, k1⟩ := run_copy_str (P := Try.prog) (w := w.alloc (.cells #[.int .u8 0, .int .u8 0, .int .u8 0, .int .u8 0, .int .u8 0, .int .u8 0, .int .u8 0, .int .u8 0] 131)) 44 9 3 5 Try.underlying44 (by kernel_rfl) w.heap.size o s.size s.size s (List.replicate 8 (.int .u8 0)) 131 (MapKept.heap_alloc w _).1 (Nat.le_refl _) (by simp; omega)
  have hK : Keep0 w W1 := kA.step1 k1 (Nat.le_refl _)
  have hrow : (List.replicate 8 (Value.int .u8 0)).take o ++ strCells s ++ (List.replicate 8 (Value.int .u8 0)).drop (o + s.size) = [c0, c1, c2, c3, c4, c5, c6, c7].map (fun c => Value.int .u8 (c.toNat : Int)) := by
    rw [← hp, List.map_append, List.map_replicate]
    have e1 : s.data.toList.map (fun c => Value.int .u8 (c.toNat : Int)) = strCells s := rfl
    rw [e1, List.take_replicate, List.drop_replicate]
    rcases ho with ho | ⟨h0, ho⟩
    · have e2 : 8 - (o + s.size) = 0 := by omega
      have e3 : min o 8 = 8 - s.size := by omega
      rw [e2, e3]
      simp
    · have e4 : strCells s = [] := List.eq_nil_of_length_eq_zero (by rw [strCells_length]; exact h0)
      rw [e4, ho, h0]
      simp
  rw [hrow] at hW1
  have hn : bNum s.data.toList = bNum [c0, c1, c2, c3, c4, c5, c6, c7] := by rw [← hp, bNum_zeros]
  rw [hn]
  clear hrow hn hp ho k1 kA
  have a0 : W1.cell? ⟨w.heap.size, 0, none⟩ = some (.int .u8 c0.toNat) := by simp [World.cell?, hW1]
  have a1 : W1.cell? ⟨w.heap.size, 1, none⟩ = some (.int .u8 c1.toNat) := by simp [World.cell?, hW1]
  have a2 : W1.cell? ⟨w.heap.size, 2, none⟩ = some (.int .u8 c2.toNat) := by simp [World.cell?, hW1]
  have a3 : W1.cell? ⟨w.heap.size, 3, none⟩ = some (.int .u8 c3.toNat) := by simp [World.cell?, hW1]
  have a4 : W1.cell? ⟨w.heap.size, 4, none⟩ = some (.int .u8 c4.toNat) := by simp [World.cell?, hW1]
  have a5 : W1.cell? ⟨w.heap.size, 5, none⟩ = some (.int .u8 c5.toNat) := by simp [World.cell?, hW1]
  have a6 : W1.cell? ⟨w.heap.size, 6, none⟩ = some (.int .u8 c6.toNat) := by simp [World.cell?, hW1]
  have a7 : W1.cell? ⟨w.heap.size, 7, none⟩ = some (.int .u8 c7.toNat) := by simp [World.cell?, hW1]
  clear hW1
  go_enter Try.func65, Try.ntmps65
  go_wp2
  generalize hl : [c0, c1, c2, c3, c4, c5, c6, c7] = l
  have hll : l.length = 8 := by rw [← hl]; rfl
  have hA : #[Value.int IntKind.u8 (c0.toNat : Int), .int .u8 c1.toNat, .int .u8 c2.toNat, .int .u8 c3.toNat, .int .u8 c4.toNat, .int .u8 c5.toNat, .int .u8 c6.toNat, .int .u8 c7.toNat] = (l.map (fun c => Value.int .u8 (c.toNat : Int))).toArray := by rw [← hl]; rfl
  rw [hA]
  clear hA a0 a1 a2 a3 a4 a5 a6 a7 hsl hcp
  go_loopw [4, 14] (fun n i wr => ∃ (k N : Nat), k ≤ 8 ∧ n = .int .u64 N ∧ N = bNum (l.take k) ∧ i = .int .i64 k ∧ wr = W1) (fun _ i _ => 8 - (intOf i).toNat)
  case atStart => exact ⟨0, 0, by omega, rfl, rfl, rfl, rfl⟩
  case round =>
    obtain ⟨k, N, hk, rfl, hN, rfl, rfl⟩ := hrel
    by_cases hlt : k < 8
    · have hix := run_index8 wr l k hll hlt
      have hN' : bNum (l.take (k + 1)) = N * 256 + l[k].toNat := by rw [bNum_take, ← hN]
      have hN7 : N < 72057594037927936 := by rw [hN]; exact bNum_le7 (by rw [List.length_take]; omega)
      generalize l[k] = c at *
      have hc : c.toNat < 256 := c.toNat_lt
      have HN : Hid (bNum (l.take (k + 1)) = N * 256 + c.toNat) := hN'
      clear hN hN'
      go_wp2
      go_roundw
      case rel => exact ⟨k + 1, N * 256 + c.toNat, by omega, by rw [acc_byte N c.toNat hN7 hc], HN.out.symm, by go_num, trivial⟩
      case measure => simp [intOf]; omega
    · go_wp2
      go_ret
      refine ⟨?_, hK⟩
      rw [hl, hN, List.take_of_length_le (by omega)]
      rfl
end Go.Proofs.Ytmgfalkelembkaa
/-
  Contracts of layer 4's Encode and Put, and of the document's bytes and Put, each proved over this seat's translation.
  Conditions: a number takes 64 bits.
-/
namespace Go.Proofs.Ytmgfalkelembkaa
open Go.RowKit

/-- What Encode answers: the text, the error. -/
def eErr (k : Int) (n : Nat) : Int := if fIs k = true then (if fGreat k < n then 5 else 0) else 1
def eText (k : Int) (n : Nat) : ByteArray := if eErr k n = 0 then bText k.toNat n else ⟨#[]⟩
theorem eErr_none {k : Int} {n : Nat} (h : fIs k = false) : eErr k n = 1 := by unfold eErr; rw [h]; rfl
theorem eErr_over {k : Int} {n : Nat} (h : fIs k = true) (h1 : fGreat k < n) : eErr k n = 5 := by unfold eErr; rw [if_pos h, if_pos h1]
theorem eErr_ok {k : Int} {n : Nat} (h : fIs k = true) (h1 : ¬ fGreat k < n) : eErr k n = 0 := by unfold eErr; rw [if_pos h, if_neg h1]
theorem eText_no {k : Int} {n : Nat} (h : eErr k n ≠ 0) : eText k n = ⟨#[]⟩ := if_neg h
theorem eText_yes {k : Int} {n : Nat} (h : eErr k n = 0) : eText k n = bText k.toNat n := if_pos h
theorem eText_size (k : Int) (n : Nat) : (eText k n).size ≤ 8 := by
  by_cases h : eErr k n = 0
  · rw [eText_yes h, bText_size]
    have h1 : fIs k = true := by
      cases hf : fIs k with
      | true => rfl
      | false => rw [eErr_none hf] at h; exact absurd h (by decide)
    obtain ⟨j, rfl, hj1, hj8⟩ := fIs_nat h1
    omega
  · rw [eText_no h]
    decide
/-! ### the document's own -/
theorem run_one4 {src dst : TypeId} (hs : Try.prog.underlying src = some (.slice 5)) (hd : Try.prog.underlying dst = some .string) (W : World) (g : Nat) (c : UInt8) (x : Int) (hx : (c.toNat : Int) = x)
    (hc : W.cell? ⟨g, 0, none⟩ = some (.int .u8 x)) : (convert src dst (.slice (some ⟨g, 0, none⟩) 1 1)).run Try.prog W = .ok (.string (one c)) W := by
  have h := run_convert_bytes_back (P := Try.prog) W src dst 5 ⟨g, 0, none⟩ 1 [c] hs Try.underlying5 hd (fun j hj => by
    obtain rfl : j = 0 := by simpa using hj
    subst hx
    exact hc)
  exact h
theorem bText_cons (j n : Nat) : bText (j + 1) n = one (UInt8.ofNat (n / 256 ^ j % 256)) ++ bText j n := by
  apply ByteArray.ext
  unfold bText
  rw [bEnc_cons, ByteArray.data_append]
  apply Array.ext'
  simp [one]
set_option maxRecDepth 100000 in
theorem rbytes4_any (w : World) (k n : Nat) (hk : k ≤ 8) (hn : n < 18446744073709551616) :
    Calls Try.prog 37 #[.int .i64 k, .int .u64 n] w fun e w' => e = .returned (.tuple #[.string (bText k n), .int .u64 (n / 256 ^ k : Nat)]) ∧ Keep0 w w' := by
  go_enter Try.func37, Try.ntmps37
  go_wp2_with fail
  go_loopw [1, 6, 7] (fun v s i wr => ∃ (j N : Nat), j ≤ k ∧ v = .int .u64 N ∧ N = n / 256 ^ j ∧ s = .string (bText j n) ∧ i = .int .i64 j ∧ Keep0 w wr) (fun _ _ i _ => k - (intOf i).toNat)
  case atStart => exact ⟨0, n, by omega, rfl, by simp, rfl, rfl, Keep.refl _ _⟩
  case round =>
    obtain ⟨j, N, hj, rfl, hN, rfl, rfl, hK⟩ := hrel
    have hNn : N < 18446744073709551616 := by rw [hN]; exact Nat.lt_of_le_of_lt (Nat.div_le_self _ _) hn
    by_cases hlt : j < k
    · have hb := bText_cons j n
      rw [← hN] at hb
      have hdv : N / 256 = n / 256 ^ (j + 1) := by rw [hN, Nat.div_div_eq_div_mul, Nat.pow_succ]
      have hcn : ((UInt8.ofNat (N % 256)).toNat : Int) = (N : Int) % 256 := by rw [byte_nat4 (by omega)]; omega
      generalize UInt8.ofNat (N % 256) = c at *
      have hcv := run_one4 (src := 44) (dst := 9) Try.underlying44 Try.underlying9 (wr.alloc (.cells #[.int .u8 ((N : Int) % 256)] 5)) wr.heap.size c _ hcn (cell_alloc wr _ rfl)
      have hsz : (one c).size + (bText j n).size ≤ 4611686018427387904 := by rw [one_size, bText_size]; omega
      have HB : Hid (bText (j + 1) n = one c ++ bText j n) := hb
      have HD : Hid (N / 256 = n / 256 ^ (j + 1)) := hdv
      clear hb hdv hcn hN
      go_wp2
      go_roundw
      case rel => exact ⟨j + 1, N / 256, by omega, by go_num, HD.out, by rw [HB.out], by go_num, hK.alloc _⟩
      case measure => simp [intOf]; omega
    · obtain rfl : j = k := by omega
      have HN : Hid (N = n / 256 ^ j) := hN
      clear hN
      go_wp2
      go_ret2
      refine ⟨?_, hK⟩
      rw [← HN.out]
      rfl

/-! ### Put -/
/-- What writing one number comes to; what the width leaves; what writing numbers comes to. -/
def pPut (m k : Int) (p : ByteArray × Int) (n : Nat) : ByteArray × Int := pOne m (p.1, pFail p.2 (eErr k n)) (eText k n)
def pStart (k x : Int) : Int := if fIs k = true then x else pFail x 1
def pPuts (m k : Int) (p : ByteArray × Int) (ns : List Nat) : ByteArray × Int := ns.foldl (pPut m k) p
theorem pFail_ne {x y : Int} (h : y ≠ 0) : pFail x y ≠ 0 := by unfold pFail; split <;> assumption
theorem pFail_z (x : Int) : pFail x 0 = x := by unfold pFail; split <;> omega
theorem pPut_err {m k : Int} {t : ByteArray} {x : Int} {n : Nat} (h : eErr k n ≠ 0) : pPut m k (t, x) n = (t, pFail x (eErr k n)) := pOne_err (pFail_ne h)
theorem pPut_ok {m k : Int} {t : ByteArray} {x : Int} {n : Nat} (h : eErr k n = 0) : pPut m k (t, x) n = pOne m (t, x) (bText k.toNat n) := by
  unfold pPut
  rw [h, pFail_z, eText_yes h]
theorem pPuts_take (m k : Int) (p : ByteArray × Int) (ns : List Nat) (i : Nat) (h : i < ns.length) : pPuts m k p (ns.take (i + 1)) = pPut m k (pPuts m k p (ns.take i)) ns[i] := by
  unfold pPuts
  rw [List.take_succ_eq_append_getElem h, List.foldl_append]
  rfl
theorem pOne_size4 (m : Int) (t : ByteArray) (x : Int) (s : ByteArray) : (pOne m (t, x) s).1.size ≤ t.size + s.size := by
  have := pAll_size m [s] (t, x)
  simpa [pAll] using this
theorem pPuts_size (m k : Int) : ∀ (ns : List Nat) (p : ByteArray × Int), (pPuts m k p ns).1.size ≤ p.1.size + 8 * ns.length
  | [], _ => Nat.le_refl _
  | n :: ns, p => by
    have h := pPuts_size m k ns (pPut m k p n)
    have h1 : (pPut m k p n).1.size ≤ p.1.size + (eText k n).size := pOne_size4 _ _ _ _
    have h2 := eText_size k n
    have h3 : pPuts m k p (n :: ns) = pPuts m k (pPut m k p n) ns := rfl
    rw [h3, List.length_cons]
    omega
theorem fGreat_div {j n : Nat} (hf : fIs (j : Int) = true) : fGreat (j : Int) < n ↔ 0 < n / 256 ^ j := by
  rw [fGreat_pow hf]
  have hj : ((j : Int)).toNat = j := rfl
  have hp : 0 < 256 ^ j := Nat.pow_pos (by decide)
  rw [hj]
  rw [Nat.div_pos_iff]
  omega
set_option maxRecDepth 100000 in
theorem rput4_any {w : World} {b : Nat} {t : ByteArray} {m x : Int} (k : Int) (n : Nat) (hn : n < 18446744073709551616) (h : RPen w b t m x) (ht : t.size ≤ 140737488355328) :
    Calls Try.prog 27 #[pptr b, .int .i64 k, .int .u64 n] w fun e w' => e = .returned (.tuple #[]) ∧ RPen w' b (pPut m k (t, x) n).1 m (pPut m k (t, x) n).2 ∧ Keep1 b w w' := by
  cases hf : fIs k with
  | false =>
    have e1 := eErr_none (n := n) hf
    rw [pPut_err (by rw [e1]; decide), e1]
    go_enter Try.func27, Try.ntmps27
    go_wp2_with (first | (go_at_call 35; refine (rwidth_any w k).mono ?_; rw [hf]; rintro e w' ⟨rfl, rfl⟩) | (go_at_call 36; refine (rpfail_any 1 h).mono ?_; rintro e w1 ⟨rfl, hp1, k1⟩))
    refine bodyPost_ret (results_none rfl _ _ _) rfl ?_
    exact ⟨rfl, hp1, k1⟩
  | true =>
    obtain ⟨j, rfl, hj1, hj8⟩ := fIs_nat hf
    have hj : ((j : Int)).toNat = j := rfl
    have hd := fGreat_div (n := n) hf
    have hby := fun W => rbytes4_any W j n hj8 hn
    by_cases ho : fGreat (j : Int) < n
    · have e1 := eErr_over hf ho
      rw [pPut_err (by rw [e1]; decide), e1]
      have hmore : (0 : Int) < ((n / 256 ^ j : Nat) : Int) := by have := hd.1 ho; omega
      clear hd e1
      generalize n / 256 ^ j = M at *
      go_enter Try.func27, Try.ntmps27
      go_wp2_with (first | (go_at_call 35; refine (rwidth_any w j).mono ?_; rw [hf]; rintro e w' ⟨rfl, rfl⟩) | (go_at_call 37; refine (hby w).mono ?_; rintro e w1 ⟨rfl, k1⟩) | (go_at_call 36; refine (rpfail_any 5 (h.keep0 k1)).mono ?_; rintro e w2 ⟨rfl, hp2, k2⟩))
      refine bodyPost_ret (results_none rfl _ _ _) rfl ?_
      exact ⟨rfl, hp2, k1.any.trans k2⟩
    · have e1 := eErr_ok hf ho
      rw [pPut_ok e1, hj]
      have hmore : n / 256 ^ j = 0 := Nat.eq_zero_of_not_pos (fun h => ho (hd.2 h))
      rw [hmore] at hby
      have hbs : t.size + (bText j n).size ≤ 4611686018427387904 := by rw [bText_size]; omega
      clear hd e1 hmore
      go_enter Try.func27, Try.ntmps27
      go_wp2_with (first | (go_at_call 35; refine (rwidth_any w j).mono ?_; rw [hf]; rintro e w' ⟨rfl, rfl⟩) | (go_at_call 37; refine (hby w).mono ?_; rintro e w1 ⟨rfl, k1⟩) | (go_at_call 38; refine (rptext_any (bText j n) (h.keep0 k1) hbs).mono ?_; rintro e w2 ⟨rfl, hp2, k2⟩))
      go_end0
      exact ⟨rfl, hp2, k1.any.trans k2⟩
end Go.Proofs.Ytmgfalkelembkaa
/-
  Contracts of layer 4's Take and Decode, and of the document's own, each proved over this seat's translation.
  Conditions: a text takes at most the greatest length that a string may have.
-/
namespace Go.Proofs.Ytmgfalkelembkaa
open Go.RowKit
open Go.PlainAid (bt get_bt bt_nonneg bt_le)

/-- What Take answers; the place then; the error then. -/
def fNum (s : ByteArray) (a x k : Int) : Nat := if fIs k = true then bNum (cBytes s a x k).data.toList else 0
def fAt (s : ByteArray) (a x k : Int) : Int := if fIs k = true then cAt s a x k else a
def fErr (s : ByteArray) (a x k : Int) : Int := if fIs k = true then cErr s a x k else cFail x 1
theorem fTake_no {s : ByteArray} {a x k : Int} (h : fIs k = false) : fNum s a x k = 0 ∧ fAt s a x k = a ∧ fErr s a x k = cFail x 1 := by
  unfold fNum fAt fErr
  rw [h]
  exact ⟨rfl, rfl, rfl⟩
theorem fTake_yes {s : ByteArray} {a x k : Int} (h : fIs k = true) : fNum s a x k = bNum (cBytes s a x k).data.toList ∧ fAt s a x k = cAt s a x k ∧ fErr s a x k = cErr s a x k := by
  unfold fNum fAt fErr
  rw [h]
  exact ⟨rfl, rfl, rfl⟩
theorem cBytes_size {s : ByteArray} {a x k : Int} (h0 : 0 ≤ a) (hk : k ≤ 8) : (cBytes s a x k).size ≤ 8 := by
  unfold cBytes
  split
  · unfold cut
    rw [ByteArray.size_extract]
    omega
  · decide
set_option maxRecDepth 100000 in
theorem take4_any {w : World} {b : Nat} {s : ByteArray} {a x : Int} (k : Int) (h : Cur w b s a x) :
    Calls Try.prog 56 #[ptr b, .int .i64 k] w fun e w' => e = .returned (.int .u64 (fNum s a x k)) ∧ Cur w' b s (fAt s a x k) (fErr s a x k) ∧ Keep1 b w w' := by
  cases hf : fIs k with
  | false =>
    obtain ⟨e1, e2, e3⟩ := fTake_no (s := s) (a := a) (x := x) hf
    rw [e1, e2, e3]
    go_enter Try.func56, Try.ntmps56
    go_wp2_with (first | (go_at_call 64; refine (isWidth_any w k).mono ?_; rw [hf]; rintro e w' ⟨rfl, rfl⟩) | (go_at_call 58; refine (fail_any 1 h).mono ?_; rintro e w1 ⟨rfl, h1, k1⟩))
    go_ret
    exact ⟨rfl, h1, k1⟩
  | true =>
    obtain ⟨e1, e2, e3⟩ := fTake_yes (s := s) (a := a) (x := x) hf
    rw [e1, e2, e3]
    clear e1 e2 e3
    have hsz := cBytes_size (s := s) (x := x) h.lo (by rcases fIs_cases hf with rfl | rfl | rfl | rfl <;> decide : k ≤ 8)
    have hby := fun W (h : Cur W b s a x) => bytes_any k h
    generalize cBytes s a x k = t at *
    go_enter Try.func56, Try.ntmps56
    go_wp2_with (first | (go_at_call 64; refine (isWidth_any w k).mono ?_; rw [hf]; rintro e w' ⟨rfl, rfl⟩) | (go_at_call 61; refine (hby w h).mono ?_; rintro e w1 ⟨rfl, h1, k1⟩) | (go_at_call 65; refine (number_any w1 t hsz).mono ?_; rintro e w2 ⟨rfl, k2⟩))
    go_ret
    exact ⟨rfl, h1.keep0 k2, k1.step0 k2⟩
set_option maxRecDepth 100000 in
theorem take4_nil (w : World) (k : Int) (hf : fIs k = true) :
    Calls Try.prog 56 #[.pointer none, .int .i64 k] w fun e w' => e = .returned (.int .u64 0) ∧ Keep0 w w' := by
  go_enter Try.func56, Try.ntmps56
  go_wp2_with (first | (go_at_call 64; refine (isWidth_any w k).mono ?_; rw [hf]; rintro e w' ⟨rfl, rfl⟩) | (go_at_call 61; refine (bytes_nil k w).mono ?_; rintro e w' ⟨rfl, rfl⟩) | (go_at_call 65; refine (number_any w ⟨#[]⟩ (by decide)).mono ?_; rintro e w2 ⟨rfl, k2⟩))
  go_ret
  exact ⟨rfl, k2⟩

/-! ### the document's own -/
set_option maxRecDepth 100000 in
theorem rtake4_any {w : World} {b : Nat} {s : ByteArray} {a x : Int} (k : Int) (h : Cur w b s a x) :
    Calls Try.prog 44 #[ptr b, .int .i64 k] w fun e w' => e = .returned (.int .u64 (fNum s a x k)) ∧ Cur w' b s (fAt s a x k) (fErr s a x k) ∧ Keep1 b w w' := by
  obtain ⟨h0, h1, h2, h3, h4⟩ := h.cells
  by_cases hx : x = 0
  · subst hx
    cases hf : fIs k with
    | false =>
      obtain ⟨e1, e2, e3⟩ := fTake_no (s := s) (a := a) (x := 0) hf
      rw [e1, e2, e3]
      clear e1 e2 e3
      go_enter Try.func44, Try.ntmps44
      go_wp2_with (go_at_call 35; refine (rwidth_any w k).mono ?_; rw [hf]; rintro e w' ⟨rfl, rfl⟩)
      go_ret
      exact ⟨rfl, h.setErr 1, (Keep.refl _ _).set1 _ _⟩
    | true =>
      obtain ⟨e1, e2, e3⟩ := fTake_yes (s := s) (a := a) (x := 0) hf
      rw [e1, e2, e3]
      clear e1 e2 e3
      have hsz := cBytes_size (s := s) (x := 0) h.lo (by rcases fIs_cases hf with rfl | rfl | rfl | rfl <;> decide : k ≤ 8)
      have hby := fun W (h : Cur W b s a 0) => rbytes_any k h
      generalize cBytes s a 0 k = t at *
      go_enter Try.func44, Try.ntmps44
      go_wp2_with (first | (go_at_call 35; refine (rwidth_any w k).mono ?_; rw [hf]; rintro e w' ⟨rfl, rfl⟩) | (go_at_call 49; refine (hby w h).mono ?_; rintro e w1 ⟨rfl, hc1, k1⟩))
      have hll : t.data.toList.length = t.size := by simp
      have hsz' : (t.size : Int) ≤ 8 := by omega
      have hget := get_bt t
      go_loopw [6, 7] (fun n i wr => ∃ (j N : Nat), j ≤ t.size ∧ n = .int .u64 N ∧ N = bNum (t.data.toList.take j) ∧ i = .int .i64 j ∧ wr = w1) (fun _ i _ => t.size - (intOf i).toNat)
      case atStart => exact ⟨0, 0, by omega, rfl, rfl, rfl, rfl⟩
      case round =>
        obtain ⟨j, N, hj, rfl, hN, rfl, rfl⟩ := hrel
        by_cases hlt : j < t.size
        · have hbt : bt t j = (t.data.toList[j].toNat : Int) := by rw [← hget j hlt]; rfl
          have hN' : bNum (t.data.toList.take (j + 1)) = N * 256 + t.data.toList[j].toNat := by rw [bNum_take, ← hN]
          have hN7 : N < 72057594037927936 := by rw [hN]; exact bNum_le7 (by rw [List.length_take]; omega)
          generalize t.data.toList[j] = c at *
          have hc : c.toNat < 256 := c.toNat_lt
          have HN : Hid (bNum (t.data.toList.take (j + 1)) = N * 256 + c.toNat) := hN'
          clear hN hN'
          go_wp2
          go_roundw
          case rel => exact ⟨j + 1, N * 256 + c.toNat, by omega, by go_num, HN.out.symm, by go_num, trivial⟩
          case measure => simp [intOf]; omega
        · have HN : Hid (N = bNum t.data.toList) := by rw [List.take_of_length_le (by omega)] at hN; exact hN
          clear hN
          go_wp2
          go_ret
          refine ⟨?_, hc1, k1⟩
          rw [← HN.out]
          rfl
  · have hx1 : (x == 0) = false := by simpa using hx
    have hx2 : (x != 0) = true := by simpa using hx
    have hq : fNum s a x k = 0 ∧ fAt s a x k = a ∧ fErr s a x k = x := by
      cases hf : fIs k with
      | false =>
        obtain ⟨e1, e2, e3⟩ := fTake_no (s := s) (a := a) (x := x) hf
        rw [e1, e2, e3]
        exact ⟨rfl, rfl, if_neg hx⟩
      | true =>
        obtain ⟨e1, e2, e3⟩ := fTake_yes (s := s) (a := a) (x := x) hf
        rw [e1, e2, e3]
        unfold cBytes cAt cErr
        rw [if_neg (fun h => hx h.1), if_neg (fun h => hx h.1), if_pos hx]
        exact ⟨rfl, rfl, rfl⟩
    obtain ⟨e1, e2, e3⟩ := hq
    rw [e1, e2, e3]
    clear e1 e2 e3
    go_enter Try.func44, Try.ntmps44
    go_wp2
    go_ret
    exact ⟨rfl, h, Keep.refl _ _⟩
end Go.Proofs.Ytmgfalkelembkaa
