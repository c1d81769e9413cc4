/-
  Contracts of layer 4's own small functions: greatest, isWidth, number, text, and the document's Width and bytes, each proved over this seat's translation.
  Conditions: a text takes at most 8 bytes; a number takes 64 bits.
-/
import Derived.Test.YtaleennijfefnaaGreatCursor
import Derived.Test.YtaleennijfefnaaGreatPenWrite
import Derived.Test.YtaleennijfefnaaGreatFix
import Derived.Laws.CopyRow
namespace Go.Proofs.YtaleennijfefnaaGreat
open Go.RowKit
open Go.Lib (strCells strCells_length strCells_oneCell)

theorem greatest_any (w : World) (k : Int) : Calls Tryz.prog 64 #[.int .i64 k] w fun e w' => e = .returned (.int .u64 (fGreat k)) ∧ w = w' := by
  unfold fGreat
  have q1 : bits .or .u64 0 18446744069414584320 = 18446744069414584320 := by decide
  have q2 : bits .or .u64 18446744069414584320 4294901760 = 18446744073709486080 := by decide
  have q3 : bits .or .u64 18446744073709486080 65280 = 18446744073709551360 := by decide
  have q4 : bits .or .u64 18446744073709551360 255 = 18446744073709551615 := by decide
  have q5 : bits .or .u64 0 4294901760 = 4294901760 := by decide
  have q6 : bits .or .u64 4294901760 65280 = 4294967040 := by decide
  have q7 : bits .or .u64 4294967040 255 = 4294967295 := by decide
  have q8 : bits .or .u64 0 65280 = 65280 := by decide
  have q9 : bits .or .u64 65280 255 = 65535 := by decide
  have q0 : bits .or .u64 0 255 = 255 := by decide
  by_cases h8 : k = 8
  · subst h8
    go_enter Tryz.func64, Tryz.ntmps64
    go_wp2
    go_ret
    exact ⟨rfl, rfl⟩
  · rw [if_neg h8]
    by_cases h4 : k = 4
    · subst h4
      go_enter Tryz.func64, Tryz.ntmps64
      go_wp2
      go_ret
      exact ⟨rfl, rfl⟩
    · rw [if_neg h4]
      by_cases h2 : k = 2
      · subst h2
        go_enter Tryz.func64, Tryz.ntmps64
        go_wp2
        go_ret
        exact ⟨rfl, rfl⟩
      · rw [if_neg h2]
        by_cases h1 : k = 1
        · subst h1
          go_enter Tryz.func64, Tryz.ntmps64
          go_wp2
          go_ret
          exact ⟨rfl, rfl⟩
        · rw [if_neg h1]
          have g8 : (k == 8) = false := by simpa using h8
          have g4 : (k == 4) = false := by simpa using h4
          have g2 : (k == 2) = false := by simpa using h2
          have g1 : (k == 1) = false := by simpa using h1
          go_enter Tryz.func64, Tryz.ntmps64
          go_wp2
          go_ret
          exact ⟨rfl, rfl⟩
theorem isWidth_any (w : World) (k : Int) : Calls Tryz.prog 63 #[.int .i64 k] w fun e w' => e = .returned (.bool (fIs k)) ∧ w = w' := by
  have q : fIs k = decide (0 < fGreat k) := by
    unfold fIs fGreat
    by_cases h : k = 1 ∨ k = 2 ∨ k = 4 ∨ k = 8
    · rcases h with rfl | rfl | rfl | rfl <;> decide
    · rw [if_neg (by omega), if_neg (by omega), if_neg (by omega), if_neg (by omega)]
      simp [h]
  rw [q]
  go_enter Tryz.func63, Tryz.ntmps63
  go_wp2_with (go_at_call 64; refine (greatest_any w k).mono ?_; rintro e w' ⟨rfl, rfl⟩)
  go_ret
  exact ⟨rfl, rfl⟩
theorem rwidth_any (w : World) (k : Int) : Calls Tryz.prog 45 #[.int .i64 k] w fun e w' => e = .returned (.bool (fIs k)) ∧ w = w' := by
  by_cases h : fIs k = true
  · rw [h]
    rcases fIs_cases h with rfl | rfl | rfl | rfl <;>
    · go_enter Tryz.func45, Tryz.ntmps45
      go_wp2
      go_ret
      exact ⟨rfl, rfl⟩
  · have h' : fIs k = false := by simpa using h
    obtain ⟨h1, h2, h4, h8⟩ := fIs_not h'
    have g8 : (k == 8) = false := by simpa using h8
    have g4 : (k == 4) = false := by simpa using h4
    have g2 : (k == 2) = false := by simpa using h2
    have g1 : (k == 1) = false := by simpa using h1
    rw [h']
    go_enter Tryz.func45, Tryz.ntmps45
    go_wp2
    go_ret
    exact ⟨rfl, rfl⟩

/-- 'copy' of a string into a row of bytes of one's own. -/
theorem run_copy_str {P : Program} {w : World} (dT sT ty elem : TypeId) (hu : P.underlying dT = some (.slice elem)) (hsz : (P.info? elem).map (·.size) = some 1)
    (g off dLen dCap : Nat) (x : ByteArray) (cur : List Value) (t : TypeId) (hg : w.heap[g]? = some (.cells cur.toArray t (0, 0))) (hn : x.size ≤ dLen) (hfit : off + x.size ≤ cur.length) :
    ∃ w', (Builtin.copy_ #[dT, sT] ty #[.slice (some ⟨g, off, none⟩) dLen dCap, .string x]).run P w = .ok (goInt x.size) w' ∧
      w'.heap[g]? = some (.cells (cur.take off ++ strCells x ++ cur.drop (off + x.size)).toArray t (0, 0)) ∧ Keep1 g w w' := by
  have hst := run_storeCells_at P g off t (strCells x) 0 cur.toArray w hg (by rw [strCells_length]; simpa using hfit) (strCells_oneCell x)
  have hm : Nat.min x.size dLen = x.size := Nat.min_eq_left hn
  have htk : List.take x.size (List.map (fun b => Value.int .u8 (b.toNat : Int)) x.data.toList) = strCells x := by
    rw [List.take_of_length_le (by simp)]
    rfl
  refine ⟨w.setRow g (cur.take off ++ strCells x ++ cur.drop (off + x.size)).toArray, ?_, setRow_heap w g _ _ t _ hg, ⟨rfl, rfl, rfl, by simp [World.setRow], fun k _ hk => setRow_other w g k _ hk⟩⟩
  cases hq : P.info? elem with
  | none => simp [hq] at hsz
  | some i =>
    have hi : i.size = 1 := by simpa [hq] using hsz
    rw [strCells_length] at hst
    simp only [Nat.add_zero] at hst
    simp only [Builtin.copy_, Builtin.lenOf, Builtin.firstCells, sizeOf, typeInfo]
    simp [run_underlying hu, hq, hm]
    rw [htk, hst]
    simp
theorem run_slice8 (g : Nat) (l : Nat) (hl : l ≤ 8) : ∃ o, (o = 8 - l ∨ (l = 0 ∧ o = 0)) ∧
    ∀ W : World, (Instr.sliceAt 138 (.pointer (some ⟨g, 0, none⟩)) (some (.int .i64 (8 - (l : Int)))) none none).run Tryz.prog W = .ok (.slice (some ⟨g, o, none⟩) l l) W := by
  obtain ⟨i0, hi, hz0, hz1, hz2⟩ := info_parts infoU8
  have ha : Tryz.prog.arrayLen 138 = 8 := by kernel_rfl
  have he : Tryz.prog.elem 138 = 5 := by kernel_rfl
  have hs : ∀ W : World, (sizeOf 5).run Tryz.prog W = .ok 1 W := fun W => by simp [sizeOf, typeInfo, hi, hz1]
  have hr := fun W : World => run_sliceAt_array_l (P := Tryz.prog) W 138 ⟨g, 0, none⟩ (by rw [ha, he]; exact Tryz.underlying138) .i64 (8 - (l : Int)) (by omega) (by rw [ha]; omega)
  rw [ha, he] at hr
  have ht : (8 - (l : Int)).toNat = 8 - l := by omega
  have h8 : 8 - (8 - l) = l := by omega
  rw [ht] at hr
  by_cases h0 : l = 0
  · subst h0
    refine ⟨0, .inr ⟨rfl, rfl⟩, fun W => ?_⟩
    rw [hr, hs]
    rfl
  · refine ⟨8 - l, .inl rfl, fun W => ?_⟩
    rw [hr, hs]
    have hne : ¬ (8 = 8 - l) := by omega
    simp only [Result.andThen, slicedAt, if_neg hne, h8, add_plain, Nat.mul_one, Nat.zero_add]
theorem run_index8 (W : World) (l : List UInt8) (k : Nat) (h8 : l.length = 8) (hk : k < 8) :
    (Instr.index 138 (.agg (l.map (fun c => Value.int .u8 (c.toNat : Int))).toArray) (.int .i64 k)).run Tryz.prog W = .ok (.int .u8 (l[k].toNat : Int)) W := by
  obtain ⟨i0, hi, hz0, hz1, hz2⟩ := info_parts infoU8
  have hs : ∀ W : World, (sizeOf 5).run Tryz.prog W = .ok 1 W := fun W => by simp [sizeOf, typeInfo, hi, hz1]
  simp [Instr.index, run_underlying Tryz.underlying138, asIntOf, hs, part, isAgg, run_underlying Tryz.underlying5]
  rw [if_pos hk, List.getElem?_eq_getElem (by omega)]
  rfl
theorem pad8 (s : ByteArray) (hs : s.size ≤ 8) : ∃ c0 c1 c2 c3 c4 c5 c6 c7 : UInt8, List.replicate (8 - s.size) 0 ++ s.data.toList = [c0, c1, c2, c3, c4, c5, c6, c7] := by
  have hl : (List.replicate (8 - s.size) (0 : UInt8) ++ s.data.toList).length = 8 := by
    have : s.data.toList.length = s.size := by simp
    rw [List.length_append, List.length_replicate]
    omega
  generalize List.replicate (8 - s.size) (0 : UInt8) ++ s.data.toList = l at *
  match l, hl with
  | [c0, c1, c2, c3, c4, c5, c6, c7], _ => exact ⟨_, _, _, _, _, _, _, _, rfl⟩
set_option maxRecDepth 100000 in
theorem number_any (w : World) (s : ByteArray) (hs : s.size ≤ 8) : Calls Tryz.prog 75 #[.string s] w fun e w' => e = .returned (.int .u64 (bNum s.data.toList)) ∧ Keep0 w w' := by
  have hs' : (s.size : Int) ≤ 8 := by omega
  obtain ⟨o, ho, hsl⟩ := run_slice8 w.heap.size s.size hs
  obtain ⟨c0, c1, c2, c3, c4, c5, c6, c7, hp⟩ := pad8 s hs
  have kA := (Keep.refl (fun _ => False) w).alloc (.cells #[.int .u8 0, .int .u8 0, .int .u8 0, .int .u8 0, .int .u8 0, .int .u8 0, .int .u8 0, .int .u8 0] 138)
  obtain ⟨W1, hcp, hW1, k1⟩ := run_copy_str (P := Tryz.prog) (w := w.alloc (.cells #[.int .u8 0, .int .u8 0, .int .u8 0, .int .u8 0, .int .u8 0, .int .u8 0, .int .u8 0, .int .u8 0] 138)) 58 9 3 5 Tryz.underlying58 (by kernel_rfl) w.heap.size o s.size s.size s (List.replicate 8 (.int .u8 0)) 138 (MapKept.heap_alloc w _).1 (Nat.le_refl _) (by simp; omega)
  have hK : Keep0 w W1 := kA.step1 k1 (Nat.le_refl _)
  have hrow : (List.replicate 8 (Value.int .u8 0)).take o ++ strCells s ++ (List.replicate 8 (Value.int .u8 0)).drop (o + s.size) = [c0, c1, c2, c3, c4, c5, c6, c7].map (fun c => Value.int .u8 (c.toNat : Int)) := by
    rw [← hp, List.map_append, List.map_replicate]
    have e1 : s.data.toList.map (fun c => Value.int .u8 (c.toNat : Int)) = strCells s := rfl
    rw [e1, List.take_replicate, List.drop_replicate]
    rcases ho with ho | ⟨h0, ho⟩
    · have e2 : 8 - (o + s.size) = 0 := by omega
      have e3 : min o 8 = 8 - s.size := by omega
      rw [e2, e3]
      simp
    · have e4 : strCells s = [] := List.eq_nil_of_length_eq_zero (by rw [strCells_length]; exact h0)
      rw [e4, ho, h0]
      simp
  rw [hrow] at hW1
  have hn : bNum s.data.toList = bNum [c0, c1, c2, c3, c4, c5, c6, c7] := by rw [← hp, bNum_zeros]
  rw [hn]
  clear hrow hn hp ho k1 kA
  have a0 : W1.cell? ⟨w.heap.size, 0, none⟩ = some (.int .u8 c0.toNat) := by simp [World.cell?, hW1]
  have a1 : W1.cell? ⟨w.heap.size, 1, none⟩ = some (.int .u8 c1.toNat) := by simp [World.cell?, hW1]
  have a2 : W1.cell? ⟨w.heap.size, 2, none⟩ = some (.int .u8 c2.toNat) := by simp [World.cell?, hW1]
  have a3 : W1.cell? ⟨w.heap.size, 3, none⟩ = some (.int .u8 c3.toNat) := by simp [World.cell?, hW1]
  have a4 : W1.cell? ⟨w.heap.size, 4, none⟩ = some (.int .u8 c4.toNat) := by simp [World.cell?, hW1]
  have a5 : W1.cell? ⟨w.heap.size, 5, none⟩ = some (.int .u8 c5.toNat) := by simp [World.cell?, hW1]
  have a6 : W1.cell? ⟨w.heap.size, 6, none⟩ = some (.int .u8 c6.toNat) := by simp [World.cell?, hW1]
  have a7 : W1.cell? ⟨w.heap.size, 7, none⟩ = some (.int .u8 c7.toNat) := by simp [World.cell?, hW1]
  clear hW1
  go_enter Tryz.func75, Tryz.ntmps75
  go_wp2
  generalize hl : [c0, c1, c2, c3, c4, c5, c6, c7] = l
  have hll : l.length = 8 := by rw [← hl]; rfl
  have hA : #[Value.int IntKind.u8 (c0.toNat : Int), .int .u8 c1.toNat, .int .u8 c2.toNat, .int .u8 c3.toNat, .int .u8 c4.toNat, .int .u8 c5.toNat, .int .u8 c6.toNat, .int .u8 c7.toNat] = (l.map (fun c => Value.int .u8 (c.toNat : Int))).toArray := by rw [← hl]; rfl
  rw [hA]
  clear hA a0 a1 a2 a3 a4 a5 a6 a7 hsl hcp
  go_loopw [4, 14] (fun n i wr => ∃ (k N : Nat), k ≤ 8 ∧ n = .int .u64 N ∧ N = bNum (l.take k) ∧ i = .int .i64 k ∧ wr = W1) (fun _ i _ => 8 - (intOf i).toNat)
  case atStart => exact ⟨0, 0, by omega, rfl, rfl, rfl, rfl⟩
  case round =>
    obtain ⟨k, N, hk, rfl, hN, rfl, rfl⟩ := hrel
    by_cases hlt : k < 8
    · have hix := run_index8 wr l k hll hlt
      have hN' : bNum (l.take (k + 1)) = N * 256 + l[k].toNat := by rw [bNum_take, ← hN]
      have hN7 : N < 72057594037927936 := by rw [hN]; exact bNum_le7 (by rw [List.length_take]; omega)
      generalize l[k] = c at *
      have hc : c.toNat < 256 := c.toNat_lt
      have HN : Hid (bNum (l.take (k + 1)) = N * 256 + c.toNat) := hN'
      clear hN hN'
      go_wp2
      go_roundw
      case rel => exact ⟨k + 1, N * 256 + c.toNat, by omega, by rw [acc_byte N c.toNat hN7 hc], HN.out.symm, by go_num, trivial⟩
      case measure => simp [intOf]; omega
    · go_wp2
      go_ret
      refine ⟨?_, hK⟩
      rw [hl, hN, List.take_of_length_le (by omega)]
      rfl
set_option maxRecDepth 100000 in
theorem text_any (w : World) (k n : Nat) (hk : k ≤ 8) : Calls Tryz.prog 65 #[.int .i64 k, .int .u64 n] w fun e w' => e = .returned (.string (bText k n)) ∧ Keep0 w w' := by
  obtain ⟨o, ho, hsl⟩ := run_slice8 w.heap.size k hk
  have hk' : (k : Int) ≤ 8 := by omega
  go_enter Tryz.func65, Tryz.ntmps65
  go_wp2_with fail
  go_loopw [7] (fun i wr => ∃ (j : Nat), j ≤ 8 ∧ i = .int .i64 j ∧ wr.heap[w.heap.size]? = some (.cells (bRow j n) 138 (0, 0)) ∧ Keep0 w wr) (fun i _ => 8 - (intOf i).toNat)
  case atStart => exact ⟨0, by omega, rfl, (MapKept.heap_alloc w _).1, (Keep.refl _ _).alloc _⟩
  case round =>
    obtain ⟨j, hj, rfl, hrow, hK⟩ := hrel
    by_cases hlt : j < 8
    · have hj' : (j : Int) < 8 := by omega
      have hcell : wr.cell? ⟨w.heap.size, 7 - j, none⟩ = some (.int .u8 0) := by simp [World.cell?, hrow, bRow_at n hlt]
      have hfr : wr.frozen? ⟨w.heap.size, 7 - j, none⟩ = false := by simp [World.frozen?, hrow]
      have hrow2 := heap_setCell_at (o := 7 - j) hrow (.int .u8 ((n : Int) / 2 ^ (8 * j) % 256))
      rw [bRow_step n hlt] at hrow2
      have hK2 := hK.setNew (p := ⟨w.heap.size, 7 - j, none⟩) (Nat.le_refl _) (.int .u8 ((n : Int) / 2 ^ (8 * j) % 256))
      clear hrow
      go_wp2
      go_roundw
      case rel => exact ⟨j + 1, by omega, by go_num, hrow2, hK2⟩
      case measure => simp [intOf]; omega
    · obtain rfl : j = 8 := by omega
      have hcv : (convert 58 9 (.slice (some ⟨w.heap.size, o, none⟩) k k)).run Tryz.prog wr = .ok (.string (bText k n)) wr := by
        have h := run_convert_bytes_back (P := Tryz.prog) wr 58 9 5 ⟨w.heap.size, o, none⟩ k (bEnc k n) Tryz.underlying58 Tryz.underlying5 Tryz.underlying9 (fun i hi => by
          rw [add_plain]
          simp only [World.cell?, hrow]
          exact bRow_end n hk ho hi)
        rw [bEnc_len] at h
        exact h
      clear hrow
      go_wp2
      go_ret
      exact ⟨rfl, hK⟩
end Go.Proofs.YtaleennijfefnaaGreat
