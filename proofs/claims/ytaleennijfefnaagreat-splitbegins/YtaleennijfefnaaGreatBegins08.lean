/-
  The walk of the law SplitBegins, out of the contracts of package split and of the document's own answers.
  Conditions: none beyond that a text takes at most the greatest length that a string may have.
-/
import Derived.Test.YtaleennijfefnaaGreatLaw08
import Derived.Test.YtaleennijfefnaaGreatOpen07
namespace Go.Proofs.YtaleennijfefnaaGreat
open Go.RowKit

def bEq (x : ByteArray) : Bool := qErr x 0 0 == 2
theorem begins8_b (w : World) (s : ByteArray) (hs : s.size ≤ maxLen) :
    Calls Tryz.prog 13 #[.string s] w fun e w' => e = .returned (.bool (bEq s)) ∧ Keep0 w w' := begins8_any w s hs
set_option maxRecDepth 100000 in
theorem splitBegins_great (w : World) (v k : UInt8) (p s more : ByteArray) (hl : ¬ ((p.size : Int) ≤ 100 ∧ (s.size : Int) ≤ 200 ∧ (more.size : Int) ≤ 200)) :
    Calls Tryz.prog 5 #[fr (v.toNat : Int) (k.toNat : Int) p, .string s, .string more] w fun e w' => e = .returned (.bool true) ∧ Keep0 w w' := by
  have f0 := FrAt.new w (v.toNat : Int) (k.toNat : Int) p 31
  have k0 : Keep0 w (w.alloc (.cells #[.int .u8 (v.toNat : Int), .int .u8 (k.toNat : Int), .string p] 31)) := (Keep.refl _ w).alloc _
  unfold fr
  have hl' : ¬ (p.size : Int) ≤ 100 ∨ ((p.size : Int) ≤ 100 ∧ ¬ (s.size : Int) ≤ 200) ∨ ((p.size : Int) ≤ 100 ∧ (s.size : Int) ≤ 200 ∧ ¬ (more.size : Int) ≤ 200) := by omega
  clear hl
  rcases hl' with h | ⟨h, h'⟩ | ⟨h, h', h''⟩
  · go_enter Tryz.func5, Tryz.ntmps5
    go_wp2_with fail
    generalize w.alloc (.cells #[.int .u8 (v.toNat : Int), .int .u8 (k.toNat : Int), .string p] 31) = w0 at *
    refine (awake08 _).mono ?_
    rintro e w1 ⟨rfl, k1⟩
    obtain ⟨d0, d1, d2, d3, d4, d5⟩ := (f0.keep0 k1).cells
    go_wp2
    go_ret
    exact ⟨rfl, k0.trans k1⟩
  · go_enter Tryz.func5, Tryz.ntmps5
    go_wp2_with fail
    generalize w.alloc (.cells #[.int .u8 (v.toNat : Int), .int .u8 (k.toNat : Int), .string p] 31) = w0 at *
    refine (awake08 _).mono ?_
    rintro e w1 ⟨rfl, k1⟩
    obtain ⟨d0, d1, d2, d3, d4, d5⟩ := (f0.keep0 k1).cells
    go_wp2
    go_ret
    exact ⟨rfl, k0.trans k1⟩
  · go_enter Tryz.func5, Tryz.ntmps5
    go_wp2_with fail
    generalize w.alloc (.cells #[.int .u8 (v.toNat : Int), .int .u8 (k.toNat : Int), .string p] 31) = w0 at *
    refine (awake08 _).mono ?_
    rintro e w1 ⟨rfl, k1⟩
    obtain ⟨d0, d1, d2, d3, d4, d5⟩ := (f0.keep0 k1).cells
    go_wp2
    go_ret
    exact ⟨rfl, k0.trans k1⟩
set_option maxRecDepth 100000 in
set_option maxHeartbeats 8000000 in
theorem splitBegins_small (w : World) (v k : UInt8) (p s more : ByteArray) (h1 : (p.size : Int) ≤ 100) (h2 : (s.size : Int) ≤ 200) (h3 : (more.size : Int) ≤ 200) :
    Calls Tryz.prog 5 #[fr (v.toNat : Int) (k.toNat : Int) p, .string s, .string more] w fun e w' => e = .returned (.bool true) ∧ Keep0 w w' := by
  have f0 := FrAt.new w (v.toNat : Int) (k.toNat : Int) p 31
  have k0 : Keep0 w (w.alloc (.cells #[.int .u8 (v.toNat : Int), .int .u8 (k.toNat : Int), .string p] 31)) := (Keep.refl _ w).alloc _
  have ye := fun W => rencode7_any W v k p (by unfold maxLen; omega)
  have HT : Hid ((eTxt7 v k p).size ≤ 311 ∧ (eErr7 v p = 0 → ∀ i, (i < (eTxt7 v k p).size → bEq ((eTxt7 v k p).extract 0 i) = true) ∧ (i = (eTxt7 v k p).size → bEq ((eTxt7 v k p).extract 0 i) = false))) := by
    refine ⟨?_, fun h => ?_⟩
    · unfold eTxt7
      split
      · exact enc_size (f := ⟨v, k, p⟩) (by show p.size ≤ 300; omega)
      · exact Nat.zero_le _
    · obtain ⟨q1, q2⟩ := e7_zero h
      have e : eTxt7 v k p = fEnc v k p := if_pos h
      rw [e]
      refine fun i => ⟨fun hi => ?_, fun hi => ?_⟩
      · unfold bEq
        rw [fEnc_begins q1 q2 hi]
        rfl
      · subst hi
        have e2 : (fEnc v k p).extract 0 (fEnc v k p).size = fEnc v k p := by simp
        unfold bEq
        rw [e2, fEnc_whole q1 q2]
        rfl
  have yb := fun W => begins8_b W s (by unfold maxLen; omega)
  have yd := fun W => rdecode7_any W (s ++ more) (by rw [ByteArray.size_append]; unfold maxLen; omega)
  rw [sFr_val] at yd
  have HN : Hid (bEq s = false → qErr (s ++ more) 0 0 = 0 → qLen (s ++ more) ≤ s.size) := fun h h0 => never_more (by intro e; unfold bEq at h; rw [e] at h; cases h) h0
  have i9 : ¬ 9223372036854775807 < s.size + more.size := by omega
  unfold Fr.val fr at *
  generalize sFr (s ++ more) = f at *
  generalize qErr (s ++ more) 0 0 = E2 at *
  generalize qLen (s ++ more) = L2 at *
  generalize eTxt7 v k p = T at *
  generalize eErr7 v p = E at *
  generalize (v.toNat : Int) = V at *
  generalize (k.toNat : Int) = KD at *
  generalize bEq s = BS at *
  have hT := HT.out.1
  have hT' : (T.size : Int) ≤ 311 := by omega
  go_enter Tryz.func5, Tryz.ntmps5
  go_wp2_with fail
  generalize w.alloc (.cells #[.int .u8 V, .int .u8 KD, .string p] 31) = w0 at *
  generalize hg : w.heap.size = g at *
  refine (awake08 _).mono ?_
  rintro e w1 ⟨rfl, k1⟩
  have f1 := f0.keep0 k1
  have K1 := k0.trans k1
  obtain ⟨d0, d1, d2, d3, d4, d5⟩ := f1.cells
  clear d3 d4 d5 f0 k0 k1
  go_wp2_with fail
  refine (ye _).mono ?_
  rintro e w2 ⟨rfl, k2⟩
  have K2 := K1.trans k2
  clear ye K1 k2 d0 d1 d2 f1
  go_wp2_with fail
  go_loopw [9] (fun i wr => ∃ (j : Nat), i = .int .i64 (j : Int) ∧ j ≤ T.size + 1 ∧ Keep0 w wr) (fun i _ => T.size + 1 - (intOf i).toNat)
  case atStart => exact ⟨0, rfl, by omega, K2⟩
  case round =>
    obtain ⟨j, rfl, hj, hK⟩ := hrel
    clear K2
    by_cases hE : E = 0
    · subst hE
      by_cases hlt : j ≤ T.size
      · have i1 : (j : Int) ≤ T.size := by omega
        have yq := fun W => begins8_b W (T.extract 0 j) (by rw [ByteArray.size_extract]; unfold maxLen; omega)
        obtain ⟨q1, q2⟩ := HT.out.2 rfl j
        by_cases hs : j < T.size
        · have i2 : (j : Int) < T.size := by omega
          rw [q1 hs] at yq
          clear q1 q2
          go_wp2_with fail
          refine (yq _).mono ?_
          rintro e w3 ⟨rfl, k3⟩
          have K3 := hK.trans k3
          clear yq k3 hK
          go_wp2
          go_roundw
          case rel => exact ⟨j + 1, by go_num, by omega, K3⟩
          case measure => simp [intOf]; omega
        · have i2 : ¬ (j : Int) < T.size := by omega
          rw [q2 (by omega)] at yq
          clear q1 q2
          go_wp2_with fail
          refine (yq _).mono ?_
          rintro e w3 ⟨rfl, k3⟩
          have K3 := hK.trans k3
          clear yq k3 hK
          go_wp2
          go_roundw
          case rel => exact ⟨j + 1, by go_num, by omega, K3⟩
          case measure => simp [intOf]; omega
      · have i1 : ¬ (j : Int) ≤ T.size := by omega
        cases BS with
        | true =>
          clear HN
          go_wp2_with fail
          refine (yb _).mono ?_
          rintro e w3 ⟨rfl, k3⟩
          have K3 := hK.trans k3
          clear yb k3 hK
          go_wp2
          go_ret
          exact ⟨rfl, K3⟩
        | false =>
          by_cases hE2 : E2 = 0
          · have i3 := HN.out rfl hE2
            subst hE2
            clear HN
            go_wp2_with fail
            refine (yb _).mono ?_
            rintro e w3 ⟨rfl, k3⟩
            have K3 := hK.trans k3
            clear yb k3 hK
            go_wp2_with fail
            refine (yd _).mono ?_
            rintro e w4 ⟨rfl, k4⟩
            have K4 := (K3.trans k4).alloc (.cells #[.int .u8 (f.v.toNat : Int), .int .u8 (f.k.toNat : Int), .string f.p] 31)
            clear yd k4 K3
            go_wp2
            go_ret
            exact ⟨rfl, K4⟩
          · have e2 : (E2 != 0) = true := by simpa using hE2
            clear HN hE2
            go_wp2_with fail
            refine (yb _).mono ?_
            rintro e w3 ⟨rfl, k3⟩
            have K3 := hK.trans k3
            clear yb k3 hK
            go_wp2_with fail
            refine (yd _).mono ?_
            rintro e w4 ⟨rfl, k4⟩
            have K4 := (K3.trans k4).alloc (.cells #[.int .u8 (f.v.toNat : Int), .int .u8 (f.k.toNat : Int), .string f.p] 31)
            clear yd k4 K3
            go_wp2
            go_ret
            exact ⟨rfl, K4⟩
    · have e0 : (E == 0) = false := by simpa using hE
      clear hE HT
      cases BS with
      | true =>
        clear HN
        go_wp2_with fail
        refine (yb _).mono ?_
        rintro e w3 ⟨rfl, k3⟩
        have K3 := hK.trans k3
        clear yb k3 hK
        go_wp2
        go_ret
        exact ⟨rfl, K3⟩
      | false =>
        by_cases hE2 : E2 = 0
        · have i3 := HN.out rfl hE2
          subst hE2
          clear HN
          go_wp2_with fail
          refine (yb _).mono ?_
          rintro e w3 ⟨rfl, k3⟩
          have K3 := hK.trans k3
          clear yb k3 hK
          go_wp2_with fail
          refine (yd _).mono ?_
          rintro e w4 ⟨rfl, k4⟩
          have K4 := (K3.trans k4).alloc (.cells #[.int .u8 (f.v.toNat : Int), .int .u8 (f.k.toNat : Int), .string f.p] 31)
          clear yd k4 K3
          go_wp2
          go_ret
          exact ⟨rfl, K4⟩
        · have e2 : (E2 != 0) = true := by simpa using hE2
          clear HN hE2
          go_wp2_with fail
          refine (yb _).mono ?_
          rintro e w3 ⟨rfl, k3⟩
          have K3 := hK.trans k3
          clear yb k3 hK
          go_wp2_with fail
          refine (yd _).mono ?_
          rintro e w4 ⟨rfl, k4⟩
          have K4 := (K3.trans k4).alloc (.cells #[.int .u8 (f.v.toNat : Int), .int .u8 (f.k.toNat : Int), .string f.p] 31)
          clear yd k4 K3
          go_wp2
          go_ret
          exact ⟨rfl, K4⟩
theorem splitBegins_law (w : World) (v k : UInt8) (p : ByteArray) (_ : p.size ≤ maxLen) (s : ByteArray) (_ : s.size ≤ maxLen) (more : ByteArray) (_ : more.size ≤ maxLen) :
    Calls Tryz.prog 5 #[fr (v.toNat : Int) (k.toNat : Int) p, .string s, .string more] w fun e w' => e = .returned (.bool true) ∧ Keep0 w w' := by
  by_cases hl : (p.size : Int) ≤ 100 ∧ (s.size : Int) ≤ 200 ∧ (more.size : Int) ≤ 200
  · exact splitBegins_small w v k p s more hl.1 hl.2.1 hl.2.2
  · exact splitBegins_great w v k p s more hl
end Go.Proofs.YtaleennijfefnaaGreat
