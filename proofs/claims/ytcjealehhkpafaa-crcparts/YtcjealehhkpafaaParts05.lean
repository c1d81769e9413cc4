/-
  The walk of the law CrcParts, out of the contracts of package crc and of the document's own answer.
  Conditions: none beyond that a text takes at most the greatest length that a string may have.
-/
import Derived.Test.YtcjealehhkpafaaLaw05
import Derived.Test.YtcjealehhkpafaaOpen05
namespace Go.Proofs.Ytcjealehhkpafaa
open Go.RowKit

/-- Texts, one behind the other, as one text. -/
def cText (l : List ByteArray) : ByteArray := ⟨(cJoin l).toArray⟩
theorem cText_list (l : List ByteArray) : (cText l).data.toList = cJoin l := rfl
theorem cText_nil : cText [] = ⟨#[]⟩ := rfl
theorem cText_next (l : List ByteArray) (k : Nat) (hk : k < l.length) : cText (l.take (k + 1)) = cText (l.take k) ++ l[k] := by
  apply ByteArray.ext
  apply Array.toList_inj.1
  rw [cText_list, ByteArray.data_append, Array.toList_append, cText_list, List.take_succ_eq_append_getElem hk, cJoin_append, cJoin_one]
theorem cText_size (l : List ByteArray) (k : Nat) (hk : k < l.length) : (cText (l.take (k + 1))).size = (cText (l.take k)).size + l[k].size := by
  rw [cText_next l k hk, ByteArray.size_append]

theorem parts_great (ao : Option Addr) (len cap : Nat) (w : World) (hl : ¬ (len : Int) ≤ 40) : Calls Try.prog 4 #[.slice ao len cap] w fun e w' => e = .returned (.bool true) ∧ Keep0 w w' := by
  go_enter Try.func4, Try.ntmps4
  go_wp2_with (go_at_call 7; refine (awake05 w).mono ?_; rintro e w1 ⟨rfl, k1⟩)
  go_ret
  exact ⟨rfl, k1⟩

set_option maxRecDepth 100000 in
set_option maxHeartbeats 8000000 in
theorem parts_law (w : World) (ao : Option Addr) (cap : Nat) (l : List ByteArray) (_ : l.length ≤ maxLen) (hls : ∀ s ∈ l, s.size ≤ maxLen) (hc : StrsAt w ao l) :
    Calls Try.prog 4 #[.slice ao l.length cap] w fun e w' => e = .returned (.bool true) ∧ Keep0 w w' := by
  by_cases hl : (l.length : Int) ≤ 40
  · have HC : Hid (StrsAt w ao l) := hc
    have HS : Hid (∀ s ∈ l, s.size ≤ maxLen) := hls
    clear hc hls
    go_enter Try.func4, Try.ntmps4
    go_wp2_with fail
    refine (awake05 w).mono ?_
    rintro e w1 ⟨rfl, k1⟩
    go_wp2_with fail
    refine (newSums_any w1).mono ?_
    rintro e w2 ⟨rfl, rfl⟩
    have h2 := SumsAny.new w1 38
    have k2 : Keep0 w (w1.alloc (.cells zSums 38)) := k1.alloc _
    have hge := k1.size
    generalize w1.heap.size = B at *
    generalize w1.alloc (.cells zSums 38) = W2 at *
    clear k1
    have h00 : Hid ((⟨#[]⟩ : ByteArray) = cText (l.take 0)) := by show (⟨#[]⟩ : ByteArray) = cText (l.take 0); rw [List.take_zero, cText_nil]
    have h01 : Hid (0 = cSum (cJoin (l.take 0))) := by show 0 = cSum (cJoin (l.take 0)); rw [List.take_zero]; exact sum_none.symm
    go_wp2_with fail
    go_loopw [3, 5, 6] (fun t v i wr => ∃ (k : Nat) (S : ByteArray) (N : Nat) (m : Bool), k ≤ l.length ∧ t = .string S ∧ S = cText (l.take k) ∧ S.size ≤ 200 * k ∧ v = .int .u32 N ∧ N = cSum (cJoin (l.take k)) ∧ N < 4294967296 ∧ i = .int .i64 k ∧ SumsAny wr B m ∧ Keep0 w wr) (fun _ _ i _ => l.length - (intOf i).toNat)
    case atStart => exact ⟨0, ⟨#[]⟩, 0, false, by omega, rfl, h00.out, by decide, rfl, h01.out, by decide, rfl, h2, k2⟩
    case round =>
      obtain ⟨k, S, N, m, hk, rfl, hS, hS2, rfl, hN, hN2, rfl, hm, hK⟩ := hrel
      by_cases hlt : k < l.length
      · obtain ⟨bb, off, rfl, hbb, hcell⟩ := HC.out k hlt
        have hcl : wr.cell? ⟨bb, off + k, none⟩ = some (.string l[k]) := hK.cell hcell (fun f => f)
        have hsk := HS.out l[k] (List.getElem_mem hlt)
        have hSx := cText_next l k hlt
        have hNx : cMore N l[k].data.toList = cSum (cJoin (l.take (k + 1))) := by
          rw [List.take_succ_eq_append_getElem hlt, cJoin_append, cJoin_one, ← cMore_zero, cMore_append, cMore_zero, ← hN]
        rw [← hS] at hSx
        generalize l[k] = s at *
        have HX : Hid (cText (l.take (k + 1)) = S ++ s) := hSx
        have HN : Hid (cMore N s.data.toList = cSum (cJoin (l.take (k + 1)))) := hNx
        have hsz := ByteArray.size_append (a := S) (b := s)
        have hlt' : (k : Int) < l.length := by omega
        clear hS hN hSx hNx hcell
        by_cases h200 : (s.size : Int) ≤ 200
        · have hS3 : (S ++ s).size ≤ 200 * (k + 1) := by omega
          have hNl := cMore_lt N s.data.toList
          go_wp2_with fail
          refine (more5_one hm N hN2 s hsk _).mono ?_
          rintro e w3 ⟨rfl, h3, k3⟩
          have kw3 : Keep0 w w3 := hK.step1 k3 hge
          have h3a := h3.any
          clear k3 h3 hm hK hcl
          go_wp2
          go_roundw
          case rel => exact ⟨k + 1, S ++ s, _, true, by omega, rfl, HX.out.symm, hS3, rfl, HN.out, hNl, by go_num, h3a, kw3⟩
          case measure => simp [intOf]; omega
        · go_wp2
          go_ret
          exact ⟨rfl, hK⟩
      · obtain rfl : k = l.length := by omega
        rw [List.take_of_length_le (Nat.le_refl _)] at hS hN
        have q1 : cSum S.data.toList = N := by rw [hS, cText_list, hN]
        have q2 : cMore 0 (cJoin l) = N := by rw [cMore_zero, hN]
        have hS4 : S.size ≤ maxLen := by unfold maxLen; omega
        have Q1 : Hid (cSum S.data.toList = N) := q1
        have Q2 : Hid (cMore 0 (cJoin l) = N) := q2
        have HT : Hid (TextsAt wr B ao l) := by
          intro i hi
          obtain ⟨bb, off, e1, e2, e3⟩ := HC.out i hi
          exact ⟨bb, off, e1, by omega, hK.cell e3 (fun f => f)⟩
        clear hS hN q1 q2 HC
        go_wp2_with fail
        refine (rsum5_any _ S hS4).mono ?_
        rw [Q1.out]
        rintro e w' ⟨rfl, rfl⟩
        go_wp2_with fail
        refine (more5_any hm 0 (by decide) ao cap l (by unfold maxLen; omega) HS.out HT.out).mono ?_
        rw [Q2.out]
        rintro e w4 ⟨rfl, h4, k4⟩
        have kw4 : Keep0 w w4 := hK.step1 k4 hge
        clear HT hK k4 hm
        go_wp2_with fail
        refine (sum5_any h4.any S hS4).mono ?_
        rw [Q1.out]
        rintro e w5 ⟨rfl, h5, k5⟩
        have kw5 : Keep0 w w5 := kw4.step1 k5 hge
        go_wp2
        go_ret
        exact ⟨rfl, kw5⟩
  · exact parts_great ao l.length cap w hl
end Go.Proofs.Ytcjealehhkpafaa
