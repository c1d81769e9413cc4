/-
  The walk of the law CrcSpoils, out of the contracts of package crc: two texts that differ in one byte have other sums.
  Conditions: none beyond that a text takes at most the greatest length that a string may have.
-/
import Derived.Test.YtcjealehhkpafaaLaw05
import Derived.Lib.ConvBytes
import Derived.Laws.BytesArg
import Derived.Laws.IdiomStrings
namespace Go.Proofs.Ytcjealehhkpafaa
open Go.RowKit

/-- A text's bytes as a row of one's own; one of them is changed; the text of them then. -/
theorem spoil_bytes (w : World) (s : ByteArray) (j : Nat) (hj : j < s.data.toList.length) (c' : UInt8) :
    ∃ cap w1, (convert 9 46 (.string s)).run Try.prog w = .ok (.slice (some ⟨w.heap.size, 0, none⟩) s.size cap) w1 ∧ Keep0 w w1 ∧ w1.heap.size = w.heap.size + 1 ∧
      w1.cell? ⟨w.heap.size, j, none⟩ = some (.int .u8 (s.data.toList[j].toNat : Int)) ∧ w1.frozen? ⟨w.heap.size, j, none⟩ = false ∧
      ∀ W, Keep0 (w1.setCell ⟨w.heap.size, j, none⟩ (.int .u8 (c'.toNat : Int))) W → (convert 46 9 (.slice (some ⟨w.heap.size, 0, none⟩) s.size cap)).run Try.prog W = .ok (.string ⟨(s.data.toList.set j c').toArray⟩) W := by
  have h := Go.Lib.run_convert_string_bytes (P := Try.prog) w 9 46 5 s Try.underlying9 Try.underlying46 Try.underlying5
  have hll : s.data.toList.length = s.size := by simp
  have hcell : ∀ i (hi : i < s.data.toList.length), (Go.Lib.bytesWorld w 5 s).cell? ⟨w.heap.size, i, none⟩ = some (.int .u8 (s.data.toList[i].toNat : Int)) := by
    intro i hi
    rw [Go.Lib.bytesWorld_cell w _ s i (by omega), List.getD_eq_getElem?_getD, List.getElem?_eq_getElem hi]
    rfl
  refine ⟨_, Go.Lib.bytesWorld w 5 s, h, ⟨rfl, rfl, rfl, by rw [Go.Lib.bytesWorld_size]; omega, fun k hk _ => Go.Lib.bytesWorld_at_old w _ s k hk⟩, Go.Lib.bytesWorld_size w _ s, hcell j hj, ?_, fun W hW => ?_⟩
  · have hb : j < (Go.Lib.bytesCells w 5 s).size := by simp [Go.Lib.bytesCells]; omega
    simp [World.frozen?, Go.Lib.bytesWorld_at_new]
    omega
  · generalize Go.Lib.bytesWorld w 5 s = w1 at *
    have hl2 : (s.data.toList.set j c').length = s.size := by rw [List.length_set, hll]
    have hb := run_convert_bytes_back (P := Try.prog) W 46 9 5 ⟨w.heap.size, 0, none⟩ (grownCap w s.size 0 5) (s.data.toList.set j c') Try.underlying46 Try.underlying5 Try.underlying9 (fun i hi => by
      rw [add_plain, Nat.zero_add]
      refine hW.cell ?_ (fun f => f)
      have hi' : i < s.data.toList.length := by rw [List.length_set] at hi; exact hi
      by_cases e : i = j
      · subst e
        rw [World.cell?_setCell_same _ _ _ (hcell i hi')]
        simp
      · rw [World.cell?_setCell_other _ _ _ _ (by simp <;> omega), hcell i hi', List.getElem_set_ne (by omega)])
    rw [hl2] at hb
    exact hb

theorem set_spoilt (l : List UInt8) (j : Nat) (hj : j < l.length) (c' : UInt8) (hc : l[j] ≠ c') : cSum (l.set j c') ≠ cSum l := by
  have e1 : l = l.take j ++ l[j] :: l.drop (j + 1) := by rw [List.getElem_cons_drop, List.take_append_drop]
  have e2 : l.set j c' = l.take j ++ c' :: l.drop (j + 1) := List.set_eq_take_append_cons_drop ▸ (by rw [if_pos hj])
  have key := cSum_spoilt (l.take j) (l.drop (j + 1)) c' l[j] (Ne.symm hc)
  rw [← e2, ← e1] at key
  exact key

set_option maxRecDepth 100000 in
theorem spoils_law (w : World) (s : ByteArray) (hs : s.size ≤ maxLen) (A : Int) (hA : (Lit.int .u16 A).wf = true) (y : Int) (hy : (Lit.int .u8 y).wf = true) :
    Calls Try.prog 5 #[.string s, .int .u16 A, .int .u8 y] w fun e w' => e = .returned (.bool true) ∧ Keep0 w w' := by
  have hyb := bounds_u8 hy
  have hAb := bounds_u16 hA
  clear hy hA
  by_cases hl : (s.size : Int) ≤ 2000
  · by_cases h0 : s.size = 0
    · have h0' : (s.size : Int) = 0 := by omega
      go_enter Try.func5, Try.ntmps5
      go_wp2_with (go_at_call 7; refine (awake05 w).mono ?_; rintro e w1 ⟨rfl, k1⟩)
      go_ret
      exact ⟨rfl, k1⟩
    · by_cases hy0 : y = 0
      · subst hy0
        go_enter Try.func5, Try.ntmps5
        go_wp2_with (go_at_call 7; refine (awake05 w).mono ?_; rintro e w1 ⟨rfl, k1⟩)
        go_ret
        exact ⟨rfl, k1⟩
      · have h0' : ¬ (s.size : Int) = 0 := by omega
        have hll : s.data.toList.length = s.size := by simp
        obtain ⟨a, rfl⟩ : ∃ a : Nat, A = a := ⟨A.toNat, by omega⟩
        obtain ⟨z, rfl⟩ : ∃ z : Nat, y = z := ⟨y.toNat, by omega⟩
        have hj : a % s.size < s.data.toList.length := by rw [hll]; exact Nat.mod_lt _ (by omega)
        have hrem : (a : Int).tmod (s.size : Int) = ((a % s.size : Nat) : Int) := by rw [Int.tmod_eq_emod_of_nonneg (by omega)]; rfl
        generalize a % s.size = j at *
        have hc := s.data.toList[j].toNat_lt
        have hx := xor_u8 s.data.toList[j].toNat z hc (by omega)
        have hxl : s.data.toList[j].toNat ^^^ z < 256 := Nat.xor_lt_two_pow (n := 8) hc (by omega)
        have hne : s.data.toList[j].toNat ^^^ z ≠ s.data.toList[j].toNat := by
          intro h
          have h2 := congrArg (s.data.toList[j].toNat ^^^ ·) h
          simp only [← Nat.xor_assoc, Nat.xor_self, Nat.zero_xor] at h2
          omega
        have hc' : (UInt8.ofNat (s.data.toList[j].toNat ^^^ z)).toNat = s.data.toList[j].toNat ^^^ z := by
          rw [UInt8.toNat_ofNat']; exact Nat.mod_eq_of_lt hxl
        generalize UInt8.ofNat (s.data.toList[j].toNat ^^^ z) = c' at *
        have hcc : s.data.toList[j] ≠ c' := by
          intro h
          rw [← hc', ← h] at hne
          exact hne rfl
        rw [← hc'] at hx
        have hsp := set_spoilt s.data.toList j hj c' hcc
        have HB : Hid (∃ N M : Nat, cSum (s.data.toList.set j c') = N ∧ cSum s.data.toList = M ∧ N ≠ M) := ⟨_, _, rfl, rfl, hsp⟩
        have hAi : (a : Int) ≤ 65535 := by omega
        have hb0 : ((s.size : Int) == 0) = false := by simpa using h0
        have hbz : ((z : Int) == 0) = false := by simpa using hy0
        clear hne hcc hc' hxl hAb hsp
        go_enter Try.func5, Try.ntmps5
        go_wp2_with fail
        refine (awake05 w).mono ?_
        rintro e w1 ⟨rfl, k1⟩
        obtain ⟨cap, w2, hcv, k2, hsz2, hcell, hfr, hback⟩ := spoil_bytes w1 s j hj c'
        have HK : Hid (∀ W, Keep0 (w2.setCell ⟨w1.heap.size, j, none⟩ (.int .u8 (c'.toNat : Int))) W → (convert 46 9 (.slice (some ⟨w1.heap.size, 0, none⟩) s.size cap)).run Try.prog W = .ok (.string ⟨(s.data.toList.set j c').toArray⟩) W) := hback
        have hj' : (j : Int) < s.size := by omega
        clear hback
        generalize s.data.toList[j] = c at *
        go_wp2_with fail
        refine (newSums_any _).mono ?_
        rintro e w3 ⟨rfl, rfl⟩
        have k3 : Keep0 w (w2.setCell ⟨w1.heap.size, j, none⟩ (.int .u8 (c'.toNat : Int))) := (k1.step0 k2).setNew k1.size _
        have hge := k3.size
        generalize w2.setCell ⟨w1.heap.size, j, none⟩ (.int .u8 (c'.toNat : Int)) = W3 at *
        have h3 := SumsAny.new W3 38
        have kb := (Keep.refl (fun _ => False) W3).alloc (.cells zSums 38)
        have k4 : Keep0 w (W3.alloc (.cells zSums 38)) := k3.step0 kb
        have hcv2 := HK.out _ kb
        generalize W3.heap.size = B at *
        generalize W3.alloc (.cells zSums 38) = W4 at *
        clear hcv k2 hsz2 hcell hfr HK k3 kb k1
        obtain ⟨N, M, hN, hM, hNM⟩ := HB.out
        have hsz3 : (⟨(s.data.toList.set j c').toArray⟩ : ByteArray).size ≤ maxLen := by
          show (s.data.toList.set j c').toArray.size ≤ maxLen
          simpa using hs
        have hdl : (⟨(s.data.toList.set j c').toArray⟩ : ByteArray).data.toList = s.data.toList.set j c' := rfl
        rw [← hdl] at hN
        generalize (⟨(s.data.toList.set j c').toArray⟩ : ByteArray) = S2 at *
        clear hdl HB
        go_wp2_with fail
        refine (sum5_any h3 S2 hsz3).mono ?_
        rw [hN]
        rintro e w5 ⟨rfl, h5, k5⟩
        have kw5 : Keep0 w w5 := k4.step1 k5 hge
        clear h3 k4 k5 hcv2
        go_wp2_with fail
        refine (sum5_any h5.any s hs).mono ?_
        rw [hM]
        rintro e w6 ⟨rfl, h6, k6⟩
        have kw6 : Keep0 w w6 := kw5.step1 k6 hge
        have hNM' : ((N : Int) != M) = true := by simp only [bne_iff_ne, ne_eq]; omega
        go_wp2
        go_ret
        exact ⟨rfl, kw6⟩
  · go_enter Try.func5, Try.ntmps5
    go_wp2_with (go_at_call 7; refine (awake05 w).mono ?_; rintro e w1 ⟨rfl, k1⟩)
    go_ret
    exact ⟨rfl, k1⟩
end Go.Proofs.Ytcjealehhkpafaa
