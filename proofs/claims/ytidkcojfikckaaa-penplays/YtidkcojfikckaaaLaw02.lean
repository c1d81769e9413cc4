/-
  The walk of the law PenLimits, out of the contracts of package pen.
  Conditions: a string that comes in takes at most the greatest length that a string may have.
-/
import Derived.Test.YtidkcojfikckaaaPenWrite
import Derived.Lib.ConvBytes
namespace Go.Proofs.Ytidkcojfikckaaa
open Go.RowKit
open Go.Lib (strCells strCells_length strCells_oneCell)

/-- '[]byte(s)' -/
theorem bytes_of (src dst : TypeId) (hs : Try.prog.underlying src = some .string) (hd : Try.prog.underlying dst = some (.slice 5)) (w : World) (s : ByteArray) :
    ∃ cap w', (convert src dst (.string s)).run Try.prog w = .ok (.slice (some ⟨w.heap.size, 0, none⟩) s.data.toList.length cap) w' ∧ Keep0 w w' ∧
      ∀ j (h : j < s.data.toList.length), w'.cell? ⟨w.heap.size, 0 + j, none⟩ = some (.int .u8 (s.data.toList[j].toNat : Int)) := by
  have h := Go.Lib.run_convert_string_bytes (P := Try.prog) w src dst 5 s hs hd Try.underlying5
  refine ⟨grownCap w s.size 0 5, Go.Lib.bytesWorld w 5 s, by rw [h]; rfl, ⟨rfl, rfl, rfl, by rw [Go.Lib.bytesWorld_size]; omega, fun k hk _ => Go.Lib.bytesWorld_at_old w _ s k hk⟩, ?_⟩
  intro j hj
  rw [Nat.zero_add, Go.Lib.bytesWorld_cell w _ s j (by simpa using hj)]
  simp only [List.getD, List.getElem?_eq_getElem hj]
  rfl

theorem pAll_ones_yes (m : Int) : ∀ (l : List UInt8) (t : ByteArray), (t.size : Int) + l.length ≤ m → pAll m (t, 0) (l.map one) = (t ++ ⟨l.toArray⟩, 0)
  | [], t, _ => by
    show (t, (0 : Int)) = _
    congr 1
    apply ByteArray.ext
    simp [ByteArray.data_append]
  | c :: l, t, h => by
    simp only [List.length_cons] at h
    show pAll m (pOne m (t, 0) (one c)) (l.map one) = _
    rw [pOne_yes (by rw [one_size]; omega), pAll_ones_yes m l _ (by rw [ByteArray.size_append, one_size]; omega)]
    congr 1
    apply ByteArray.ext
    simp [ByteArray.data_append, one]
theorem pAll_ones_no (m : Int) : ∀ (l : List UInt8) (t : ByteArray), (t.size : Int) ≤ m → m < (t.size : Int) + l.length → ∃ t', pAll m (t, 0) (l.map one) = (t', 3) ∧ (t'.size : Int) = m
  | [], t, h1, h2 => by simp at h2; omega
  | c :: l, t, h1, h2 => by
    simp only [List.length_cons] at h2
    show ∃ t', pAll m (pOne m (t, 0) (one c)) (l.map one) = _ ∧ _
    by_cases h : (t.size : Int) + 1 ≤ m
    · rw [pOne_yes (by rw [one_size]; omega)]
      exact pAll_ones_no m l _ (by rw [ByteArray.size_append, one_size]; omega) (by rw [ByteArray.size_append, one_size]; omega)
    · rw [pOne_no (by rw [one_size]; omega), pAll_err (by decide)]
      exact ⟨t, rfl, by omega⟩

theorem max0_any (w : World) (m : Int) : Calls Try.prog 18 #[.int .i64 m] w fun e w' => e = .returned (.int .i64 (pMax m)) ∧ w = w' := by
  unfold pMax
  by_cases h : m < 0
  · rw [if_pos h]
    go_enter Try.func18, Try.ntmps18
    go_wp2
    go_ret
    exact ⟨rfl, rfl⟩
  · rw [if_neg h]
    go_enter Try.func18, Try.ntmps18
    go_wp2
    go_ret
    exact ⟨rfl, rfl⟩

theorem awake02 (w : World) : Calls Try.prog 5 #[] w fun e w' => e = .returned (.bool true) ∧ Keep0 w w' := by
  have q1 : pMax 3 = 3 := by decide
  have q2 : pAll 3 (⟨#[]⟩, 0) [⟨#[97, 98]⟩, ⟨#[99, 100]⟩] = (⟨#[97, 98]⟩, 3) := by decide
  have q3 : pEnd ⟨#[97, 98]⟩ 3 = ⟨#[]⟩ := by decide
  go_enter Try.func5, Try.ntmps5
  go_wp2_with fail
  refine (pnew_any w 3 (by omega)).mono ?_
  rw [q1]
  rintro e w1 ⟨rfl, h1, k1⟩
  have kA := (Keep.refl (fun _ => False) w1).alloc (.cells #[.string ⟨#[97, 98]⟩, .string ⟨#[99, 100]⟩] 9)
  have hA := h1.keep0 kA
  have hlt := h1.lt
  go_wp2_with fail
  refine (ptext_any hA _ _ [⟨#[97, 98]⟩, ⟨#[99, 100]⟩] ?_ (by simp) (.inr (by omega))).mono ?_
  · intro k hk
    refine ⟨w1.heap.size, 0, rfl, ?_, by omega, by omega⟩
    match k, hk with
    | 0, _ => exact cell_alloc w1 _ rfl
    | 1, _ => exact cell_alloc w1 _ rfl
  rw [q2]
  rintro e w2 ⟨rfl, r2, h2, k2, _⟩
  clear q1 q2
  go_wp2_with (first | (go_at_call 14; refine (pend_any h2).mono ?_; rw [q3]; rintro e w' ⟨rfl, rfl⟩) | (go_at_call 17; refine (plen_any h2).mono ?_; rintro e w' ⟨rfl, rfl⟩))
  go_ret
  exact ⟨rfl, (k1.step0 kA).step k2 (fun i hi hh => by simp only [two] at hh; omega)⟩

theorem limits_great (s : ByteArray) (m : Int) (w : World) (hl : ¬ (s.size : Int) ≤ 200) : Calls Try.prog 4 #[.string s, .int .i64 m] w fun e w' => e = .returned (.bool true) ∧ Keep0 w w' := by
  go_enter Try.func4, Try.ntmps4
  go_wp2_with (go_at_call 5; refine (awake02 w).mono ?_; rintro e w1 ⟨rfl, k1⟩)
  go_ret
  exact ⟨rfl, k1⟩

theorem pMax_lo (m : Int) : 0 ≤ pMax m := by unfold pMax; split <;> omega
theorem size_nil : (⟨#[]⟩ : ByteArray).size = 0 := rfl
theorem one_list (m : Int) (s : ByteArray) : pAll m (⟨#[]⟩, 0) [s] = pOne m (⟨#[]⟩, 0) s := rfl
theorem empty_append (s : ByteArray) : (⟨#[]⟩ : ByteArray) ++ s = s := by
  apply ByteArray.ext
  simp [ByteArray.data_append]
theorem of_bytes (s : ByteArray) : (⟨#[]⟩ : ByteArray) ++ ⟨s.data.toList.toArray⟩ = s := by
  apply ByteArray.ext
  simp [ByteArray.data_append]

set_option maxRecDepth 100000 in
set_option maxHeartbeats 2000000 in
theorem limits_law (w : World) (s : ByteArray) (hs : s.size ≤ maxLen) (m : Int) (hm : (Lit.int .i64 m).wf = true) :
    Calls Try.prog 4 #[.string s, .int .i64 m] w fun e w' => e = .returned (.bool true) ∧ Keep0 w w' := by
  have hb := bounds_i64 hm
  by_cases hl : (s.size : Int) ≤ 200
  · go_enter Try.func4, Try.ntmps4
    go_wp2_with (go_at_call 5; refine (awake02 w).mono ?_; rintro e w1 ⟨rfl, k1⟩)
    -- the nil pen
    refine (pbyte_nil _ 1 _ _ (fun _ => 1) ?_).mono ?_
    · intro i hi
      obtain rfl : i = 0 := by omega
      exact ⟨_, _, rfl, cell_alloc w1 _ rfl⟩
    rintro e w2 ⟨rfl, hw⟩
    have k2 := (k1.alloc _).step0 (keepN hw)
    clear hw k1
    go_wp2_with fail
    refine (ptext_nil _ 1 _ _ (fun _ => s) ?_).mono ?_
    · intro i hi
      obtain rfl : i = 0 := by omega
      exact ⟨_, _, rfl, cell_alloc w2 _ rfl⟩
    rintro e w3 ⟨rfl, hw⟩
    have k3 := (k2.alloc _).step0 (keepN hw)
    clear hw k2
    go_wp2_with (first | (go_at_call 12; refine (pfail_nil _ _).mono ?_; rintro e w' ⟨rfl, rfl⟩) | (go_at_call 14; refine (pend_nil _).mono ?_; rintro e w' ⟨rfl, rfl⟩) | (go_at_call 16; refine (perr_nil _).mono ?_; rintro e w' ⟨rfl, rfl⟩) | (go_at_call 17; refine (plen_nil _).mono ?_; rintro e w' ⟨rfl, rfl⟩))
    refine (pnew_any w3 m hb.2).mono ?_
    rintro e w4 ⟨rfl, hp4, k4⟩
    go_wp2_with fail
    refine (pnew_any w4 m hb.2).mono ?_
    rintro e w5 ⟨rfl, hq5, k5⟩
    have hp5 := hp4.keep0 k5
    have l34 := hp4.lt
    have l45 := hq5.lt
    have kA := (Keep.refl (fun _ => False) w5).alloc (.cells #[.string s] 9)
    have lo := pMax_lo m
    have hbig : pMax m ≤ 9223372036854775807 := hp4.mx
    go_wp2_with fail
    refine (ptext_any (hp5.keep0 kA) _ _ [s] ?_ (by simp) (.inl (by rw [size_nil]; simp; omega))).mono ?_
    · intro k hk
      obtain rfl : k = 0 := by simp at hk; omega
      exact ⟨w5.heap.size, 0, rfl, cell_alloc w5 _ rfl, by omega, by omega⟩
    rw [one_list]
    rintro e w6 ⟨rfl, r6, hp6, k6, hr6⟩
    have hq6 := (hq5.keep0 kA).keep k6 (by simp only [two]; omega) (by simp only [two]; omega)
    have kw6 : Keep0 w w6 := ((((k3.step0 k4).step0 k5).step0 kA).step k6 (fun i hi hh => by have := k3.size; simp only [two] at hh; omega))
    have hszA := kA.size
    have s6 : w5.heap.size ≤ w6.heap.size := Nat.le_trans hszA k6.size
    have hrlt := hp6.rlt
    obtain ⟨cap7, w7, hcv, k7, hc7⟩ := bytes_of 9 28 Try.underlying9 Try.underlying28 w6 s
    have hp7 := hp6.keep0 k7
    have hq7 := hq6.keep0 k7
    go_wp2_with fail
    refine (pbyte_any hq7 _ _ s.data.toList ?_ (by simp; omega) (.inl (by rw [size_nil]; simp; omega))).mono ?_
    · intro k hk
      exact ⟨w6.heap.size, 0, rfl, hc7 k hk, by omega, by omega⟩
    clear hcv hc7
    rintro e w8 ⟨rfl, r8, hq8, k8, hr8⟩
    have hp8 := hp7.keep k8 (by simp only [two]; omega) (by simp only [two]; rcases hr6 with rfl | hr6; omega; have : w5.heap.size ≤ r6 := Nat.le_trans hszA hr6; omega)
    have kw8 : Keep0 w w8 := (kw6.step0 k7).step k8 (fun i hi hh => by have := k3.size; simp only [two] at hh; omega)
    clear hp7 hq7 hp6 hq6 hq5 hp5 hp4 k3 k4 k5 k6 k7 k8 kA kw6 hr6 hr8 hszA s6 hrlt
    by_cases hA : (s.size : Int) ≤ pMax m
    · rw [pOne_yes (by rw [size_nil]; omega), empty_append] at hp8
      rw [pAll_ones_yes _ _ _ (by rw [size_nil]; simpa using hA), of_bytes] at hq8
      have e1 : pEnd s 0 = s := if_pos rfl
      by_cases hC : (s.size : Int) ≤ m
      · go_wp2_with fail
        refine (pend_any hp8).mono ?_
        rw [e1]
        rintro e w' ⟨rfl, rfl⟩
        go_wp2_with fail
        refine (pend_any hq8).mono ?_
        rw [e1]
        rintro e w' ⟨rfl, rfl⟩
        go_wp2
        go_ret
        exact ⟨rfl, kw8⟩
      · have hz : s.size = 0 := by unfold pMax at hA; split at hA <;> omega
        have hs0 : s = ⟨#[]⟩ := ByteArray.ext (Array.eq_empty_of_size_eq_zero hz)
        subst hs0
        go_wp2_with fail
        refine (pend_any hp8).mono ?_
        rw [e1]
        rintro e w' ⟨rfl, rfl⟩
        go_wp2_with fail
        refine (pend_any hq8).mono ?_
        rw [e1]
        rintro e w' ⟨rfl, rfl⟩
        go_wp2
        go_ret
        exact ⟨rfl, kw8⟩
    · rw [pOne_no (by rw [size_nil]; omega)] at hp8
      obtain ⟨tq, q1, q2⟩ := pAll_ones_no (pMax m) s.data.toList ⟨#[]⟩ lo (by rw [size_nil]; simp; omega)
      rw [q1] at hq8
      have e1 : pEnd ⟨#[]⟩ 3 = ⟨#[]⟩ := if_neg (by decide)
      have e2 : pEnd tq 3 = ⟨#[]⟩ := if_neg (by decide)
      have hC : ¬ (s.size : Int) ≤ m := by unfold pMax at hA; split at hA <;> omega
      have hne : s.toList.isEmpty = false := by
        cases hh : s.toList.isEmpty with
        | false => rfl
        | true =>
          have h1 : s.toList.length = 0 := by rw [List.isEmpty_iff.1 hh]; rfl
          rw [ByteArray.toList_eq, Array.length_toList] at h1
          have : s.data.size = s.size := rfl
          omega
      clear q1
      go_wp2_with fail
      refine (pend_any hp8).mono ?_
      rw [e1]
      rintro e w' ⟨rfl, rfl⟩
      go_wp2_with fail
      refine (pend_any hq8).mono ?_
      rw [e2]
      rintro e w' ⟨rfl, rfl⟩
      go_wp2_with fail
      refine (plen_any hp8).mono ?_
      rintro e w' ⟨rfl, rfl⟩
      go_wp2_with fail
      refine (plen_any hq8).mono ?_
      rintro e w' ⟨rfl, rfl⟩
      go_wp2_with fail
      refine (max0_any _ m).mono ?_
      rintro e w' ⟨rfl, rfl⟩
      go_wp2
      go_ret
      exact ⟨rfl, kw8⟩
  · exact limits_great s m w hl
end Go.Proofs.Ytidkcojfikckaaa
