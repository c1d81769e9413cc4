/-
  Contracts of reading a number (layer 3): the code's fault, look and Take, and the document's own Take, each proved over this seat's translation.
  Conditions: the cursor's place lies within its text, which takes at most the greatest length that a string may have.
-/
import Derived.Test.YtaleennijfefnaaGreatCursor
import Derived.Test.YtaleennijfefnaaGreatVar
import Derived.PlainAid
namespace Go.Proofs.YtaleennijfefnaaGreat
open Go.RowKit
open Go.PlainAid (bt get_bt bt_nonneg bt_le)

/-- What is wrong with the i-th byte. -/
def vFault (i b : Int) : Int := if i = 9 ∧ 1 < b then 5 else if 0 < i ∧ b = 0 then 4 else 0
theorem fault_any (w : World) (i b : Int) : Calls Tryz.prog 95 #[.int .i64 i, .int .u8 b] w fun e w' => e = .returned (.int .i64 (vFault i b)) ∧ w = w' := by
  by_cases h1 : i = 9 ∧ 1 < b
  · have q : vFault i b = 5 := if_pos h1
    rw [q]
    clear q
    obtain ⟨rfl, h1⟩ := h1
    go_enter Tryz.func95, Tryz.ntmps95
    go_wp2
    go_ret
    exact ⟨rfl, rfl⟩
  · by_cases h2 : 0 < i ∧ b = 0
    · have q : vFault i b = 4 := (if_neg h1).trans (if_pos h2)
      rw [q]
      clear q
      obtain ⟨h2, rfl⟩ := h2
      clear h1
      go_enter Tryz.func95, Tryz.ntmps95
      go_wp2
      all_goals go_ret
      all_goals exact ⟨rfl, rfl⟩
    · have q : vFault i b = 0 := (if_neg h1).trans (if_neg h2)
      rw [q]
      clear q
      by_cases h9 : i = 9
      · subst h9
        have hb : ¬ 1 < b := by omega
        have hb0 : b ≠ 0 := by omega
        have hb1 : (b == 0) = false := by simpa using hb0
        clear h1 h2 hb0
        go_enter Tryz.func95, Tryz.ntmps95
        go_wp2
        all_goals go_ret
        all_goals exact ⟨rfl, rfl⟩
      · have h9' : (i == 9) = false := by simpa using h9
        clear h1 h9
        by_cases hi : 0 < i
        · have hb1 : (b == 0) = false := by
            have : b ≠ 0 := by omega
            simpa using this
          clear h2
          go_enter Tryz.func95, Tryz.ntmps95
          go_wp2
          all_goals go_ret
          all_goals exact ⟨rfl, rfl⟩
        · clear h2
          go_enter Tryz.func95, Tryz.ntmps95
          go_wp2
          all_goals go_ret
          all_goals exact ⟨rfl, rfl⟩

/-- Three results of reading. -/
def vNum (p : Nat × Nat × Int) : Int := if p.2.2 = 0 then p.1 else 0
set_option maxRecDepth 100000 in
theorem look_of {w : World} {b : Nat} {s : ByteArray} {a x : Int} (h : Cur w b s a x) (T : ByteArray) (hT : cAhead s a 10 = T) (h10 : T.size ≤ 10) (p : Nat × Nat × Int) (hp : vRd 10 T.data.toList = p) :
    Calls Tryz.prog 89 #[.func (.func 90) #[ptr b] #[]] w fun e w' => e = .returned (.tuple #[.int .u64 (vNum p), .int .i64 p.2.1, .int .i64 p.2.2]) ∧ ∃ n, w' = w.drewN n := by
  have hget := get_bt T
  go_enter Tryz.func89, Tryz.ntmps89
  go_wp2_with (go_at_call 90; refine (ahead_any 10 h).mono ?_; rw [hT]; rintro e w1 ⟨rfl, hw0⟩; have hw : Hid (∃ n, w1 = w.drewN n) := hw0; clear hw0)
  go_loopw [6, 13] (fun n i wr => ∃ (k N : Nat), k ≤ T.size ∧ k ≤ 9 ∧ i = .int .i64 k ∧ n = .int .u64 N ∧ N < 128 ^ k ∧ wr = w1 ∧
      p = (N + (vRd (10 - k) (T.data.toList.drop k)).1 * 128 ^ k, k + (vRd (10 - k) (T.data.toList.drop k)).2.1, (vRd (10 - k) (T.data.toList.drop k)).2.2)) (fun _ i _ => T.size - (intOf i).toNat)
  case atStart => exact ⟨0, 0, by omega, by omega, rfl, rfl, by decide, rfl, by rw [← hp]; simp⟩
  case round =>
    obtain ⟨k, N, hk, hk9, rfl, rfl, hN, rfl, hrel⟩ := hrel
    by_cases hlt : k < T.size
    · have hlt' : k < T.data.toList.length := by simpa using hlt
      have hdrop : T.data.toList.drop k = T.data.toList[k] :: T.data.toList.drop (k + 1) := List.drop_eq_getElem_cons (by simpa using hlt)
      have hbt : bt T k = (T.data.toList[k].toNat : Int) := by rw [← hget k hlt]; rfl
      obtain ⟨j, hj⟩ : ∃ j, 10 - k = j + 1 := ⟨9 - k, by omega⟩
      rw [hdrop, hj] at hrel
      generalize T.data.toList[k] = c at *
      clear hdrop hlt'
      obtain rfl : j = 9 - k := by omega
      clear hj
      have hc := c.toNat_lt
      by_cases h1 : k = 9 ∧ 1 < c.toNat
      · rw [vRd_over (by omega)] at hrel
        have q : vFault k c.toNat = 5 := if_pos (by omega)
        have HR0 : p = (N, k, 5) := by rw [hrel]; simp
        have HR : Hid (p = (N, k, 5)) := HR0
        clear HR0
        clear hrel hN h1
        go_wp2_with (go_at_call 95; refine (fault_any _ _ _).mono ?_; rw [q]; rintro e w' ⟨rfl, rfl⟩)
        go_ret3
        exact ⟨by rw [HR.out]; rfl, hw.out⟩
      · by_cases h2 : c.toNat = 0 ∧ 0 < k
        · rw [vRd_minimal (by omega) (by omega)] at hrel
          have q : vFault k c.toNat = 4 := (if_neg (by omega)).trans (if_pos (by omega))
          have HR0 : p = (N, k, 4) := by rw [hrel]; simp
          have HR : Hid (p = (N, k, 4)) := HR0
          clear HR0
          clear hrel hN h1 h2
          go_wp2_with (go_at_call 95; refine (fault_any _ _ _).mono ?_; rw [q]; rintro e w' ⟨rfl, rfl⟩)
          go_ret3
          exact ⟨by rw [HR.out]; rfl, hw.out⟩
        · have q : vFault k c.toNat = 0 := (if_neg (by omega)).trans (if_neg (by omega))
          by_cases h3 : c.toNat < 128
          · rw [vRd_last (by omega) (by omega) h3] at hrel
            have HR : Hid (p = (N + c.toNat * 128 ^ k, k + 1, 0)) := hrel
            have h3' : (c.toNat : Int) < 128 := by omega
            clear hrel h2
            have H1 : Hid (¬(k = 9 ∧ 1 < c.toNat)) := h1
            have H2 : Hid (N < 128 ^ k) := hN
            clear h1 hN
            go_wp2_with (go_at_call 95; refine (fault_any _ _ _).mono ?_; rw [q]; rintro e w' ⟨rfl, rfl⟩)
            go_ret3
            refine ⟨?_, hw.out⟩
            have h1 := H1.out
            rw [HR.out, acc_or k N c.toNat H2.out hk9 (by omega), Nat.mod_eq_of_lt h3]
            rfl
          · rw [vRd_more (by omega) h3] at hrel
            have h3' : ¬ (c.toNat : Int) < 128 := by omega
            have HR0 : (p = (N + (c.toNat - 128) * 128 ^ k + (vRd (9 - k) (T.data.toList.drop (k + 1))).1 * 128 ^ (k + 1), k + 1 + (vRd (9 - k) (T.data.toList.drop (k + 1))).2.1, (vRd (9 - k) (T.data.toList.drop (k + 1))).2.2)) := by
              rw [hrel]
              have e1 : 128 ^ (k + 1) = 128 ^ k * 128 := Nat.pow_succ _ _
              rw [e1]
              generalize 128 ^ k = P
              generalize (vRd (9 - k) (T.data.toList.drop (k + 1))).1 = V
              refine Prod.ext ?_ (Prod.ext ?_ rfl)
              · show N + (V * 128 + (c.toNat - 128)) * P = N + (c.toNat - 128) * P + V * (P * 128)
                rw [Nat.add_mul, Nat.mul_comm P 128, Nat.mul_assoc V 128 P]
                omega
              · show _ + (_ + 1) = _ + 1 + _
                omega
            have HR : Hid (p = (N + (c.toNat - 128) * 128 ^ k + (vRd (9 - k) (T.data.toList.drop (k + 1))).1 * 128 ^ (k + 1), k + 1 + (vRd (9 - k) (T.data.toList.drop (k + 1))).2.1, (vRd (9 - k) (T.data.toList.drop (k + 1))).2.2)) := HR0
            clear hrel h2 HR0
            have H1 : Hid (¬(k = 9 ∧ 1 < c.toNat)) := h1
            have H2 : Hid (N < 128 ^ k) := hN
            clear h1 hN
            go_wp2_with (go_at_call 95; refine (fault_any _ _ _).mono ?_; rw [q]; rintro e w' ⟨rfl, rfl⟩)
            have h1 := H1.out
            have e1 : c.toNat % 128 = c.toNat - 128 := by omega
            have e2 : 10 - (k + 1) = 9 - k := by omega
            have hA := acc_or k N c.toNat H2.out hk9 (by omega)
            have hB := acc_lt k N (c.toNat % 128) H2.out hk9 (by omega) (by omega)
            rw [e1] at hA hB
            go_roundw
            case rel => exact ⟨k + 1, N + (c.toNat - 128) * 128 ^ k, by omega, by omega, by go_num, by rw [hA], hB.1, by trivial, by rw [e2]; exact HR.out⟩
            case measure => simp [intOf]; omega
    · obtain rfl : k = T.size := by omega
      have hdrop : T.data.toList.drop T.size = [] := List.drop_eq_nil_of_le (by simp)
      rw [hdrop, vRd_nil] at hrel
      have HR0 : p = (N, T.size, 2) := by rw [hrel]; simp
      have HR : Hid (p = (N, T.size, 2)) := HR0
      clear HR0
      clear hrel hN
      go_wp2_with fail
      go_ret3
      exact ⟨by rw [HR.out]; rfl, hw.out⟩

theorem vAhead {s : ByteArray} {a : Int} (h0 : 0 ≤ a) (h1 : a ≤ s.size) : (cAhead s a 10).data.toList = (vBytes s a).take 10 ∧ (cAhead s a 10).size ≤ 10 := by
  obtain ⟨i, rfl⟩ := Int.eq_ofNat_of_zero_le h0
  have hsz : s.size = s.data.size := rfl
  have e : (cAhead s (i : Int) 10).data.toList = (vBytes s (i : Int)).take 10 := by
    unfold cAhead vBytes
    rw [if_neg (by omega)]
    split
    · unfold cut
      rw [ByteArray.data_extract, Array.toList_extract, List.extract_eq_take_drop]
      congr 1
      omega
    · unfold cut
      rw [ByteArray.data_extract, Array.toList_extract, List.extract_eq_take_drop]
      have hl : (s.data.toList.drop i).length ≤ 10 := by simp; omega
      simp only [Int.toNat_natCast]
      rw [List.take_of_length_le (by simp), List.take_of_length_le hl]
  refine ⟨e, ?_⟩
  have : (cAhead s (i : Int) 10).size = (cAhead s (i : Int) 10).data.toList.length := by simp
  rw [this, e, List.length_take]
  omega
theorem look_any {w : World} {b : Nat} {s : ByteArray} {a : Int} (h : Cur w b s a 0) :
    Calls Tryz.prog 89 #[.func (.func 90) #[ptr b] #[]] w fun e w' =>
      e = .returned (.tuple #[.int .u64 (tNum s a 0), .int .i64 (vRd 10 (vBytes s a)).2.1, .int .i64 (tErr s a 0)]) ∧ ∃ n, w' = w.drewN n := by
  obtain ⟨h1, h2⟩ := vAhead h.lo h.hi
  refine (look_of h _ rfl h2 (vRd 10 (vBytes s a)) (by rw [h1, vRd_take])).mono ?_
  rintro e w' ⟨rfl, hw⟩
  refine ⟨?_, hw⟩
  unfold tNum vNum tErr
  simp

theorem take_any {w : World} {b : Nat} {s : ByteArray} {a x : Int} (h : Cur w b s a x) :
    Calls Tryz.prog 81 #[ptr b] w fun e w' => e = .returned (.int .u64 (tNum s a x)) ∧ Cur w' b s (tAt s a x) (tErr s a x) ∧ Keep1 b w w' := by
  by_cases hx : x = 0
  · subst hx
    have lo := h.lo
    have hi := h.hi
    have hl := vBytes_len lo hi
    have hn := vRd_len 10 (vBytes s a)
    generalize hv : (vRd 10 (vBytes s a)).2.1 = v at *
    have q1 : cAt s a 0 v = tAt s a 0 := by unfold cAt tAt; rw [if_pos (by omega), if_pos rfl, hv]
    have q2 : cErr s a 0 v = 0 := by unfold cErr; rw [if_neg (by omega), if_neg (by omega), if_pos (by omega)]
    have q3 : cFail 0 (tErr s a 0) = tErr s a 0 := if_pos rfl
    have hlk := look_any h
    rw [hv] at hlk
    clear hl hn hv lo hi
    go_enter Tryz.func81, Tryz.ntmps81
    go_wp2_with (first | (go_at_call 35; refine (err_any h).mono ?_; rintro e w' ⟨rfl, rfl⟩) | (go_at_call 89; refine hlk.mono ?_; rintro e w1 ⟨rfl, hw⟩; have k1 := keepN hw; clear hw hlk; have h1 := h.keep0 k1) | (go_at_call 72; refine (bytes_any v h1).mono ?_; rw [q1, q2]; rintro e w2 ⟨rfl, h2, k2⟩) | (go_at_call 58; refine (fail_any _ h2).mono ?_; rw [q3]; rintro e w3 ⟨rfl, h3, k3⟩))
    go_ret
    exact ⟨rfl, h3, ((Keep.any k1).trans k2).trans k3⟩
  · have hx' : (x != 0) = true := by simpa using hx
    rw [tNum_err hx, tAt_err hx, tErr_err hx]
    go_enter Tryz.func81, Tryz.ntmps81
    go_wp2_with (go_at_call 35; refine (err_any h).mono ?_; rintro e w' ⟨rfl, rfl⟩)
    go_ret
    exact ⟨rfl, h, Keep.refl _ _⟩
theorem take_nil (w : World) : Calls Tryz.prog 81 #[.pointer none] w fun e w' => e = .returned (.int .u64 0) ∧ w = w' := by
  go_enter Tryz.func81, Tryz.ntmps81
  go_wp2_with (go_at_call 35; refine (err_nil _).mono ?_; rintro e w' ⟨rfl, rfl⟩)
  go_ret
  exact ⟨rfl, rfl⟩

/-! ### the document's own reading -/
theorem Cur.at_eq {w : World} {b : Nat} {s : ByteArray} {a a' e e' : Int} (h : Cur w b s a e) (ha : a = a') (he : e = e') : Cur w b s a' e' := by
  subst ha he
  exact h
theorem weight_more (k : Nat) (hk : k ≤ 8) : IntKind.u64.wrap (((128 ^ k : Nat) : Int) * 128) = ((128 ^ (k + 1) : Nat) : Int) := by
  have hp : 128 ^ (k + 1) = 128 ^ k * 128 := Nat.pow_succ _ _
  have h2 : 128 ^ k ≤ 128 ^ 8 := Nat.pow_le_pow_right (by decide) (by omega)
  rw [IntKind.wrap_u64, hp]
  omega
set_option maxRecDepth 100000 in
set_option maxHeartbeats 2000000 in
theorem rtake_of {w : World} {b : Nat} {s : ByteArray} {i : Nat} (h : Cur w b s i 0) (p : Nat × Nat × Int) (hp : vRd 10 (vBytes s i) = p) :
    Calls Tryz.prog 71 #[ptr b] w fun e w' => e = .returned (.int .u64 (vNum p)) ∧ Cur w' b s (i + p.2.1) p.2.2 ∧ Keep1 b w w' := by
  obtain ⟨h0, h1, h2, h3, h4⟩ := h.cells
  have hget := get_bt s
  have hsz := h.sz
  unfold maxLen at hsz
  go_enter Tryz.func71, Tryz.ntmps71
  go_wp2_with fail
  clear h0 h1 h2 h3 h4
  go_loopw [3, 4, 5] (fun n wt v wr => ∃ (k N j W : Nat), k ≤ 9 ∧ j = i + k ∧ W = 128 ^ k ∧ v = .int .i64 k ∧ n = .int .u64 N ∧ wt = .int .u64 W ∧ N < 128 ^ k ∧ Cur wr b s j 0 ∧ Keep1 b w wr ∧
      p = (N + (vRd (10 - k) ((vBytes s i).drop k)).1 * 128 ^ k, k + (vRd (10 - k) ((vBytes s i).drop k)).2.1, (vRd (10 - k) ((vBytes s i).drop k)).2.2)) (fun _ _ v _ => 10 - (intOf v).toNat)
  case atStart => exact ⟨0, 0, i, 1, by omega, rfl, rfl, rfl, rfl, rfl, by decide, h, Keep.refl _ _, by rw [← hp]; simp⟩
  case round =>
    obtain ⟨k, N, j, W, hk9, hj, hW, rfl, rfl, rfl, hN, hc, hK, hrel⟩ := hrel
    obtain ⟨g0, g1, g2, g3, g4⟩ := hc.cells
    have hdr : (vBytes s i).drop k = s.data.toList.drop j := by unfold vBytes; rw [List.drop_drop, hj]; rfl
    have hdr1 : (vBytes s i).drop (k + 1) = s.data.toList.drop (j + 1) := by unfold vBytes; rw [List.drop_drop, hj]; rfl
    rw [hdr] at hrel
    have hjs := hc.hi
    have HJ : Hid (j = i + k) := hj
    have HW : Hid (W = 128 ^ k) := hW
    by_cases hlt : j < s.size
    · have hlt' : j < s.data.toList.length := by simpa using hlt
      have hdrop : s.data.toList.drop j = s.data.toList[j] :: s.data.toList.drop (j + 1) := List.drop_eq_getElem_cons hlt'
      have hbt : bt s j = (s.data.toList[j].toNat : Int) := by rw [← hget j hlt]; rfl
      obtain ⟨m, hm⟩ : ∃ m, 10 - k = m + 1 := ⟨9 - k, by omega⟩
      rw [hdrop, hm] at hrel
      generalize s.data.toList[j] = c at *
      clear hdrop hlt' hdr
      obtain rfl : m = 9 - k := by omega
      have hcn := c.toNat_lt
      have hne : ((j : Int) == (s.size : Int)) = false := by
        have : (j : Int) ≠ s.size := by omega
        simpa using this
      clear hm hW
      by_cases h1 : k = 9 ∧ 1 < c.toNat
      · rw [vRd_over (by omega)] at hrel
        have HR0 : p = (N, k, 5) := by rw [hrel]; simp
        have HR : Hid (p = (N, k, 5)) := HR0
        clear HR0 hrel hN hdr1 hj
        obtain ⟨rfl, h1⟩ := h1
        have h1' : (1 : Int) < c.toNat := by omega
        go_wp2_with fail
        go_quiet (fail)
        go_wp2_with fail
        go_quiet (fail)
        go_wp2_with fail
        go_ret
        have hj := HJ.out
        refine ⟨by rw [HR.out]; rfl, ?_, ?_⟩
        · rw [HR.out]
          refine Cur.at_eq (Cur.setErr (a := j) (e := 0) (hc.keep0 ?_) 5) (by show (j : Int) = i + ((9 : Nat) : Int); omega) rfl
          first | exact (Keep.refl _ _).drewN _ | exact ((Keep.refl _ _).drewN _).drewN _
        · first | exact (hK.drewN _).set1 _ _ | exact ((hK.drewN _).drewN _).set1 _ _
      · by_cases h2 : c.toNat = 0 ∧ 0 < k
        · rw [vRd_minimal (by omega) (by omega)] at hrel
          have HR0 : p = (N, k, 4) := by rw [hrel]; simp
          have HR : Hid (p = (N, k, 4)) := HR0
          clear HR0 hrel hN hdr1 hj h1
          obtain ⟨h2, h3⟩ := h2
          rw [h2] at hbt
          have h3' : (0 : Int) < k := by omega
          go_wp2_with fail
          go_quiet (fail)
          go_wp2_with fail
          go_quiet (fail)
          go_wp2_with fail
          all_goals go_ret
          all_goals
            have hj := HJ.out
            refine ⟨by rw [HR.out]; rfl, ?_, ?_⟩
            · rw [HR.out]
              refine Cur.at_eq (Cur.setErr (a := j) (e := 0) (hc.keep0 ?_) 4) (by show (j : Int) = i + (k : Int); omega) rfl
              first | exact (Keep.refl _ _).drewN _ | exact ((Keep.refl _ _).drewN _).drewN _
            · first | exact (hK.drewN _).set1 _ _ | exact ((hK.drewN _).drewN _).set1 _ _
        · by_cases h3 : c.toNat < 128
          · rw [vRd_last (by omega) (by omega) h3] at hrel
            have HR : Hid (p = (N + c.toNat * 128 ^ k, k + 1, 0)) := hrel
            by_cases hc0 : c.toNat = 0
            · obtain rfl : k = 0 := by omega
              obtain rfl : N = 0 := by omega
              obtain rfl : W = 1 := HW.out
              rw [hc0] at hbt HR
              clear hrel hN hdr1 h1 h2 h3 hj
              go_wp2_with fail
              go_quiet (fail)
              go_wp2_with fail
              go_quiet (fail)
              go_wp2_with fail
              go_ret
              have hj := HJ.out
              refine ⟨by rw [HR.out]; rfl, ?_, ?_⟩
              · rw [HR.out]
                refine Cur.at_eq (Cur.setAt (a := j) (e := 0) (hc.keep0 ?_) (by omega) (by omega)) (by show (j : Int) + 1 = i + ((0 + 1 : Nat) : Int); omega) rfl
                first | exact (Keep.refl _ _).drewN _ | exact ((Keep.refl _ _).drewN _).drewN _
              · first | exact (hK.drewN _).set1 _ _ | exact ((hK.drewN _).drewN _).set1 _ _
            · have hc0' : ((c.toNat : Int) == 0) = false := by
                have : (c.toNat : Int) ≠ 0 := by omega
                simpa using this
              have hA := acc_add k N c.toNat hN hk9 (by omega)
              rw [Nat.mod_eq_of_lt h3, ← HW.out] at hA
              have h3' : (c.toNat : Int) < 128 := by omega
              have hA' : Hid (IntKind.u64.wrap ((N : Int) + IntKind.u64.wrap ((c.toNat : Int) % 128 * (W : Int))) = ((N + c.toNat * W : Nat) : Int)) := hA
              clear hrel hN hdr1 hj hA h2 hc0
              go_wp2_with fail
              go_quiet (fail)
              go_wp2_with fail
              go_quiet (fail)
              go_wp2_with fail
              all_goals go_ret
              all_goals
                have hj := HJ.out
                refine ⟨?_, ?_, ?_⟩
                · rw [HR.out, hA'.out, HW.out]; rfl
                · rw [HR.out]
                  refine Cur.at_eq (Cur.setAt (a := j) (e := 0) (hc.keep0 ?_) (by omega) (by omega)) (by show (j : Int) + 1 = i + ((k + 1 : Nat) : Int); omega) rfl
                  first | exact (Keep.refl _ _).drewN _ | exact ((Keep.refl _ _).drewN _).drewN _
                · first | exact (hK.drewN _).set1 _ _ | exact ((hK.drewN _).drewN _).set1 _ _
          · have hk8 : k ≤ 8 := by omega
            rw [vRd_more (by omega) h3] at hrel
            have h3' : ¬ (c.toNat : Int) < 128 := by omega
            have HR0 : (p = (N + (c.toNat - 128) * 128 ^ k + (vRd (9 - k) (s.data.toList.drop (j + 1))).1 * 128 ^ (k + 1), k + 1 + (vRd (9 - k) (s.data.toList.drop (j + 1))).2.1, (vRd (9 - k) (s.data.toList.drop (j + 1))).2.2)) := by
              rw [hrel]
              have e1 : 128 ^ (k + 1) = 128 ^ k * 128 := Nat.pow_succ _ _
              rw [e1]
              generalize 128 ^ k = P
              generalize (vRd (9 - k) (s.data.toList.drop (j + 1))).1 = V
              refine Prod.ext ?_ (Prod.ext ?_ rfl)
              · show N + (V * 128 + (c.toNat - 128)) * P = N + (c.toNat - 128) * P + V * (P * 128)
                rw [Nat.add_mul, Nat.mul_comm P 128, Nat.mul_assoc V 128 P]
                omega
              · show _ + (_ + 1) = _ + 1 + _
                omega
            have HR : Hid (p = (N + (c.toNat - 128) * 128 ^ k + (vRd (9 - k) (s.data.toList.drop (j + 1))).1 * 128 ^ (k + 1), k + 1 + (vRd (9 - k) (s.data.toList.drop (j + 1))).2.1, (vRd (9 - k) (s.data.toList.drop (j + 1))).2.2)) := HR0
            have hA := acc_add k N c.toNat hN hk9 (by omega)
            have hB := acc_lt k N (c.toNat % 128) hN hk9 (by omega) (by omega)
            have hC := weight_more k hk8
            rw [← HW.out] at hC
            have e1 : c.toNat % 128 = c.toNat - 128 := by omega
            rw [e1] at hA hB
            rw [← HW.out] at hA
            have e2 : 10 - (k + 1) = 9 - k := by omega
            have hA' : Hid (IntKind.u64.wrap ((N : Int) + IntKind.u64.wrap ((c.toNat : Int) % 128 * (W : Int))) = ((N + (c.toNat - 128) * W : Nat) : Int)) := hA
            have hB' : Hid (N + (c.toNat - 128) * 128 ^ k < 128 ^ (k + 1)) := hB.1
            have hC' : Hid (IntKind.u64.wrap ((W : Int) * 128) = ((128 ^ (k + 1) : Nat) : Int)) := hC
            have hD : Hid (List.drop (k + 1) (vBytes s i) = List.drop (j + 1) s.data.toList) := hdr1
            have hc0' : ((c.toNat : Int) == 0) = false := by
              have : (c.toNat : Int) ≠ 0 := by omega
              simpa using this
            have hk9' : ((k : Int) == 9) = false := by
              have : (k : Int) ≠ 9 := by omega
              simpa using this
            clear hrel hN hdr1 hj hA hB hC HR0 e1 h1 h2
            go_wp2_with fail
            go_quiet (fail)
            go_wp2_with fail
            go_quiet (fail)
            go_wp2_with fail
            have hj := HJ.out
            have hcast : ((j : Int) + 1) = ((j + 1 : Nat) : Int) := by omega
            go_roundw
            case rel =>
              refine ⟨k + 1, N + (c.toNat - 128) * W, j + 1, 128 ^ (k + 1), by omega, by omega, rfl, by go_num, by rw [hA'.out], by rw [hC'.out], by rw [HW.out]; exact hB'.out, ?_, ?_, by rw [e2, hD.out, HW.out]; exact HR.out⟩
              · refine Cur.at_eq (Cur.setAt (a := j) (e := 0) (hc.keep0 ?_) (by omega) (by omega)) hcast rfl
                first | exact (Keep.refl _ _).drewN _ | exact ((Keep.refl _ _).drewN _).drewN _
              · first | exact (hK.drewN _).set1 _ _ | exact ((hK.drewN _).drewN _).set1 _ _
            case measure => simp [intOf]; omega
    · have hdrop : s.data.toList.drop j = [] := List.drop_eq_nil_of_le (by simp; omega)
      rw [hdrop, vRd_nil] at hrel
      have HR0 : p = (N, k, 2) := by rw [hrel]; simp
      have HR : Hid (p = (N, k, 2)) := HR0
      obtain rfl : j = s.size := by omega
      clear HR0 hrel hN hdr1 hj hdr hdrop hW
      go_wp2_with fail
      go_quiet (fail)
      go_wp2_with fail
      go_ret
      have hj := HJ.out
      refine ⟨by rw [HR.out]; rfl, ?_, ?_⟩
      · rw [HR.out]
        refine Cur.at_eq (Cur.setErr (a := s.size) (e := 0) (hc.keep0 ?_) 2) (by show (s.size : Int) = i + (k : Int); omega) rfl
        first | exact (Keep.refl _ _).drewN _ | exact ((Keep.refl _ _).drewN _).drewN _
      · first | exact (hK.drewN _).set1 _ _ | exact ((hK.drewN _).drewN _).set1 _ _
theorem rtake_any {w : World} {b : Nat} {s : ByteArray} {a x : Int} (h : Cur w b s a x) :
    Calls Tryz.prog 71 #[ptr b] w fun e w' => e = .returned (.int .u64 (tNum s a x)) ∧ Cur w' b s (tAt s a x) (tErr s a x) ∧ Keep1 b w w' := by
  by_cases hx : x = 0
  · subst hx
    obtain ⟨i, rfl⟩ := Int.eq_ofNat_of_zero_le h.lo
    refine (rtake_of h _ rfl).mono ?_
    rintro e w' ⟨rfl, h1, h2⟩
    refine ⟨?_, ?_, h2⟩
    · unfold vNum tNum; simp
    · unfold tAt tErr; simpa using h1
  · have hx' : (x != 0) = true := by simpa using hx
    rw [tNum_err hx, tAt_err hx, tErr_err hx]
    obtain ⟨h0, h1, h2, h3, h4⟩ := h.cells
    go_enter Tryz.func71, Tryz.ntmps71
    go_wp2_with fail
    go_ret
    exact ⟨rfl, h, Keep.refl _ _⟩
end Go.Proofs.YtaleennijfefnaaGreat
