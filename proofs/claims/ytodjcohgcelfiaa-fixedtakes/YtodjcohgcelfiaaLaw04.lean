/-
  Contracts of layer 4's Decode and of the document's own; the example that every law begins with; the walk of the law FixedOne.
  Conditions: a string that comes in takes at most the greatest length that a string may have; a number takes 64 bits.
-/
import Derived.Test.YtodjcohgcelfiaaFixTake
import Derived.Test.YtodjcohgcelfiaaFixPut
import Derived.Deep.RegionWith
namespace Go.Proofs.Ytodjcohgcelfiaa
open Go.RowKit

/-- What Decode answers: the number, the error. -/
def dErr4 (k : Int) (s : ByteArray) : Int := cEnd s (fAt s 0 0 k) (fErr s 0 0 k)
def dNum4 (k : Int) (s : ByteArray) : Nat := if dErr4 k s = 0 then fNum s 0 0 k else 0
theorem decode4_any (w : World) (k : Int) (s : ByteArray) (hs : s.size ≤ maxLen) :
    Calls Try.prog 21 #[.int .i64 k, .string s] w fun e w' => e = .returned (.tuple #[.int .u64 (dNum4 k s), .int .i64 (dErr4 k s)]) ∧ Keep0 w w' := by
  by_cases hd : dErr4 k s = 0
  · have q : dNum4 k s = fNum s 0 0 k := if_pos hd
    rw [q, hd]
    go_enter Try.func21, Try.ntmps21
    go_wp2_with fail
    refine (new_any w s hs).mono ?_
    rintro e w1 ⟨rfl, h1, k1⟩
    go_wp2_with fail
    refine (take4_any k h1).mono ?_
    rintro e w2 ⟨rfl, h2, k2⟩
    go_wp2_with fail
    refine (end_any h2).mono ?_
    have hd' : cEnd s (fAt s 0 0 k) (fErr s 0 0 k) = 0 := hd
    rw [hd']
    rintro e w3 ⟨rfl, h3, k3⟩
    go_wp2
    go_ret2
    exact ⟨rfl, (k1.step1 k2 (Nat.le_refl _)).step1 k3 (Nat.le_refl _)⟩
  · have q : dNum4 k s = 0 := if_neg hd
    have hx : (dErr4 k s != 0) = true := by simpa using hd
    rw [q]
    go_enter Try.func21, Try.ntmps21
    go_wp2_with fail
    refine (new_any w s hs).mono ?_
    rintro e w1 ⟨rfl, h1, k1⟩
    go_wp2_with fail
    refine (take4_any k h1).mono ?_
    rintro e w2 ⟨rfl, h2, k2⟩
    go_wp2_with fail
    refine (end_any h2).mono ?_
    have hd' : cEnd s (fAt s 0 0 k) (fErr s 0 0 k) = dErr4 k s := rfl
    rw [hd']
    clear hd'
    rintro e w3 ⟨rfl, h3, k3⟩
    go_wp2
    go_ret2
    exact ⟨rfl, (k1.step1 k2 (Nat.le_refl _)).step1 k3 (Nat.le_refl _)⟩
theorem rdecode4_any (w : World) (k : Int) (s : ByteArray) (hs : s.size ≤ maxLen) :
    Calls Try.prog 22 #[.int .i64 k, .string s] w fun e w' => e = .returned (.tuple #[.int .u64 (dNum4 k s), .int .i64 (dErr4 k s)]) ∧ Keep0 w w' := by
  have h1 := Cur.new w s 28 hs
  have k1 := (Keep.refl (fun _ => False) w).alloc (.cells #[.string s, .int .i64 0, .int .i64 0] 28)
  by_cases hd : dErr4 k s = 0
  · have q : dNum4 k s = fNum s 0 0 k := if_pos hd
    rw [q, hd]
    go_enter Try.func22, Try.ntmps22
    go_wp2_with fail
    refine (rtake4_any k h1).mono ?_
    rintro e w2 ⟨rfl, h2, k2⟩
    go_wp2_with fail
    refine (rend_any h2).mono ?_
    have hd' : cEnd s (fAt s 0 0 k) (fErr s 0 0 k) = 0 := hd
    rw [hd']
    rintro e w3 ⟨rfl, h3, k3⟩
    go_wp2
    go_ret2
    exact ⟨rfl, (k1.step1 k2 (Nat.le_refl _)).step1 k3 (Nat.le_refl _)⟩
  · have q : dNum4 k s = 0 := if_neg hd
    have hx : (dErr4 k s != 0) = true := by simpa using hd
    rw [q]
    go_enter Try.func22, Try.ntmps22
    go_wp2_with fail
    refine (rtake4_any k h1).mono ?_
    rintro e w2 ⟨rfl, h2, k2⟩
    go_wp2_with fail
    refine (rend_any h2).mono ?_
    have hd' : cEnd s (fAt s 0 0 k) (fErr s 0 0 k) = dErr4 k s := rfl
    rw [hd']
    clear hd'
    rintro e w3 ⟨rfl, h3, k3⟩
    go_wp2
    go_ret2
    exact ⟨rfl, (k1.step1 k2 (Nat.le_refl _)).step1 k3 (Nat.le_refl _)⟩

/-! ### what Encode and Decode come to -/
theorem eErr_zero {k : Int} {n : Nat} (h : eErr k n = 0) : ∃ j : Nat, k = j ∧ fIs (j : Int) = true ∧ 1 ≤ j ∧ j ≤ 8 ∧ n < 256 ^ j := by
  cases hf : fIs k with
  | false => rw [eErr_none hf] at h; exact absurd h (by decide)
  | true =>
    by_cases ho : fGreat k < n
    · rw [eErr_over hf ho] at h; exact absurd h (by decide)
    · obtain ⟨j, rfl, h1, h8⟩ := fIs_nat hf
      have hp := fGreat_pow hf
      have hj : ((j : Int)).toNat = j := rfl
      have hpos : 0 < 256 ^ j := Nat.pow_pos (by decide)
      rw [hj] at hp
      exact ⟨j, rfl, hf, h1, h8, by omega⟩
theorem decode4_text {j n : Nat} (hf : fIs (j : Int) = true) (hn : n < 256 ^ j) : dErr4 j (bText j n) = 0 ∧ dNum4 j (bText j n) = n := by
  obtain ⟨e1, e2, e3⟩ := fTake_yes (s := bText j n) (a := 0) (x := 0) hf
  have hsz := bText_size j n
  have hcond : (0 : Int) = 0 ∧ (0 : Int) ≤ (j : Int) ∧ (j : Int) ≤ ((bText j n).size : Int) - 0 := by omega
  have c1 : cBytes (bText j n) 0 0 j = bText j n := by
    unfold cBytes
    rw [if_pos hcond]
    unfold cut
    apply ByteArray.ext
    rw [ByteArray.data_extract]
    have : (0 + (j : Int)).toNat = (bText j n).data.size := by
      show _ = (bText j n).size
      omega
    rw [this]
    simp
  have c2 : cAt (bText j n) 0 0 j = j := by unfold cAt; rw [if_pos hcond]; omega
  have c3 : cErr (bText j n) 0 0 j = 0 := by unfold cErr; rw [if_neg (by decide), if_neg (by omega), if_pos (by omega)]
  have h4 : dErr4 j (bText j n) = 0 := by unfold dErr4 cEnd; rw [e2, e3, c2, c3, if_neg (by omega)]
  refine ⟨h4, ?_⟩
  unfold dNum4
  rw [if_pos h4, e1, c1, bText_list, bNum_enc, Nat.mod_eq_of_lt hn]
theorem put_one (k : Int) (n : Nat) : pEnd (pPut 8 k (⟨#[]⟩, 0) n).1 (pPut 8 k (⟨#[]⟩, 0) n).2 = eText k n ∧ (pPut 8 k (⟨#[]⟩, 0) n).2 = eErr k n := by
  by_cases h : eErr k n = 0
  · obtain ⟨j, rfl, hf, h1, h8, hn⟩ := eErr_zero h
    have hj : ((j : Int)).toNat = j := rfl
    have hz : (⟨#[]⟩ : ByteArray).size = 0 := rfl
    rw [pPut_ok h, eText_yes h, h, hj, pOne_yes (by rw [hz, bText_size]; omega)]
    refine ⟨?_, rfl⟩
    unfold pEnd
    rw [if_pos rfl]
    apply ByteArray.ext
    simp [ByteArray.data_append]
  · rw [pPut_err h, eText_no h]
    have : pFail 0 (eErr k n) = eErr k n := rfl
    rw [this]
    exact ⟨if_neg h, rfl⟩

/-- The example that every law begins with. -/
theorem awake04 (w : World) : Calls Try.prog 6 #[] w fun e w' => e = .returned (.bool true) ∧ Keep0 w w' := by
  have q1 : eErr 2 258 = 0 := by decide
  have q2 : eText 2 258 = ⟨#[1, 2]⟩ := by rw [eText_yes q1]; decide
  go_enter Try.func6, Try.ntmps6
  go_wp2_with fail
  refine (encode4_any w 2 258).mono ?_
  rw [q1, q2]
  rintro e w1 ⟨rfl, k1⟩
  go_wp2
  go_ret
  exact ⟨rfl, k1⟩

set_option maxRecDepth 100000 in
set_option maxHeartbeats 4000000 in
theorem one4_law (w : World) (k : Int) (_ : (Lit.int .i64 k).wf = true) (n : Int) (hn0 : (Lit.int .u64 n).wf = true) (m : Int) (hm0 : (Lit.int .u64 m).wf = true) (s : ByteArray) (hs : s.size ≤ maxLen) :
    Calls Try.prog 5 #[.int .i64 k, .int .u64 n, .int .u64 m, .string s] w fun e w' => e = .returned (.bool true) ∧ Keep0 w w' := by
  have hn := bounds_u64 hn0
  have hm := bounds_u64 hm0
  clear hn0 hm0
  obtain ⟨N, rfl⟩ := Int.eq_ofNat_of_zero_le hn.1
  obtain ⟨M, rfl⟩ := Int.eq_ofNat_of_zero_le hm.1
  have hN : N < 18446744073709551616 := by omega
  obtain ⟨p1, p2⟩ := put_one k N
  have c1 := fun W => encode4_any W k N
  have c2 := fun W => encode4_any W k M
  have c3 := fun W => decode4_any W k s hs
  have c4 := fun W => rdecode4_any W k s hs
  have pm : pMax 8 = 8 := by decide
  have c5 := fun W => rpnew_any W 8
  rw [pm] at c5
  clear pm
  have c6 := fun (W : World) b (h : RPen W b ⟨#[]⟩ 8 0) => rput4_any k N hN h (by decide)
  generalize pPut 8 k (⟨#[]⟩, 0) N = P at *
  obtain ⟨PT, PE⟩ := P
  simp only at p1 p2 c6
  subst p2
  have c7 := fun (W : World) b (h : RPen W b PT 8 (eErr k N)) => rpend_any h
  rw [p1] at c7
  clear p1
  generalize dNum4 k s = D at *
  generalize dErr4 k s = E at *
  by_cases hl : (s.size : Int) ≤ 200
  · by_cases h1 : eErr k N = 0
    · rw [h1] at c1 c6 c7
      by_cases h2 : eErr k M = 0
      · rw [h2] at c2
        obtain ⟨j, rfl, hf, hj1, hj8, hNj⟩ := eErr_zero h1
        obtain ⟨j', hjj, _, _, _, hMj⟩ := eErr_zero h2
        obtain rfl : j = j' := by omega
        have hj : ((j : Int)).toNat = j := rfl
        obtain ⟨d1, d2⟩ := decode4_text hf hNj
        have c8 := fun W => decode4_any W j (bText j N) (by rw [bText_size]; unfold maxLen; omega)
        rw [d1, d2] at c8
        rw [eText_yes h1, hj] at c1 c7
        rw [eText_yes h2, hj] at c2
        have hless := less_text j N M hNj hMj
        rw [← bText_list, ← bText_list] at hless
        clear d1 d2 h1 h2 hNj hMj hN hj1 hj8 hf hjj
        generalize bText j N = A at *
        generalize bText j M = B at *
        go_enter Try.func5, Try.ntmps5
        go_wp2_with (go_at_call 6; refine (awake04 w).mono ?_; rintro e w1 ⟨rfl, k1⟩)
        refine (c3 w1).mono ?_
        rintro e w2 ⟨rfl, k2⟩
        go_wp2_with fail
        refine (c4 w2).mono ?_
        rintro e w3 ⟨rfl, k3⟩
        go_wp2_with fail
        refine (c1 w3).mono ?_
        rintro e w4 ⟨rfl, k4⟩
        go_wp2_with fail
        refine (c2 w4).mono ?_
        rintro e w5 ⟨rfl, k5⟩
        go_wp2_with fail
        refine (c5 w5).mono ?_
        rintro e w6 ⟨rfl, h6, k6⟩
        go_wp2_with fail
        refine (c6 w6 _ h6).mono ?_
        rintro e w7 ⟨rfl, h7, k7⟩
        go_wp2_with fail
        refine (c7 w7 _ h7).mono ?_
        rintro e w8 ⟨rfl, hw8⟩
        have k8 := keepN hw8
        clear hw8
        go_wp2_with fail
        refine (c8 w8).mono ?_
        rintro e w9 ⟨rfl, k9⟩
        go_wp2
        go_ret
        refine ⟨?_, (((((((k1.step0 k2).step0 k3).step0 k4).step0 k5).step0 k6).step1 k7 (((((k1.step0 k2).step0 k3).step0 k4).step0 k5).size)).step0 k8).step0 k9⟩
        refine congrArg (fun b => Ending.returned (.bool b)) (?_ : _ = true)
        rw [ByteArray.toList_eq, ByteArray.toList_eq, hless]
        exact beq_self_eq_true _
      · have hx2 : (eErr k M != 0) = true := by simpa using h2
        generalize eText k N = A at *
        generalize eText k M = B at *
        generalize eErr k M = G at *
        go_enter Try.func5, Try.ntmps5
        go_wp2_with (go_at_call 6; refine (awake04 w).mono ?_; rintro e w1 ⟨rfl, k1⟩)
        refine (c3 w1).mono ?_
        rintro e w2 ⟨rfl, k2⟩
        go_wp2_with fail
        refine (c4 w2).mono ?_
        rintro e w3 ⟨rfl, k3⟩
        go_wp2_with fail
        refine (c1 w3).mono ?_
        rintro e w4 ⟨rfl, k4⟩
        go_wp2_with fail
        refine (c2 w4).mono ?_
        rintro e w5 ⟨rfl, k5⟩
        go_wp2_with fail
        refine (c5 w5).mono ?_
        rintro e w6 ⟨rfl, h6, k6⟩
        go_wp2_with fail
        refine (c6 w6 _ h6).mono ?_
        rintro e w7 ⟨rfl, h7, k7⟩
        go_wp2_with fail
        refine (c7 w7 _ h7).mono ?_
        rintro e w8 ⟨rfl, hw8⟩
        have k8 := keepN hw8
        clear hw8
        go_wp2
        go_ret
        exact ⟨rfl, (((((((k1.step0 k2).step0 k3).step0 k4).step0 k5).step0 k6).step1 k7 (((((k1.step0 k2).step0 k3).step0 k4).step0 k5).size)).step0 k8)⟩
    · have hx1 : (eErr k N != 0) = true := by simpa using h1
      generalize eText k N = A at *
      generalize eText k M = B at *
      generalize eErr k N = F at *
      generalize eErr k M = G at *
      go_enter Try.func5, Try.ntmps5
      go_wp2_with (go_at_call 6; refine (awake04 w).mono ?_; rintro e w1 ⟨rfl, k1⟩)
      refine (c3 w1).mono ?_
      rintro e w2 ⟨rfl, k2⟩
      go_wp2_with fail
      refine (c4 w2).mono ?_
      rintro e w3 ⟨rfl, k3⟩
      go_wp2_with fail
      refine (c1 w3).mono ?_
      rintro e w4 ⟨rfl, k4⟩
      go_wp2_with fail
      refine (c2 w4).mono ?_
      rintro e w5 ⟨rfl, k5⟩
      go_wp2_with fail
      refine (c5 w5).mono ?_
      rintro e w6 ⟨rfl, h6, k6⟩
      go_wp2_with fail
      refine (c6 w6 _ h6).mono ?_
      rintro e w7 ⟨rfl, h7, k7⟩
      go_wp2_with fail
      refine (c7 w7 _ h7).mono ?_
      rintro e w8 ⟨rfl, hw8⟩
      have k8 := keepN hw8
      clear hw8
      go_wp2
      go_ret
      exact ⟨rfl, (((((((k1.step0 k2).step0 k3).step0 k4).step0 k5).step0 k6).step1 k7 (((((k1.step0 k2).step0 k3).step0 k4).step0 k5).size)).step0 k8)⟩
  · go_enter Try.func5, Try.ntmps5
    go_wp2_with (go_at_call 6; refine (awake04 w).mono ?_; rintro e w1 ⟨rfl, k1⟩)
    go_ret
    exact ⟨rfl, k1⟩
end Go.Proofs.Ytodjcohgcelfiaa
