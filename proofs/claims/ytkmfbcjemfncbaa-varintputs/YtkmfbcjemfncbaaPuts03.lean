/-
  The walk of the law VarintPuts, out of the contracts of packages varint, pen and cursor and of the document's own answers.
  Conditions: none beyond that the numbers take 64 bits.
-/
import Derived.Test.YtkmfbcjemfncbaaLaw03
import Derived.Test.YtkmfbcjemfncbaaOpen03
namespace Go.Proofs.Ytkmfbcjemfncbaa
open Go.RowKit

/-- The bytes of numbers, one behind the other. -/
def vCat (ns : List Nat) : List UInt8 := (ns.map vEnc).flatten
theorem pAll_texts (m : Int) : ∀ (ns : List Nat) (t T : ByteArray), pAll m (t, 0) (ns.map vText) = (T, 0) → T.data.toList = t.data.toList ++ vCat ns
  | [], t, T, h => by
    have : t = T := congrArg Prod.fst h
    subst this
    simp [vCat]
  | n :: ns, t, T, h => by
    have h' : pAll m (pOne m (t, 0) (vText n)) (ns.map vText) = (T, 0) := h
    by_cases hf : (t.size : Int) + (vText n).size ≤ m
    · rw [pOne_yes hf] at h'
      rw [pAll_texts m ns _ _ h', ByteArray.data_append, Array.toList_append, List.append_assoc]
      rfl
    · rw [pOne_no hf, pAll_err (by decide)] at h'
      exact absurd (show (3 : Int) = 0 from congrArg Prod.snd h') (by decide)
theorem size_nil03 : (⟨#[]⟩ : ByteArray).size = 0 := rfl
theorem pAll_err_of (m : Int) (p : ByteArray × Int) (l : List ByteArray) : ∃ T X, pAll m p l = (T, X) := ⟨_, _, rfl⟩
theorem vCat_drop {ns : List Nat} {k : Nat} (h : k < ns.length) : vCat (ns.drop k) = vEnc ns[k] ++ vCat (ns.drop (k + 1)) := by
  unfold vCat
  rw [List.drop_eq_getElem_cons h, List.map_cons, List.flatten_cons]
theorem vBytes_step {T : ByteArray} {a : Int} {n : Nat} {l : List UInt8} (h0 : 0 ≤ a) (h : vBytes T a = vEnc n ++ l) : vBytes T (a + (vEnc n).length) = l := by
  unfold vBytes at *
  have e : (a + (vEnc n).length).toNat = a.toNat + (vEnc n).length := by omega
  rw [e, ← List.drop_drop, h, List.drop_left]
theorem take_step {T : ByteArray} {a : Int} {n : Nat} {l : List UInt8} (hn : n < 18446744073709551616) (h : vBytes T a = vEnc n ++ l) : tNum T a 0 = n ∧ tErr T a 0 = 0 ∧ tAt T a 0 = a + (vEnc n).length := by
  have hr := vRd_text hn l
  rw [← h] at hr
  refine ⟨?_, ?_, ?_⟩
  · unfold tNum; rw [hr, if_pos ⟨rfl, rfl⟩]
  · unfold tErr; rw [hr, if_pos rfl]
  · unfold tAt; rw [hr, if_pos rfl]

theorem puts_great (m : Int) (ao : Option Addr) (len cap : Nat) (w : World) (hl : ¬ (len : Int) ≤ 40) : Calls Try.prog 4 #[.int .i64 m, .slice ao len cap] w fun e w' => e = .returned (.bool true) ∧ Keep0 w w' := by
  go_enter Try.func4, Try.ntmps4
  go_wp2_with (go_at_call 7; refine (awake03 w).mono ?_; rintro e w1 ⟨rfl, k1⟩)
  go_ret
  exact ⟨rfl, k1⟩

set_option maxRecDepth 100000 in
set_option maxHeartbeats 8000000 in
theorem puts_law (w : World) (m : Int) (hm0 : (Lit.int .i64 m).wf = true) (ao : Option Addr) (cap : Nat) (ns : List Nat) (_ : ns.length ≤ maxLen) (hns : ∀ n ∈ ns, n < 18446744073709551616) (hc : U64sAt w ao ns) :
    Calls Try.prog 4 #[.int .i64 m, .slice ao ns.length cap] w fun e w' => e = .returned (.bool true) ∧ Keep0 w w' := by
  have hb := bounds_i64 hm0
  clear hm0
  by_cases hl : (ns.length : Int) ≤ 40
  · have HC : Hid (U64sAt w ao ns) := hc
    have HN : Hid (∀ n ∈ ns, n < 18446744073709551616) := hns
    obtain ⟨T, X, hTX⟩ := pAll_err_of (pMax m) (⟨#[]⟩, 0) (ns.map vText)
    have hsum := texts_sum ns hns
    have hTs := pAll_size (pMax m) (ns.map vText) (⟨#[]⟩, 0)
    rw [hTX] at hTs
    simp only [size_nil03] at hTs
    have hT : T.size ≤ 400 := by omega
    have HT : Hid (pAll (pMax m) (⟨#[]⟩, 0) (ns.map vText) = (T, X)) := hTX
    clear hc hns hTX hTs hsum
    go_enter Try.func4, Try.ntmps4
    go_wp2_with (go_at_call 7; refine (awake03 w).mono ?_; rintro e w1 ⟨rfl, k1⟩)
    refine (pnew_any w1 m hb.2).mono ?_
    rintro e w2 ⟨rfl, hp2, k2⟩
    go_wp2_with fail
    refine (rpnew_any w2 m).mono ?_
    rintro e w3 ⟨rfl, hx3, k3⟩
    have hp3 := hp2.keep0 k3
    have l2 := hp2.lt
    have l3 := hx3.lt
    have s1 := k1.size
    have kw3 : Keep0 w w3 := (k1.step0 k2).step0 k3
    go_wp2_with fail
    refine (put_any hp3 ao cap ns HN.out ?_ (by omega) (by rw [size_nil03]; omega)).mono ?_
    · intro k hk
      obtain ⟨bb, off, h1, h2, h3⟩ := HC.out k hk
      exact ⟨bb, off, h1, kw3.cell h3 (fun f => f), by omega, by omega⟩
    rw [HT.out]
    rintro e w4 ⟨rfl, r4, hp4, k4, hr4⟩
    have hx4 := hx3.keep k4 (by simp only [two]; omega)
    have kw4 : Keep0 w w4 := kw3.step k4 (fun i hi hh => by simp only [two] at hh; omega)
    have s4 := k4.size
    have hr4' : r4 = w1.heap.size ∨ w3.heap.size ≤ r4 := hr4
    have hrne : r4 ≠ w2.heap.size := by omega
    clear k4 hr4 hp3 hx3 hp2 k2 k3 kw3
    go_wp2_with fail
    go_loopw [7] (fun i wr => ∃ (k : Nat) (t' : ByteArray) (x' : Int), k ≤ ns.length ∧ i = .int .i64 k ∧ Pen wr w1.heap.size r4 T (pMax m) X ∧ RPen wr w2.heap.size t' (pMax m) x' ∧ pAll (pMax m) (⟨#[]⟩, 0) ((ns.map vText).take k) = (t', x') ∧ Keep0 w wr ∧ w4.heap.size ≤ wr.heap.size) (fun i _ => ns.length - (intOf i).toNat)
    case atStart => exact ⟨0, _, _, by omega, rfl, hp4, hx4, rfl, kw4, Nat.le_refl _⟩
    case round =>
      obtain ⟨k, t', x', hk, rfl, hp, hx, hall, hkp, hsz⟩ := hrel
      by_cases hlt : k < ns.length
      · obtain ⟨bb, off, rfl, hbb, hcell0⟩ := HC.out k hlt
        have hcell := hkp.cell hcell0 (fun f => f)
        have hnk := HN.out ns[k] (by simp)
        have hstep := pAll_take (pMax m) (⟨#[]⟩, 0) (ns.map vText) k (by simpa using hlt)
        rw [hall, List.getElem_map] at hstep
        have hsz' := pAll_size (pMax m) ((ns.map vText).take k) (⟨#[]⟩, 0)
        have hsm := texts_sum (ns.take k) (fun n hn => HN.out n (List.mem_of_mem_take hn))
        have hlk : (ns.take k).length ≤ k := by simp; omega
        rw [hall, ← List.map_take] at hsz'
        simp only [size_nil03] at hsz'
        have ht' : t'.size ≤ 140737488355328 := by omega
        generalize ns[k] = n at *
        have HS : Hid (pAll (pMax m) (⟨#[]⟩, 0) ((ns.map vText).take (k + 1)) = pOne (pMax m) (t', x') (vText n)) := hstep
        clear hcell0 hsz' hsm hlk hstep hall
        go_wp2_with fail
        refine (rput_any n hnk hx ht').mono ?_
        rintro e w5 ⟨rfl, hx5, k5⟩
        have hp5 := hp.keep k5 (by omega) hrne
        have s5 := k5.size
        go_wp2
        go_roundw
        case rel => exact ⟨k + 1, _, _, by omega, by go_num, hp5, hx5, HS.out, hkp.step k5 (fun i hi hh => by omega), by omega⟩
        case measure => simp [intOf]; omega
      · rw [List.take_of_length_le (by simp; omega), HT.out] at hall
        obtain ⟨rfl, rfl⟩ : T = t' ∧ X = x' := ⟨congrArg Prod.fst hall, congrArg Prod.snd hall⟩
        clear hall
        by_cases hX : X = 0
        · subst hX
          have e1 : pEnd T 0 = T := if_pos rfl
          go_wp2_with fail
          refine (pend_any hp).mono ?_
          rw [e1]
          rintro e w' ⟨rfl, rfl⟩
          go_wp2_with fail
          refine (rpend_any hx).mono ?_
          rw [e1]
          rintro e w6 ⟨rfl, hw6⟩
          have k6 := keepN hw6
          have hp6 := hp.keep0 k6
          have hx6 := hx.keep0 k6
          have kw6 := hkp.step0 k6
          clear hw6 k6 hp hx hkp
          obtain ⟨g0, g1, g2, g3, g4⟩ := hx6.cells
          go_wp2_with fail
          go_quiet ((go_at_call 19; exact plen_q hp6))
          go_wp2_with fail
          refine (new_any _ T (by unfold maxLen; omega)).mono ?_
          rintro e w7 ⟨rfl, hc7, k7⟩
          have hc7' : Cur w7 w6.heap.size T 0 0 := hc7
          have kw7 := (kw6.drewN nq).step0 k7
          have s6 := kw6.size
          have hv0 : vBytes T 0 = vCat (ns.drop 0) := (vBytes_zero T).trans (by rw [pAll_texts _ ns _ _ HT.out]; simp)
          clear hc7 k7 g0 g1 g2 g3 g4 hx6 hp6 kw6
          go_wp2_with fail
          go_loopw [13] (fun i wr => ∃ (k : Nat) (a : Int), k ≤ ns.length ∧ i = .int .i64 k ∧ Cur wr w6.heap.size T a 0 ∧ vBytes T a = vCat (ns.drop k) ∧ Keep0 w wr) (fun i _ => ns.length - (intOf i).toNat)
          case atStart => exact ⟨0, 0, by omega, rfl, hc7', hv0, kw7⟩
          case round =>
            clear hk hlt
            obtain ⟨k, a, hk, rfl, hc, hv, hkp⟩ := hrel
            by_cases hlt : k < ns.length
            · obtain ⟨bb, off, rfl, hbb, hcell0⟩ := HC.out k hlt
              have hcell := hkp.cell hcell0 (fun f => f)
              have hnk := HN.out ns[k] (by simp)
              rw [vCat_drop hlt] at hv
              generalize ns[k] = n at *
              obtain ⟨q1, q2, q3⟩ := take_step hnk hv
              have lo := hc.lo
              have hcD : Cur wr.drew _ _ _ _ := hc.keep0 (Keep.refl _ wr).drew
              have hcellD : wr.drew.cell? ⟨bb, off + k, none⟩ = some (.int .u64 (n : Int)) := hcell
              have HV : Hid (vBytes T a = vEnc n ++ vCat (ns.drop (k + 1))) := hv
              have hne : bb ≠ w6.heap.size := by omega
              clear hcell0 hv hc7' hv0
              go_wp2_with fail
              go_region_with (go_at_call 9; refine (take_any hcD).mono ?_; rw [q1, q2, q3]; rintro e w9 ⟨rfl, hc9, k9⟩; have hcell9 := k9.cell hcellD hne)
              all_goals
                go_wp2_with fail
                go_roundw
                case rel => exact ⟨k + 1, _, by omega, by go_num, hc9, vBytes_step lo HV.out, (hkp.drew).step1 k9 s6⟩
                case measure => simp [intOf]; omega
            · have qe : cEnd T a 0 = 0 := by
                rw [List.drop_eq_nil_of_le (by omega)] at hv
                have h1 := vBytes_len hc.lo hc.hi
                rw [hv] at h1
                have h2 : (0 : Int) = T.size - a := h1
                unfold cEnd
                rw [if_neg (by omega)]
              clear hv hc7' hv0
              go_wp2_with (go_at_call 20; refine (end_any hc).mono ?_; rw [qe]; rintro e w9 ⟨rfl, hc9, k9⟩)
              go_ret
              exact ⟨rfl, hkp.step1 k9 s6⟩
        · have e1 : pEnd T X = ⟨#[]⟩ := if_neg hX
          have hX' : (X == 0) = false := by simpa using hX
          have qe : cEnd ⟨#[]⟩ 0 0 = 0 := by decide
          go_wp2_with fail
          refine (pend_any hp).mono ?_
          rw [e1]
          rintro e w' ⟨rfl, rfl⟩
          go_wp2_with fail
          refine (rpend_any hx).mono ?_
          rw [e1]
          rintro e w6 ⟨rfl, hw6⟩
          have k6 := keepN hw6
          have hp6 := hp.keep0 k6
          have hx6 := hx.keep0 k6
          have kw6 := hkp.step0 k6
          clear hw6 k6 hp hx hkp
          obtain ⟨g0, g1, g2, g3, g4⟩ := hx6.cells
          go_wp2_with fail
          go_quiet ((go_at_call 19; exact plen_q hp6))
          go_wp2_with fail
          refine (new_any _ ⟨#[]⟩ (by decide)).mono ?_
          rintro e w7 ⟨rfl, hc7, k7⟩
          have hc7' : Cur w7 w6.heap.size ⟨#[]⟩ 0 0 := hc7
          have kw7 := (kw6.drewN nq).step0 k7
          have s6 := kw6.size
          clear hc7 k7 g0 g1 g2 g3 g4 hx6 hp6 kw6
          go_wp2_with fail
          refine wp_loop_rounds 1 ?_
          rw [rounds_succ]
          go_wp2_with (go_at_call 20; refine (end_any hc7').mono ?_; rw [qe]; rintro e w9 ⟨rfl, hc9, k9⟩)
          all_goals go_ret
          all_goals exact ⟨rfl, kw7.step1 k9 s6⟩
  · exact puts_great m ao ns.length cap w hl
end Go.Proofs.Ytkmfbcjemfncbaa
