/-
  The walk of the law FixedPuts, out of the contracts of packages fixed and pen and of the document's own answers.
  Conditions: none beyond that the numbers take 64 bits.
-/
import Derived.Test.YtodjcohgcelfiaaLaw04
import Derived.Test.YtodjcohgcelfiaaOpen03
namespace Go.Proofs.Ytodjcohgcelfiaa
open Go.RowKit

theorem size_nil04 : (⟨#[]⟩ : ByteArray).size = 0 := rfl
theorem puts4_great (m k : Int) (ao : Option Addr) (len cap : Nat) (w : World) (hl : ¬ (len : Int) ≤ 40) : Calls Try.prog 4 #[.int .i64 m, .int .i64 k, .slice ao len cap] w fun e w' => e = .returned (.bool true) ∧ Keep0 w w' := by
  go_enter Try.func4, Try.ntmps4
  go_wp2_with (go_at_call 6; refine (awake04 w).mono ?_; rintro e w1 ⟨rfl, k1⟩)
  go_ret
  exact ⟨rfl, k1⟩

set_option maxRecDepth 100000 in
set_option maxHeartbeats 8000000 in
theorem puts4_law (w : World) (m : Int) (hm0 : (Lit.int .i64 m).wf = true) (k : Int) (_ : (Lit.int .i64 k).wf = true) (ao : Option Addr) (cap : Nat) (ns : List Nat) (_ : ns.length ≤ maxLen) (hns : ∀ n ∈ ns, n < 18446744073709551616) (hc : U64sAt w ao ns) :
    Calls Try.prog 4 #[.int .i64 m, .int .i64 k, .slice ao ns.length cap] w fun e w' => e = .returned (.bool true) ∧ Keep0 w w' := by
  have hb := bounds_i64 hm0
  clear hm0
  by_cases hl : (ns.length : Int) ≤ 40
  · have HC : Hid (U64sAt w ao ns) := hc
    have HN : Hid (∀ n ∈ ns, n < 18446744073709551616) := hns
    obtain ⟨x0, hx0⟩ : ∃ x0, pStart k 0 = x0 := ⟨_, rfl⟩
    obtain ⟨T, X, hTX⟩ : ∃ T X, pPuts (pMax m) k (⟨#[]⟩, x0) ns = (T, X) := ⟨_, _, rfl⟩
    have hTs := pPuts_size (pMax m) k ns (⟨#[]⟩, x0)
    rw [hTX] at hTs
    simp only [size_nil04] at hTs
    have hT : T.size ≤ 320 := by omega
    have HT : Hid (pPuts (pMax m) k (⟨#[]⟩, x0) ns = (T, X)) := hTX
    clear hc hns hTX hTs
    go_enter Try.func4, Try.ntmps4
    go_wp2_with (go_at_call 6; refine (awake04 w).mono ?_; rintro e w1 ⟨rfl, k1⟩)
    refine (pnew_any w1 m hb.2).mono ?_
    rintro e w2 ⟨rfl, hp2, k2⟩
    go_wp2_with fail
    refine (rpnew_any w2 m).mono ?_
    rintro e w3 ⟨rfl, hx3, k3⟩
    have hp3 := hp2.keep0 k3
    have l2 := hp2.lt
    have l3 := hx3.lt
    have s1 := k1.size
    have kw3 : Keep0 w w3 := (k1.step0 k2).step0 k3
    go_wp2_with fail
    refine (put4_any hp3 k ao cap ns ?_ (by omega) (by rw [size_nil04]; omega)).mono ?_
    · intro i hi
      obtain ⟨bb, off, h1, h2, h3⟩ := HC.out i hi
      exact ⟨bb, off, h1, kw3.cell h3 (fun f => f), by omega, by omega⟩
    rw [hx0, HT.out]
    rintro e w4 ⟨rfl, r4, hp4, k4, hr4⟩
    have hx4 := hx3.keep k4 (by simp only [two]; omega)
    have kw4 : Keep0 w w4 := kw3.step k4 (fun i hi hh => by simp only [two] at hh; omega)
    have s4 := k4.size
    have hr4' : r4 = w1.heap.size ∨ w3.heap.size ≤ r4 := hr4
    have hrne : r4 ≠ w2.heap.size := by omega
    clear k4 hr4 hp3 hx3 hp2 k2 k3 kw3
    generalize hb1 : w1.heap.size = b1 at *
    generalize hb2 : w2.heap.size = b2 at *
    clear hb1 hb2
    go_wp2_with fail
    cases hf : fIs k with
    | false =>
      have e0 : pStart k 0 = 1 := by unfold pStart; rw [hf]; rfl
      obtain rfl : x0 = 1 := by rw [← hx0, e0]
      have e1 : pFail 0 1 = 1 := rfl
      refine (rwidth_any w4 k).mono ?_
      rw [hf]
      rintro e w' ⟨rfl, rfl⟩
      go_wp2_with fail
      refine (rpfail_any 1 hx4).mono ?_
      rw [e1]
      rintro e w5 ⟨rfl, hx5, k5⟩
      have hp5 := hp4.keep k5 (by omega) hrne
      have kw5 : Keep0 w w5 := kw4.step k5 (fun i hi hh => by omega)
      have s5 := k5.size
      clear e0 e1 hx0 k5 hx4 hp4
      go_wp2_with fail
      go_loopw [9] (fun i wr => ∃ (j : Nat) (t' : ByteArray) (x' : Int), j ≤ ns.length ∧ i = .int .i64 j ∧ Pen wr b1 r4 T (pMax m) X ∧ RPen wr b2 t' (pMax m) x' ∧ pPuts (pMax m) k (⟨#[]⟩, 1) (ns.take j) = (t', x') ∧ Keep0 w wr) (fun i _ => ns.length - (intOf i).toNat)
      case atStart => exact ⟨0, _, _, by omega, rfl, hp5, hx5, rfl, kw5⟩
      case round =>
        obtain ⟨j, t', x', hj, rfl, hp, hx, hall, hkp⟩ := hrel
        by_cases hlt : j < ns.length
        · obtain ⟨bb, off, rfl, hbb, hcell0⟩ := HC.out j hlt
          have hcell := hkp.cell hcell0 (fun f => f)
          have hnk := HN.out ns[j] (by simp)
          have hstep := pPuts_take (pMax m) k (⟨#[]⟩, 1) ns j hlt
          have hsz' := pPuts_size (pMax m) k (ns.take j) (⟨#[]⟩, 1)
          rw [hall] at hstep hsz'
          have hlk : (ns.take j).length ≤ j := by simp; omega
          simp only [size_nil04] at hsz'
          have ht' : t'.size ≤ 140737488355328 := by omega
          generalize ns[j] = n at *
          have HS : Hid (pPuts (pMax m) k (⟨#[]⟩, 1) (ns.take (j + 1)) = pPut (pMax m) k (t', x') n) := hstep
          clear hcell0 hsz' hlk hstep hall
          go_wp2_with fail
          refine (rput4_any k n hnk hx ht').mono ?_
          rintro e w6 ⟨rfl, hx6, k6⟩
          have hp6 := hp.keep k6 (by omega) hrne
          go_wp2
          go_roundw
          case rel => exact ⟨j + 1, _, _, by omega, by go_num, hp6, hx6, HS.out, hkp.step k6 (fun i hi hh => by omega)⟩
          case measure => simp [intOf]; omega
        · rw [List.take_of_length_le (by omega), HT.out] at hall
          obtain ⟨rfl, rfl⟩ : T = t' ∧ X = x' := ⟨congrArg Prod.fst hall, congrArg Prod.snd hall⟩
          clear hall
          have c1 := pend_any hp
          have c2 := rpend_any hx
          generalize pEnd T X = Z at c1 c2
          go_wp2_with fail
          refine c1.mono ?_
          rintro e w' ⟨rfl, rfl⟩
          go_wp2_with fail
          refine c2.mono ?_
          rintro e w6 ⟨rfl, hw6⟩
          have k6 := keepN hw6
          have hp6 := hp.keep0 k6
          have hx6 := hx.keep0 k6
          have kw6 := hkp.step0 k6
          clear hw6 k6 hp hx hkp c1 c2
          obtain ⟨g0, g1, g2, g3, g4⟩ := hx6.cells
          go_wp2_with fail
          go_quiet ((go_at_call 20; exact plen_q hp6))
          go_wp2_with fail
          go_ret
          exact ⟨rfl, kw6.drewN _⟩
    | true =>
      have e0 : pStart k 0 = 0 := by unfold pStart; rw [hf]; rfl
      obtain rfl : x0 = 0 := by rw [← hx0, e0]
      refine (rwidth_any w4 k).mono ?_
      rw [hf]
      rintro e w' ⟨rfl, rfl⟩
      have hx5 := hx4
      have hp5 := hp4
      have kw5 := kw4
      clear e0 hx0 hx4 hp4
      go_wp2_with fail
      go_loopw [9] (fun i wr => ∃ (j : Nat) (t' : ByteArray) (x' : Int), j ≤ ns.length ∧ i = .int .i64 j ∧ Pen wr b1 r4 T (pMax m) X ∧ RPen wr b2 t' (pMax m) x' ∧ pPuts (pMax m) k (⟨#[]⟩, 0) (ns.take j) = (t', x') ∧ Keep0 w wr) (fun i _ => ns.length - (intOf i).toNat)
      case atStart => exact ⟨0, _, _, by omega, rfl, hp5, hx5, rfl, kw5⟩
      case round =>
        obtain ⟨j, t', x', hj, rfl, hp, hx, hall, hkp⟩ := hrel
        by_cases hlt : j < ns.length
        · obtain ⟨bb, off, rfl, hbb, hcell0⟩ := HC.out j hlt
          have hcell := hkp.cell hcell0 (fun f => f)
          have hnk := HN.out ns[j] (by simp)
          have hstep := pPuts_take (pMax m) k (⟨#[]⟩, 0) ns j hlt
          have hsz' := pPuts_size (pMax m) k (ns.take j) (⟨#[]⟩, 0)
          rw [hall] at hstep hsz'
          have hlk : (ns.take j).length ≤ j := by simp; omega
          simp only [size_nil04] at hsz'
          have ht' : t'.size ≤ 140737488355328 := by omega
          generalize ns[j] = n at *
          have HS : Hid (pPuts (pMax m) k (⟨#[]⟩, 0) (ns.take (j + 1)) = pPut (pMax m) k (t', x') n) := hstep
          clear hcell0 hsz' hlk hstep hall
          go_wp2_with fail
          refine (rput4_any k n hnk hx ht').mono ?_
          rintro e w6 ⟨rfl, hx6, k6⟩
          have hp6 := hp.keep k6 (by omega) hrne
          go_wp2
          go_roundw
          case rel => exact ⟨j + 1, _, _, by omega, by go_num, hp6, hx6, HS.out, hkp.step k6 (fun i hi hh => by omega)⟩
          case measure => simp [intOf]; omega
        · rw [List.take_of_length_le (by omega), HT.out] at hall
          obtain ⟨rfl, rfl⟩ : T = t' ∧ X = x' := ⟨congrArg Prod.fst hall, congrArg Prod.snd hall⟩
          clear hall
          have c1 := pend_any hp
          have c2 := rpend_any hx
          generalize pEnd T X = Z at c1 c2
          go_wp2_with fail
          refine c1.mono ?_
          rintro e w' ⟨rfl, rfl⟩
          go_wp2_with fail
          refine c2.mono ?_
          rintro e w6 ⟨rfl, hw6⟩
          have k6 := keepN hw6
          have hp6 := hp.keep0 k6
          have hx6 := hx.keep0 k6
          have kw6 := hkp.step0 k6
          clear hw6 k6 hp hx hkp c1 c2
          obtain ⟨g0, g1, g2, g3, g4⟩ := hx6.cells
          go_wp2_with fail
          go_quiet ((go_at_call 20; exact plen_q hp6))
          go_wp2_with fail
          go_ret
          exact ⟨rfl, kw6.drewN _⟩
  · exact puts4_great m k ao ns.length cap w hl
end Go.Proofs.Ytodjcohgcelfiaa
