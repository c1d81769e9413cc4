/-
  The walk of the law PenPlays, out of the contracts of package pen and of the document's own pen.
  Conditions: the acts that come in can be read as data.
-/
import Derived.Test.YtidkcojfikckaaaLaw02
import Derived.Test.YtidkcojfikckaaaRef02
import Derived.Test.YtidkcojfikckaaaOpen02
import Derived.Deep.RegionHeld3
namespace Go.Proofs.Ytidkcojfikckaaa
open Go.RowKit
open Go.Lib (strCells strCells_length strCells_oneCell)

theorem sum_le (l : List ByteArray) (c : Nat) (h : ∀ k (hk : k < l.length), l[k].size ≤ c) : (l.map ByteArray.size).sum ≤ l.length * c := by
  induction l with
  | nil => simp
  | cons s l ih =>
    have h0 : s.size ≤ c := h 0 (by simp)
    have := ih (fun k hk => by have := h (k + 1) (by simpa using hk); simpa only [List.getElem_cons_succ] using this)
    simp only [List.map_cons, List.sum_cons, List.length_cons, Nat.add_mul]
    omega

theorem plays02_great (m : Int) (ao : Option Addr) (len cap : Nat) (w : World) (hl : ¬ (len : Int) ≤ 40) : Calls Try.prog 3 #[.int .i64 m, .slice ao len cap] w fun e w' => e = .returned (.bool true) ∧ Keep0 w w' := by
  go_enter Try.func3, Try.ntmps3
  go_wp2_with (go_at_call 5; refine (awake02 w).mono ?_; rintro e w1 ⟨rfl, k1⟩)
  go_ret
  exact ⟨rfl, k1⟩

set_option maxRecDepth 100000 in
set_option maxHeartbeats 8000000 in
theorem plays02_law (w : World) (m : Int) (hm : (Lit.int .i64 m).wf = true) (ao : Option Addr) (cap : Nat) (al : List PAct) (hacts : PActsAt w ao al) :
    Calls Try.prog 3 #[.int .i64 m, .slice ao al.length cap] w fun e w' => e = .returned (.bool true) ∧ Keep0 w w' := by
  have hb := bounds_i64 hm
  by_cases hl : (al.length : Int) ≤ 40
  · have HA : Hid (PActsAt w ao al) := hacts
    clear hacts
    have hl2 : decide ((40 : Int) < al.length) = false := by simp; omega
    go_enter Try.func3, Try.ntmps3
    go_wp2_with (first | (go_at_call 5; refine (awake02 w).mono ?_; rintro e w1 ⟨rfl, k1⟩) | (go_at_call 6; refine (pnew_any w1 m hb.2).mono ?_; rintro e w2 ⟨rfl, h2, k2⟩) | (go_at_call 7; refine (rpnew_any w2 m).mono ?_; rintro e w3 ⟨rfl, h3, k3⟩))
    have l12 := h2.lt
    have hbig : pMax m ≤ 9223372036854775807 := h2.mx
    have hs1 := k1.size
    generalize pMax m = M at *
    go_loopw [7] (fun i wr => ∃ (k r : Nat) (t : ByteArray) (x : Int), k ≤ al.length ∧ i = .int .i64 k ∧ Pen wr w1.heap.size r t M x ∧ RPen wr w2.heap.size t M x ∧ Keep0 w wr ∧ t.size ≤ k * 8000 ∧ w.heap.size ≤ r ∧ r ≠ w2.heap.size) (fun i _ => al.length - (intOf i).toNat)
    case atStart => exact ⟨0, w1.heap.size, ⟨#[]⟩, 0, by omega, rfl, h2.keep0 k3, h3, (k1.step0 k2).step0 k3, by rw [size_nil]; omega, by omega, by omega⟩
    case round =>
      obtain ⟨k, r, t, x, hk, rfl, hp, hx, hkp, htk, hr1, hr2⟩ := hrel
      by_cases hlt : k < al.length
      · obtain ⟨hok, b, off, rfl, hbl, c0, c1, c2, c3⟩ := HA.out k hlt
        have d0 := hkp.cell c0 (fun f => f)
        have d1 := hkp.cell c1 (fun f => f)
        have d2 := hkp.cell c2 (fun f => f)
        have d3 := hkp.cell c3 (fun f => f)
        clear c0 c1 c2 c3
        have HB : Hid (BytesAt w al[k].bo al[k].B) := hok.bytes
        have HL : Hid (StrsAt w al[k].lo al[k].L) := hok.strs
        clear hok
        generalize al[k] = ac at *
        obtain ⟨K, N, bo, bc, B, lo, lc, L⟩ := ac
        simp only at d0 d1 d2 d3 HB HL
        have hlp := hp.lt
        have hlx := hx.lt
        have hlr := hp.rlt
        by_cases hB : (B.length : Int) ≤ 40
        · have hB' : decide ((40 : Int) < B.length) = false := by simp; omega
          by_cases hL : (L.length : Int) ≤ 40
          · have hL' : decide ((40 : Int) < L.length) = false := by simp; omega
            have kA := (Keep.refl (fun _ => False) wr).alloc (.cells #[.int .i64 K, .int .i64 N, .slice bo B.length bc, .slice lo L.length lc] 31)
            have n1 : (wr.alloc (.cells #[.int .i64 K, .int .i64 N, .slice bo B.length bc, .slice lo L.length lc] 31)).cell? ⟨wr.heap.size, 1, none⟩ = some (.int .i64 N) := cell_alloc wr _ rfl
            have n2 : (wr.alloc (.cells #[.int .i64 K, .int .i64 N, .slice bo B.length bc, .slice lo L.length lc] 31)).cell? ⟨wr.heap.size, 2, none⟩ = some (.slice bo B.length bc) := cell_alloc wr _ rfl
            have n3 : (wr.alloc (.cells #[.int .i64 K, .int .i64 N, .slice bo B.length bc, .slice lo L.length lc] 31)).cell? ⟨wr.heap.size, 3, none⟩ = some (.slice lo L.length lc) := cell_alloc wr _ rfl
            have hpA := hp.keep0 kA
            have hxA := hx.keep0 kA
            have kwA := hkp.step0 kA
            have lA : wr.heap.size < (wr.alloc (.cells #[.int .i64 K, .int .i64 N, .slice bo B.length bc, .slice lo L.length lc] 31)).heap.size := by simp
            by_cases e0 : K = 0
            · subst e0
              go_wp2_with fail
              generalize wr.alloc (.cells #[.int .i64 0, .int .i64 N, .slice bo B.length bc, .slice lo L.length lc] 31) = W0 at *
              refine (pbyte_any hpA bo bc B ?_ (by omega) (.inl (by omega))).mono ?_
              · intro j hj
                obtain ⟨bb, of, f1, f2, f3⟩ := HB.out j hj
                exact ⟨bb, of, f1, kwA.cell f3 (fun f => f), by omega, by omega⟩
              rintro e w4 ⟨rfl, r4, hp4, k4, hr4⟩
              have hx4 := hxA.keep k4 (by simp only [two]; omega)
              have n24 := k4.cell n2 (by simp only [two]; omega)
              have kw4 : Keep0 w w4 := kwA.step k4 (fun i hi hh => by simp only [two] at hh; omega)
              have s4 := k4.size
              have hr4a : w.heap.size ≤ r4 := by have := kwA.size; omega
              have hr4b : r4 ≠ w2.heap.size := by omega
              have hall4 : ∃ q, pAll M (t, x) (B.map one) = q := ⟨_, rfl⟩
              obtain ⟨⟨tT, xT⟩, hq⟩ := hall4
              rw [hq] at hp4
              have hszT : tT.size ≤ (k + 1) * 8000 := by have := pAll_size M (B.map one) (t, x); rw [hq, sum_ones] at this; simp only at this; omega
              have HQ : Hid (pAll M (t, x) (B.map one) = (tT, xT)) := hq
              clear hpA hxA n1 n2 n3 kA hp hx d0 d1 d2 d3 k4 hr4 hq hkp kwA
              generalize wr.heap.size = A at *
              clear wr
              have hAx : ¬ A = w2.heap.size := by omega
              go_wp2_with fail
              go_loopw [9] (fun i wi => ∃ (j : Nat) (t' : ByteArray) (x' : Int), j ≤ B.length ∧ i = .int .i64 j ∧ RPen wi w2.heap.size t' M x' ∧ pAll M (t, x) ((B.map one).take j) = (t', x') ∧ Keep1 w2.heap.size w4 wi) (fun i _ => B.length - (intOf i).toNat)
              case atStart => exact ⟨0, t, x, by omega, rfl, hx4, rfl, Keep.refl _ _⟩
              case round =>
                obtain ⟨j, t', x', hj, rfl, hxi, hall, ki⟩ := hrel
                have n2i := ki.cell n24 hAx
                by_cases hjl : j < B.length
                · obtain ⟨bb, of, rfl, f2, f3⟩ := HB.out j hjl
                  have f4 := ki.cell (kw4.cell f3 (fun f => f)) (by simp; omega)
                  have hst := pAll_take M (t, x) (B.map one) j (by simpa using hjl)
                  rw [hall, List.getElem_map] at hst
                  have hszj := pAll_size M ((B.map one).take j) (t, x)
                  rw [hall, ← List.map_take, sum_ones] at hszj
                  have hsj2 : (B.take j).length ≤ 40 := by simp; omega
                  simp only at hszj
                  have HS : Hid (pAll M (t, x) ((B.map one).take (j + 1)) = pOne M (t', x') (one B[j])) := hst
                  clear hst hall f3
                  generalize B[j] = c at *
                  go_wp2_with fail
                  refine (rpbyte_any c hxi (by omega)).mono ?_
                  rintro e w5 ⟨rfl, hx5, k5⟩
                  go_wp2
                  go_roundw
                  case rel => exact ⟨j + 1, _, _, by omega, by go_num, hx5, HS.out, ki.trans k5⟩
                  case measure => simp [intOf]; omega
                · rw [List.take_of_length_le (by simp; omega), HQ.out] at hall
                  cases hall
                  have hpT := hp4.keep ki (by omega) (by omega)
                  have hxT := hxi
                  have kwT := kw4.step1 ki (by omega)
                  obtain ⟨rT, hrr⟩ : ∃ rT, rT = r4 := ⟨_, rfl⟩
                  have hrT1 : w.heap.size ≤ rT := by omega
                  have hrT2 : rT ≠ w2.heap.size := by omega
                  rw [← hrr] at hpT
                  clear hrr hp4 hx4 hxi ki n24
                  go_wp2_with fail
                  refine (pend_any hpT).mono ?_
                  rintro e w' ⟨rfl, rfl⟩
                  go_wp2_with fail
                  refine (rpend_any hxT).mono ?_
                  rintro e w9 ⟨rfl, hw⟩
                  have k9 := keepN hw
                  have hp9 := hpT.keep0 k9
                  have hx9 := hxT.keep0 k9
                  have kw9 := kwT.step0 k9
                  clear hw hpT hxT kwT k9
                  obtain ⟨g0, g1, g2, g3, g4⟩ := hx9.cells
                  go_wp2_with fail
                  go_quiet ((first | (go_at_call 16; exact perr_q hp9) | (go_at_call 17; exact plen_q hp9)))
                  go_wp2
                  go_roundw
                  case rel => exact ⟨k + 1, rT, tT, xT, by omega, by go_num, hp9.keep0 ((Keep.refl _ _).drewN _), hx9.keep0 ((Keep.refl _ _).drewN _), kw9.drewN _, hszT, hrT1, hrT2⟩
                  case measure => simp [intOf]; omega
            by_cases e1 : K = 1
            · subst e1
              go_wp2_with fail
              generalize wr.alloc (.cells #[.int .i64 1, .int .i64 N, .slice bo B.length bc, .slice lo L.length lc] 31) = W0 at *
              have hbx : ∀ j (hj : j < L.length), ∃ bb of, lo = some ⟨bb, of, none⟩ ∧ bb < w.heap.size ∧ W0.cell? ⟨bb, of + j, none⟩ = some (.string L[j]) := fun j hj => by
                obtain ⟨bb, of, f1, f2, f3⟩ := HL.out j hj
                exact ⟨bb, of, f1, f2, kwA.cell f3 (fun f => f)⟩
              have HW : Hid (∀ j (hj : j < L.length), ∃ bb of, lo = some ⟨bb, of, none⟩ ∧ bb < w.heap.size ∧ W0.cell? ⟨bb, of + j, none⟩ = some (.string L[j])) := hbx
              clear hbx d0 d1 d2 d3 hp hx
              generalize wr.heap.size = A at *
              clear hkp kA
              clear wr
              go_loopw [10] (fun i wi => ∃ (j : Nat), j ≤ L.length ∧ i = .int .i64 j ∧ wi = W0 ∧ ∀ q (hq : q < L.length), q < j → L[q].size ≤ 200) (fun i _ => L.length - (intOf i).toNat)
              case atStart => exact ⟨0, by omega, rfl, rfl, fun q _ h => absurd h (by omega)⟩
              case round =>
                obtain ⟨j, hj, rfl, rfl, hlow⟩ := hrel
                have HLOW : Hid (∀ q (hq : q < L.length), q < j → L[q].size ≤ 200) := hlow
                clear hlow
                by_cases hjl : j < L.length
                · obtain ⟨bb, of, rfl, f2, f3⟩ := HW.out j hjl
                  by_cases hbig2 : (L[j].size : Int) ≤ 200
                  · have hbd : L[j].size ≤ 200 := by omega
                    have HBD : Hid (L[j].size ≤ 200) := hbd
                    clear hbd
                    generalize hsj : L[j] = sj at *
                    have HSJ : Hid (L[j] = sj) := hsj
                    clear hsj
                    have hdd : decide ((200 : Int) < sj.size) = false := by simp; omega
                    go_wp2
                    go_roundw
                    case rel => exact ⟨j + 1, by omega, by go_num, by trivial, fun q hq hlt' => by
                      by_cases hqj : q = j
                      · subst hqj; rw [HSJ.out]; exact HBD.out
                      · exact HLOW.out q hq (by omega)⟩
                    case measure => simp [intOf]; omega
                  · generalize L[j] = sj at *
                    go_wp2
                    go_ret
                    exact ⟨rfl, kwA⟩
                · have hlow2 : ∀ q (hq : q < L.length), L[q].size ≤ 200 := fun q hq => HLOW.out q hq (by omega)
                  have hsum := sum_le L 200 hlow2
                  have HLOW2 : Hid (∀ q (hq : q < L.length), L[q].size ≤ 200) := hlow2
                  clear hlow2 HLOW
                  go_wp2_with fail
                  refine (ptext_any hpA lo lc L ?_ (by omega) (.inl (by omega))).mono ?_
                  · intro q hq
                    obtain ⟨bb, of, f1, f2, f3⟩ := HW.out q hq
                    exact ⟨bb, of, f1, f3, by omega, by omega⟩
                  rintro e w4 ⟨rfl, r4, hp4, k4, hr4⟩
                  have hx4 := hxA.keep k4 (by simp only [two]; omega)
                  have n34 := k4.cell n3 (by simp only [two]; omega)
                  have kw4 : Keep0 w w4 := kwA.step k4 (fun i hi hh => by simp only [two] at hh; omega)
                  have s4 := k4.size
                  have hr4a : w.heap.size ≤ r4 := by have := kwA.size; omega
                  have hr4b : r4 ≠ w2.heap.size := by omega
                  have hall4 : ∃ q, pAll M (t, x) L = q := ⟨_, rfl⟩
                  obtain ⟨⟨tT, xT⟩, hq⟩ := hall4
                  rw [hq] at hp4
                  have hszT : tT.size ≤ (k + 1) * 8000 := by have := pAll_size M L (t, x); rw [hq] at this; simp only at this; omega
                  have HQ : Hid (pAll M (t, x) L = (tT, xT)) := hq
                  clear hpA hxA n1 n2 n3 k4 hr4 hq kwA HW
                  have hAx : ¬ A = w2.heap.size := by omega
                  go_wp2_with fail
                  go_loopw [11] (fun i wi => ∃ (j : Nat) (t' : ByteArray) (x' : Int), j ≤ L.length ∧ i = .int .i64 j ∧ RPen wi w2.heap.size t' M x' ∧ pAll M (t, x) (L.take j) = (t', x') ∧ Keep1 w2.heap.size w4 wi) (fun i _ => L.length - (intOf i).toNat)
                  case atStart => exact ⟨0, t, x, by omega, rfl, hx4, rfl, Keep.refl _ _⟩
                  case round =>
                    obtain ⟨j, t', x', hj, rfl, hxi, hall, ki⟩ := hrel
                    have n3i := ki.cell n34 hAx
                    by_cases hjl : j < L.length
                    · obtain ⟨bb, of, rfl, f2, f3⟩ := HL.out j hjl
                      have f4 := ki.cell (kw4.cell f3 (fun f => f)) (by simp; omega)
                      have hst := pAll_take M (t, x) L j hjl
                      rw [hall] at hst
                      have hszj := pAll_size M (L.take j) (t, x)
                      rw [hall] at hszj
                      have hsj2 := sum_take_le L j
                      have hsj3 := HLOW2.out j hjl
                      simp only at hszj
                      have HS : Hid (pAll M (t, x) (L.take (j + 1)) = pOne M (t', x') L[j]) := hst
                      clear hst hall f3
                      generalize L[j] = sj at *
                      go_wp2_with fail
                      refine (rptext_any sj hxi (by omega)).mono ?_
                      rintro e w5 ⟨rfl, hx5, k5⟩
                      go_wp2
                      go_roundw
                      case rel => exact ⟨j + 1, _, _, by omega, by go_num, hx5, HS.out, ki.trans k5⟩
                      case measure => simp [intOf]; omega
                    · rw [List.take_of_length_le (by omega), HQ.out] at hall
                      cases hall
                      have hpT := hp4.keep ki (by omega) (by omega)
                      have hxT := hxi
                      have kwT := kw4.step1 ki (by omega)
                      obtain ⟨rT, hrr⟩ : ∃ rT, rT = r4 := ⟨_, rfl⟩
                      have hrT1 : w.heap.size ≤ rT := by omega
                      have hrT2 : rT ≠ w2.heap.size := by omega
                      rw [← hrr] at hpT
                      clear hrr hp4 hx4 hxi ki n34
                      go_wp2_with fail
                      refine (pend_any hpT).mono ?_
                      rintro e w' ⟨rfl, rfl⟩
                      go_wp2_with fail
                      refine (rpend_any hxT).mono ?_
                      rintro e w9 ⟨rfl, hw⟩
                      have k9 := keepN hw
                      have hp9 := hpT.keep0 k9
                      have hx9 := hxT.keep0 k9
                      have kw9 := kwT.step0 k9
                      clear hw hpT hxT kwT k9
                      obtain ⟨g0, g1, g2, g3, g4⟩ := hx9.cells
                      go_wp2_with fail
                      go_quiet ((first | (go_at_call 16; exact perr_q hp9) | (go_at_call 17; exact plen_q hp9)))
                      go_wp2
                      go_roundw
                      case rel => exact ⟨k + 1, rT, tT, xT, by omega, by go_num, hp9.keep0 ((Keep.refl _ _).drewN _), hx9.keep0 ((Keep.refl _ _).drewN _), kw9.drewN _, hszT, hrT1, hrT2⟩
                      case measure => simp [intOf]; omega
            by_cases e2 : K = 2
            · subst e2
              go_wp2_with fail
              generalize wr.alloc (.cells #[.int .i64 2, .int .i64 N, .slice bo B.length bc, .slice lo L.length lc] 31) = W0 at *
              refine (pfail_any N hpA).mono ?_
              rintro e w4 ⟨rfl, hp4, k4⟩
              have hx4 := hxA.keep k4 (by omega)
              have n14 := k4.cell n1 (by simp; omega)
              have kw4 : Keep0 w w4 := kwA.step1 k4 (by omega)
              have s4 := k4.size
              clear hpA hxA n1 n2 n3 kA hp hx d0 d1 d2 d3 k4
              go_wp2_with fail
              refine (rpfail_any N hx4).mono ?_
              rintro e w5 ⟨rfl, hxT, k5⟩
              have hpT := hp4.keep k5 (by omega) (by omega)
              have kwT := kw4.step1 k5 (by omega)
              generalize pFail x N = xT at *
              obtain ⟨rT, hrr⟩ : ∃ rT, rT = r := ⟨_, rfl⟩
              have hrT1 : w.heap.size ≤ rT := by omega
              have hrT2 : rT ≠ w2.heap.size := by omega
              rw [← hrr] at hpT
              obtain ⟨tT, htt⟩ : ∃ tT, tT = t := ⟨_, rfl⟩
              have hszT : tT.size ≤ (k + 1) * 8000 := by rw [htt]; omega
              rw [← htt] at hpT hxT
              clear hrr hp4 hx4 k5 n14 htt
              go_wp2_with fail
              refine (pend_any hpT).mono ?_
              rintro e w' ⟨rfl, rfl⟩
              go_wp2_with fail
              refine (rpend_any hxT).mono ?_
              rintro e w9 ⟨rfl, hw⟩
              have k9 := keepN hw
              have hp9 := hpT.keep0 k9
              have hx9 := hxT.keep0 k9
              have kw9 := kwT.step0 k9
              clear hw hpT hxT kwT k9
              obtain ⟨g0, g1, g2, g3, g4⟩ := hx9.cells
              go_wp2_with fail
              go_quiet ((first | (go_at_call 16; exact perr_q hp9) | (go_at_call 17; exact plen_q hp9)))
              go_wp2
              go_roundw
              case rel => exact ⟨k + 1, rT, tT, xT, by omega, by go_num, hp9.keep0 ((Keep.refl _ _).drewN _), hx9.keep0 ((Keep.refl _ _).drewN _), kw9.drewN _, hszT, hrT1, hrT2⟩
              case measure => simp [intOf]; omega
            have f0 : (K == 0) = false := by simpa using e0
            have f1 : (K == 1) = false := by simpa using e1
            have f2 : (K == 2) = false := by simpa using e2
            clear e0 e1 e2
            go_wp2_with fail
            generalize wr.alloc (.cells #[.int .i64 K, .int .i64 N, .slice bo B.length bc, .slice lo L.length lc] 31) = W0 at *
            have hpT := hpA
            have hxT := hxA
            have kwT := kwA
            obtain ⟨rT, hrr⟩ : ∃ rT, rT = r := ⟨_, rfl⟩
            have hrT1 : w.heap.size ≤ rT := by omega
            have hrT2 : rT ≠ w2.heap.size := by omega
            rw [← hrr] at hpT
            obtain ⟨tT, htt⟩ : ∃ tT, tT = t := ⟨_, rfl⟩
            have hszT : tT.size ≤ (k + 1) * 8000 := by rw [htt]; omega
            rw [← htt] at hpT hxT
            obtain ⟨xT, hxx⟩ : ∃ xT, xT = x := ⟨_, rfl⟩
            rw [← hxx] at hpT hxT
            clear hrr htt hxx hpA hxA n1 n2 n3 kA hp hx d0 d1 d2 d3
            refine (pend_any hpT).mono ?_
            rintro e w' ⟨rfl, rfl⟩
            go_wp2_with fail
            refine (rpend_any hxT).mono ?_
            rintro e w9 ⟨rfl, hw⟩
            have k9 := keepN hw
            have hp9 := hpT.keep0 k9
            have hx9 := hxT.keep0 k9
            have kw9 := kwT.step0 k9
            clear hw hpT hxT kwT k9
            obtain ⟨g0, g1, g2, g3, g4⟩ := hx9.cells
            go_wp2_with fail
            go_quiet ((first | (go_at_call 16; exact perr_q hp9) | (go_at_call 17; exact plen_q hp9)))
            go_wp2
            go_roundw
            case rel => exact ⟨k + 1, rT, tT, xT, by omega, by go_num, hp9.keep0 ((Keep.refl _ _).drewN _), hx9.keep0 ((Keep.refl _ _).drewN _), kw9.drewN _, hszT, hrT1, hrT2⟩
            case measure => simp [intOf]; omega
          · go_wp2
            go_ret
            exact ⟨rfl, hkp.alloc _⟩
        · go_wp2
          go_ret
          exact ⟨rfl, hkp.alloc _⟩
      · go_wp2
        go_ret
        exact ⟨rfl, hkp⟩
  · exact plays02_great m ao al.length cap w hl
end Go.Proofs.Ytidkcojfikckaaa
