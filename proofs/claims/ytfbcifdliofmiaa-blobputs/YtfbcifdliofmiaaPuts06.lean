/-
  The walk of the law BlobPuts, out of the contracts of packages blob, pen and cursor and of the document's own answers.
  Conditions: none beyond that a text takes at most the greatest length that a string may have.
-/
import Derived.Test.YtfbcifdliofmiaaLaw06
import Derived.Test.YtfbcifdliofmiaaOpen06
import Derived.Test.YtfbcifdliofmiaaHeld
namespace Go.Proofs.Ytfbcifdliofmiaa
open Go.RowKit

/-- What an act writes. -/
def wAct (M : Int) (p : ByteArray × Int) (a : BAct) : ByteArray × Int := if a.K = 0 then wPut M a.X p a.S else if a.K = 1 then wCount M a.X p a.N else wFlag M p a.B
def wActs (M : Int) (p : ByteArray × Int) (l : List BAct) : ByteArray × Int := l.foldl (wAct M) p
theorem wActs_take (M : Int) (p : ByteArray × Int) (l : List BAct) (k : Nat) (h : k < l.length) : wActs M p (l.take (k + 1)) = wAct M (wActs M p (l.take k)) l[k] := by
  unfold wActs
  rw [List.take_succ_eq_append_getElem h, List.foldl_append]
  rfl
theorem wAct_size (M : Int) (p : ByteArray × Int) (a : BAct) (ha : a.ok) : (wAct M p a).1.size ≤ p.1.size + a.S.size + 10 := by
  unfold wAct
  split
  · exact wPut_size M a.X p a.S (by have := ha.size; unfold maxLen at this; omega)
  · split
    · have := wCount_size M a.X p a.N (by have := ha.n.2; omega)
      omega
    · have := wFlag_size M p a.B
      omega
theorem wAct_zero {M : Int} {p : ByteArray × Int} {a : BAct} {T : ByteArray} (h : wAct M p a = (T, 0)) : p.2 = 0 ∧ ∃ r, T = p.1 ++ r := by
  unfold wAct at h
  split at h
  · obtain ⟨h1, _, h3⟩ := wPut_zero h
    exact ⟨h1, _, by rw [h3, ByteArray.append_assoc]⟩
  · split at h
    · obtain ⟨h1, _, _, h3⟩ := wCount_zero h
      exact ⟨h1, _, h3⟩
    · obtain ⟨h1, h3⟩ := pOne_zero h
      exact ⟨h1, _, h3⟩
theorem wActs_zero (M : Int) : ∀ (l : List BAct) (p : ByteArray × Int) (T : ByteArray), wActs M p l = (T, 0) → p.2 = 0 ∧ ∃ r, T = p.1 ++ r
  | [], p, T, h => by
    have h' : p = (T, 0) := h
    rw [h']
    exact ⟨rfl, ⟨#[]⟩, by apply ByteArray.ext; simp [ByteArray.data_append]⟩
  | a :: l, p, T, h => by
    have h' : wActs M (wAct M p a) l = (T, 0) := h
    obtain ⟨h1, r, h2⟩ := wActs_zero M l _ _ h'
    have h3 : wAct M p a = ((wAct M p a).1, 0) := by rw [← h1]
    obtain ⟨h4, r', h5⟩ := wAct_zero h3
    exact ⟨h4, r' ++ r, by rw [h2, h5, ByteArray.append_assoc]⟩
/-- Of acts that were all written: each beginning has no error, and is a beginning of the whole. -/
theorem wActs_begin {M : Int} {l : List BAct} {T : ByteArray} (h : wActs M (⟨#[]⟩, 0) l = (T, 0)) (k : Nat) : ∃ t r, wActs M (⟨#[]⟩, 0) (l.take k) = (t, 0) ∧ T = t ++ r := by
  have e : wActs M (⟨#[]⟩, 0) l = wActs M (wActs M (⟨#[]⟩, 0) (l.take k)) (l.drop k) := by
    unfold wActs
    rw [← List.foldl_append, List.take_append_drop]
  rw [e] at h
  obtain ⟨h1, r, h2⟩ := wActs_zero M _ _ _ h
  exact ⟨_, r, Prod.ext rfl h1, h2⟩

theorem bput_one {w : World} {b r : Nat} {t : ByteArray} {M x : Int} (h : Pen w b r t M x) (m : Int) (hm : m ≤ 9223372036854775807) (s : ByteArray) (hs : s.size ≤ maxLen) (hfit : t.size + s.size + 10 ≤ 140737488355000) (ty : TypeId) (n : Nat) (hn : n = w.heap.size) :
    Calls Try.prog 18 #[pptr b, .int .i64 m, .slice (some ⟨n, 0, none⟩) 1 1] (w.alloc (.cells #[.string s] ty)) fun e w' => e = .returned (.tuple #[]) ∧ PenAfter w w' b r M (wPut M m (t, x) s) := by
  subst hn
  have k0 : Keep0 w (w.alloc (.cells #[.string s] ty)) := (Keep.refl _ w).alloc _
  have l1 := h.lt
  have l2 := h.rlt
  refine (bput_any (h.keep0 k0) m hm (some ⟨w.heap.size, 0, none⟩) 1 [s] (by unfold maxLen; simp) (by simpa using hs) ?_ (.inl (by simpa using hfit))).mono ?_
  · intro k hk
    obtain rfl : k = 0 := by simpa using hk
    exact ⟨w.heap.size, 0, rfl, cell_alloc w ty rfl, by omega, by omega⟩
  · rintro e w' ⟨rfl, h1⟩
    exact ⟨rfl, PenAfter.trans k0.any (.inl rfl) h1⟩

theorem puts6_great (m : Int) (ao : Option Addr) (len cap : Nat) (w : World) (hl : ¬ (len : Int) ≤ 40) : Calls Try.prog 4 #[.int .i64 m, .slice ao len cap] w fun e w' => e = .returned (.bool true) ∧ Keep0 w w' := by
  go_enter Try.func4, Try.ntmps4
  go_wp2_with (go_at_call 6; refine (awake06 w).mono ?_; rintro e w1 ⟨rfl, k1⟩)
  go_ret
  exact ⟨rfl, k1⟩

set_option maxRecDepth 100000 in
set_option maxHeartbeats 8000000 in
theorem puts6_law (w : World) (m : Int) (hm0 : (Lit.int .i64 m).wf = true) (ao : Option Addr) (cap : Nat) (al : List BAct) (hc : BActsAt w ao al) :
    Calls Try.prog 4 #[.int .i64 m, .slice ao al.length cap] w fun e w' => e = .returned (.bool true) ∧ Keep0 w w' := by
  have hb := bounds_i64 hm0
  clear hm0
  by_cases hl : (al.length : Int) ≤ 40
  · have HC : Hid (BActsAt w ao al) := hc
    obtain ⟨M, hM⟩ : ∃ M, pMax m = M := ⟨_, rfl⟩
    obtain ⟨T, E, hTE⟩ : ∃ T E, wActs M (⟨#[]⟩, 0) al = (T, E) := ⟨_, _, rfl⟩
    have HT : Hid (wActs M (⟨#[]⟩, 0) al = (T, E)) := hTE
    clear hc hTE
    go_enter Try.func4, Try.ntmps4
    go_wp2_with fail
    refine (awake06 w).mono ?_
    rintro e w1 ⟨rfl, k1⟩
    go_wp2_with fail
    refine (pnew_any w1 m hb.2).mono ?_
    rw [hM]
    rintro e w2 ⟨rfl, hp2, k2⟩
    go_wp2_with fail
    refine (rpnew_any w2 m).mono ?_
    rw [hM]
    rintro e w3 ⟨rfl, hx3, k3⟩
    have hp3 := hp2.keep0 k3
    have kw3 : Keep0 w w3 := (k1.step0 k2).step0 k3
    have l2 := hp2.lt
    have l3 := hx3.lt
    have s1 := k1.size
    generalize w1.heap.size = b1 at *
    generalize w2.heap.size = b2 at *
    clear k1 k2 k3 hp2
    go_wp2_with fail
    go_loopw [7] (fun i wr => ∃ (j r : Nat) (t : ByteArray) (x : Int), j ≤ al.length ∧ i = .int .i64 j ∧ Pen wr b1 r t M x ∧ RPen wr b2 t M x ∧ wActs M (⟨#[]⟩, 0) (al.take j) = (t, x) ∧ t.size ≤ 210 * j ∧ r ≠ b2 ∧ w.heap.size ≤ r ∧ Keep0 w wr) (fun i _ => al.length - (intOf i).toNat)
    case atStart => exact ⟨0, b1, ⟨#[]⟩, 0, by omega, rfl, hp3, hx3, rfl, by decide, by omega, by omega, kw3⟩
    case round =>
      obtain ⟨j, r, t, x, hj, rfl, hp, hx, hall, hts, hrb, hrw, hkp⟩ := hrel
      clear hp3 hx3 kw3
      by_cases hlt : j < al.length
      · obtain ⟨hok, bb, off, rfl, hbb, g0, g1, g2, g3, g4⟩ := HC.out j hlt
        have g0 := hkp.cell g0 (fun f => f)
        have g1 := hkp.cell g1 (fun f => f)
        have g2 := hkp.cell g2 (fun f => f)
        have g3 := hkp.cell g3 (fun f => f)
        have g4 := hkp.cell g4 (fun f => f)
        have hX := hok.x.2
        have hN := hok.n.2
        have hSs := hok.size
        have hstep := wActs_take M (⟨#[]⟩, 0) al j hlt
        rw [hall] at hstep
        have hwsz := wAct_size M (t, x) al[j] hok
        rw [← hstep] at hwsz
        have hwa : wAct M (t, x) al[j] = if al[j].K = 0 then wPut M al[j].X (t, x) al[j].S else if al[j].K = 1 then wCount M al[j].X (t, x) al[j].N else wFlag M (t, x) al[j].B := rfl
        rw [hwa] at hstep
        clear hok hall hwa
        generalize al[j].K = K at *
        generalize al[j].X = X at *
        generalize al[j].N = N at *
        generalize al[j].S = S at *
        generalize al[j].B = F at *
        have hlt' : (j : Int) < al.length := by omega
        have lc := hp.lt
        have lr := hp.rlt
        have lx := hx.lt
        have k0 : Keep0 wr (wr.alloc (.cells #[.int .i64 K, .int .i64 X, .int .i64 N, .string S, .bool F] 30)) := (Keep.refl _ wr).alloc _
        have f1 : (wr.alloc (.cells #[.int .i64 K, .int .i64 X, .int .i64 N, .string S, .bool F] 30)).cell? ⟨wr.heap.size, 1, none⟩ = some (.int .i64 X) := cell_alloc wr _ rfl
        have f2 : (wr.alloc (.cells #[.int .i64 K, .int .i64 X, .int .i64 N, .string S, .bool F] 30)).cell? ⟨wr.heap.size, 2, none⟩ = some (.int .i64 N) := cell_alloc wr _ rfl
        have f3 : (wr.alloc (.cells #[.int .i64 K, .int .i64 X, .int .i64 N, .string S, .bool F] 30)).cell? ⟨wr.heap.size, 3, none⟩ = some (.string S) := cell_alloc wr _ rfl
        have f4 : (wr.alloc (.cells #[.int .i64 K, .int .i64 X, .int .i64 N, .string S, .bool F] 30)).cell? ⟨wr.heap.size, 4, none⟩ = some (.bool F) := cell_alloc wr _ rfl
        have hp0 := hp.keep0 k0
        have hx0 := hx.keep0 k0
        have kw0 := hkp.step0 k0
        have s0 : (wr.alloc (.cells #[.int .i64 K, .int .i64 X, .int .i64 N, .string S, .bool F] 30)).heap.size = wr.heap.size + 1 := by simp
        by_cases h200 : (S.size : Int) ≤ 200
        · have hts2 : (wActs M (⟨#[]⟩, 0) (al.take (j + 1))).1.size ≤ 210 * (j + 1) := by simp only at hwsz; omega
          have HTS : Hid ((wActs M (⟨#[]⟩, 0) (al.take (j + 1))).1.size ≤ 210 * (j + 1)) := hts2
          have hts3 : t.size ≤ 8400 := by omega
          clear HC hwsz hts2 HT
          by_cases hK0 : K = 0
          · subst hK0
            rw [if_pos rfl] at hstep
            have HST : Hid (wActs M (⟨#[]⟩, 0) (al.take (j + 1)) = wPut M X (t, x) S) := hstep
            clear hstep
            go_wp2_with fail
            generalize wr.alloc (.cells #[.int .i64 0, .int .i64 X, .int .i64 N, .string S, .bool F] 30) = W0 at *
            generalize wr.heap.size = B0 at *
            clear g0 g1 g2 g3 g4 hp hx hkp k0
            refine (bput_one hp0 X hX S hSs (by omega) _ (B0 + 1) s0.symm).mono ?_
            rintro e w4 ⟨rfl, r4, hp4, k4, hr4⟩
            have hx4 := hx0.keep k4 (by simp only [two]; omega)
            have kw4 : Keep0 w w4 := kw0.step k4 (fun i hi hh => by simp only [two] at hh; omega)
            have s4 := k4.size
            have f41 := k4.cell f1 (by simp only [two]; omega)
            have f42 := k4.cell f2 (by simp only [two]; omega)
            have f43 := k4.cell f3 (by simp only [two]; omega)
            have f44 := k4.cell f4 (by simp only [two]; omega)
            clear k4 hp0 hx0 kw0 f1 f2 f3 f4
            go_wp2_with fail
            refine (rbput_any X hX S hx4 (by omega)).mono ?_
            rintro e w5 ⟨rfl, hx5, k5⟩
            have hp5 := hp4.keep k5 (by omega) (by omega)
            have kw5 : Keep0 w w5 := kw4.step1 k5 (by omega)
            clear k5 hp4 hx4 kw4 f41 f42 f43 f44
            rw [← HST.out] at hp5 hx5
            obtain ⟨TT, hTT⟩ : ∃ TT, wActs M (⟨#[]⟩, 0) (al.take (j + 1)) = TT := ⟨_, rfl⟩
            have hts4 := HTS.out
            rw [hTT] at hp5 hx5 hts4
            have HTT : Hid (wActs M (⟨#[]⟩, 0) (al.take (j + 1)) = TT) := hTT
            clear hTT HST HTS
            obtain ⟨TT, EE⟩ := TT
            simp only at hp5 hx5 hts4
            obtain ⟨q0, q1, q2, q3, q4⟩ := hx5.cells
            go_wp2_with fail
            go_quiet ((first | (go_at_call 24; exact perr_q hp5) | (go_at_call 25; exact plen_q hp5)))
            go_wp2
            go_roundw
            case rel => exact ⟨j + 1, r4, TT, EE, by omega, by go_num, hp5.keep0 ((Keep.refl _ _).drewN _), hx5.keep0 ((Keep.refl _ _).drewN _), HTT.out, hts4, by omega, by omega, kw5.drewN _⟩
            case measure => simp [intOf]; omega
          · have hK0' : (K == 0) = false := by simpa using hK0
            rw [if_neg hK0] at hstep
            by_cases hK1 : K = 1
            · subst hK1
              rw [if_pos rfl] at hstep
              have HST : Hid (wActs M (⟨#[]⟩, 0) (al.take (j + 1)) = wCount M X (t, x) N) := hstep
              clear hstep
              go_wp2_with fail
              generalize wr.alloc (.cells #[.int .i64 1, .int .i64 X, .int .i64 N, .string S, .bool F] 30) = W0 at *
              generalize wr.heap.size = B0 at *
              clear g0 g1 g2 g3 g4 hp hx hkp k0
              refine (pcount6_any X N hX hN hp0 (by omega)).mono ?_
              rintro e w4 ⟨rfl, r4, hp4, k4, hr4⟩
              have hx4 := hx0.keep k4 (by simp only [two]; omega)
              have kw4 : Keep0 w w4 := kw0.step k4 (fun i hi hh => by simp only [two] at hh; omega)
              have s4 := k4.size
              have f41 := k4.cell f1 (by simp only [two]; omega)
              have f42 := k4.cell f2 (by simp only [two]; omega)
              have f43 := k4.cell f3 (by simp only [two]; omega)
              have f44 := k4.cell f4 (by simp only [two]; omega)
              clear k4 hp0 hx0 kw0 f1 f2 f3 f4
              go_wp2_with fail
              refine (rpcount_any X N hX hN hx4 (by omega)).mono ?_
              rintro e w5 ⟨rfl, hx5, k5⟩
              have hp5 := hp4.keep k5 (by omega) (by omega)
              have kw5 : Keep0 w w5 := kw4.step1 k5 (by omega)
              clear k5 hp4 hx4 kw4 f41 f42 f43 f44
              rw [← HST.out] at hp5 hx5
              obtain ⟨TT, hTT⟩ : ∃ TT, wActs M (⟨#[]⟩, 0) (al.take (j + 1)) = TT := ⟨_, rfl⟩
              have hts4 := HTS.out
              rw [hTT] at hp5 hx5 hts4
              have HTT : Hid (wActs M (⟨#[]⟩, 0) (al.take (j + 1)) = TT) := hTT
              clear hTT HST HTS
              obtain ⟨TT, EE⟩ := TT
              simp only at hp5 hx5 hts4
              obtain ⟨q0, q1, q2, q3, q4⟩ := hx5.cells
              go_wp2_with fail
              go_quiet ((first | (go_at_call 24; exact perr_q hp5) | (go_at_call 25; exact plen_q hp5)))
              go_wp2
              go_roundw
              case rel => exact ⟨j + 1, r4, TT, EE, by omega, by go_num, hp5.keep0 ((Keep.refl _ _).drewN _), hx5.keep0 ((Keep.refl _ _).drewN _), HTT.out, hts4, by omega, by omega, kw5.drewN _⟩
              case measure => simp [intOf]; omega
            · have hK1' : (K == 1) = false := by simpa using hK1
              rw [if_neg hK1] at hstep
              have HST : Hid (wActs M (⟨#[]⟩, 0) (al.take (j + 1)) = wFlag M (t, x) F) := hstep
              clear hstep
              go_wp2_with fail
              generalize wr.alloc (.cells #[.int .i64 K, .int .i64 X, .int .i64 N, .string S, .bool F] 30) = W0 at *
              generalize wr.heap.size = B0 at *
              clear g0 g1 g2 g3 g4 hp hx hkp k0
              refine (pflag6_any F hp0 (by omega)).mono ?_
              rintro e w4 ⟨rfl, r4, hp4, k4, hr4⟩
              have hx4 := hx0.keep k4 (by simp only [two]; omega)
              have kw4 : Keep0 w w4 := kw0.step k4 (fun i hi hh => by simp only [two] at hh; omega)
              have s4 := k4.size
              have f41 := k4.cell f1 (by simp only [two]; omega)
              have f42 := k4.cell f2 (by simp only [two]; omega)
              have f43 := k4.cell f3 (by simp only [two]; omega)
              have f44 := k4.cell f4 (by simp only [two]; omega)
              clear k4 hp0 hx0 kw0 f1 f2 f3 f4
              go_wp2_with fail
              refine (rpflag_any F hx4 (by omega)).mono ?_
              rintro e w5 ⟨rfl, hx5, k5⟩
              have hp5 := hp4.keep k5 (by omega) (by omega)
              have kw5 : Keep0 w w5 := kw4.step1 k5 (by omega)
              clear k5 hp4 hx4 kw4 f41 f42 f43 f44
              rw [← HST.out] at hp5 hx5
              obtain ⟨TT, hTT⟩ : ∃ TT, wActs M (⟨#[]⟩, 0) (al.take (j + 1)) = TT := ⟨_, rfl⟩
              have hts4 := HTS.out
              rw [hTT] at hp5 hx5 hts4
              have HTT : Hid (wActs M (⟨#[]⟩, 0) (al.take (j + 1)) = TT) := hTT
              clear hTT HST HTS
              obtain ⟨TT, EE⟩ := TT
              simp only at hp5 hx5 hts4
              obtain ⟨q0, q1, q2, q3, q4⟩ := hx5.cells
              go_wp2_with fail
              go_quiet ((first | (go_at_call 24; exact perr_q hp5) | (go_at_call 25; exact plen_q hp5)))
              go_wp2
              go_roundw
              case rel => exact ⟨j + 1, r4, TT, EE, by omega, by go_num, hp5.keep0 ((Keep.refl _ _).drewN _), hx5.keep0 ((Keep.refl _ _).drewN _), HTT.out, hts4, by omega, by omega, kw5.drewN _⟩
              case measure => simp [intOf]; omega
        · clear HC hstep hwsz HT
          go_wp2
          go_ret
          exact ⟨rfl, kw0⟩
      · rw [List.take_of_length_le (by omega), HT.out] at hall
        obtain ⟨rfl, rfl⟩ : T = t ∧ E = x := ⟨congrArg Prod.fst hall, congrArg Prod.snd hall⟩
        have hT : T.size ≤ maxLen := by unfold maxLen; omega
        clear hall hts
        go_wp2_with fail
        refine (pend_any hp).mono ?_
        rintro e w' ⟨rfl, rfl⟩
        go_wp2_with fail
        refine (rpend_any hx).mono ?_
        rintro e w6 ⟨rfl, hw6⟩
        have k6 := keepN hw6
        have kw6 := hkp.step0 k6
        clear hw6 k6 hp hx hkp
        by_cases hE : E = 0
        · subst hE
          have e1 : pEnd T 0 = T := if_pos rfl
          rw [e1]
          clear e1
          have HB := fun k => wActs_begin HT.out k
          go_wp2_with fail
          refine (new_any w6 T hT).mono ?_
          rintro e w7 ⟨rfl, hc7, k7⟩
          have kw7 := kw6.step0 k7
          have l7 := hc7.lt
          have s6 := kw6.size
          generalize w6.heap.size = b3 at *
          clear k7 kw6
          have HBH : Hid (∀ k, ∃ t r, wActs M (⟨#[]⟩, 0) (al.take k) = (t, 0) ∧ T = t ++ r) := HB
          clear HB
          go_wp2_with fail
          go_loopw [14] (fun i wr => ∃ (j : Nat) (t : ByteArray), j ≤ al.length ∧ i = .int .i64 j ∧ wActs M (⟨#[]⟩, 0) (al.take j) = (t, 0) ∧ Cur wr b3 T t.size 0 ∧ Keep0 w wr) (fun i _ => al.length - (intOf i).toNat)
          case atStart => exact ⟨0, ⟨#[]⟩, by omega, rfl, rfl, hc7, kw7⟩
          case round =>
            obtain ⟨j, t, hj, rfl, hw, hc, hkp⟩ := hrel
            clear hc7 kw7
            by_cases hlt : j < al.length
            · obtain ⟨hok, bb, off, rfl, hbb, g0, g1, g2, g3, g4⟩ := HC.out j hlt
              have g0 := hkp.cell g0 (fun f => f)
              have g1 := hkp.cell g1 (fun f => f)
              have g2 := hkp.cell g2 (fun f => f)
              have g3 := hkp.cell g3 (fun f => f)
              have g4 := hkp.cell g4 (fun f => f)
              have hX := hok.x.2
              have hN := hok.n.2
              have hSs := hok.size
              obtain ⟨t', r', hw', hT'⟩ := HBH.out (j + 1)
              have hstep := wActs_take M (⟨#[]⟩, 0) al j hlt
              rw [hw, hw'] at hstep
              have hwa : wAct M (t, 0) al[j] = if al[j].K = 0 then wPut M al[j].X (t, 0) al[j].S else if al[j].K = 1 then wCount M al[j].X (t, 0) al[j].N else wFlag M (t, 0) al[j].B := rfl
              rw [hwa] at hstep
              have HW : Hid (wActs M (⟨#[]⟩, 0) (al.take (j + 1)) = (t', 0)) := hw'
              clear hok hw hw' hwa
              generalize al[j].K = K at *
              generalize al[j].X = X at *
              generalize al[j].N = N at *
              generalize al[j].S = S at *
              generalize al[j].B = F at *
              have hlt' : (j : Int) < al.length := by omega
              have lc := hc.lt
              have k0 : Keep0 wr (wr.alloc (.cells #[.int .i64 K, .int .i64 X, .int .i64 N, .string S, .bool F] 30)) := (Keep.refl _ wr).alloc _
              have f1 : (wr.alloc (.cells #[.int .i64 K, .int .i64 X, .int .i64 N, .string S, .bool F] 30)).cell? ⟨wr.heap.size, 1, none⟩ = some (.int .i64 X) := cell_alloc wr _ rfl
              have f2 : (wr.alloc (.cells #[.int .i64 K, .int .i64 X, .int .i64 N, .string S, .bool F] 30)).cell? ⟨wr.heap.size, 2, none⟩ = some (.int .i64 N) := cell_alloc wr _ rfl
              have f3 : (wr.alloc (.cells #[.int .i64 K, .int .i64 X, .int .i64 N, .string S, .bool F] 30)).cell? ⟨wr.heap.size, 3, none⟩ = some (.string S) := cell_alloc wr _ rfl
              have f4 : (wr.alloc (.cells #[.int .i64 K, .int .i64 X, .int .i64 N, .string S, .bool F] 30)).cell? ⟨wr.heap.size, 4, none⟩ = some (.bool F) := cell_alloc wr _ rfl
              have hc0 := hc.keep0 k0
              have kw0 := hkp.step0 k0
              clear HC HT HBH
              by_cases hK0 : K = 0
              · subst hK0
                rw [if_pos rfl] at hstep
                obtain ⟨_, hfit, ht'⟩ := wPut_zero hstep.symm
                simp only at ht'
                have hTT : T = t ++ (vText S.size ++ (S ++ r')) := by rw [hT', ht', ByteArray.append_assoc, ByteArray.append_assoc]
                obtain ⟨q1, q2, q3⟩ := blob_back (by unfold maxLen at hSs; omega) hfit hTT
                have q4 : (t.size : Int) + (vText S.size).size + S.size = t'.size := by rw [ht']; simp only [ByteArray.size_append]; omega
                rw [q4] at q3
                clear hstep hTT hT' ht' q4 hfit
                go_wp2_with fail
                generalize wr.alloc (.cells #[.int .i64 0, .int .i64 X, .int .i64 N, .string S, .bool F] 30) = W0 at *
                generalize wr.heap.size = B0 at *
                clear g0 g1 g2 g3 g4 hc hkp k0
                have hcD : Cur W0.drew _ _ _ _ := hc0.keep0 (Keep.refl _ W0).drew
                have kD := kw0.drew
                refine wp_region_held_drew (S := fun w' => w'.cell? ⟨B0, 1, none⟩ = some (.int .i64 X) ∧ w'.cell? ⟨B0, 3, none⟩ = some (.string S)) (by kernel_rfl) ⟨f1, f3⟩ (fun hHeld => ?_)
                refine wpAnyH_take (i := 0) (v := ?r00v) (by simp only [List.getElem?_toArray, List.getElem?_cons_zero] <;> rfl) (by kernel_rfl) (by kernel_rfl) (by kernel_rfl) (by exact fun _ _ _ h => h) (Or.inl ⟨by rfl, ?r00y⟩) hHeld ?r00r
                case r00y => intro w hSw; (try dsimp only at hSw); go_simp <;> rfl
                simp only [Act.put, List.setIfInBounds_toArray, List.set_cons_zero, List.set_cons_succ]
                refine wpAnyH_take (i := 1) (v := ?r01v) (by simp only [List.getElem?_toArray, List.getElem?_cons_succ, List.getElem?_cons_zero] <;> rfl) (by kernel_rfl) (by kernel_rfl) (by kernel_rfl) (by exact fun _ _ _ h => h) (Or.inl ⟨by rfl, ?r01y⟩) hHeld ?r01r
                case r01y => intro w hSw; (try dsimp only at hSw); go_simp <;> rfl
                simp only [Act.put, List.setIfInBounds_toArray, List.set_cons_zero, List.set_cons_succ]
                refine wpAnyH_take (i := 2) (v := ?r02v) (by simp only [List.getElem?_toArray, List.getElem?_cons_succ, List.getElem?_cons_zero] <;> rfl) (by kernel_rfl) (by kernel_rfl) (by kernel_rfl) (by exact fun _ _ _ h => h) (Or.inl ⟨by rfl, ?r02y⟩) hHeld ?r02r
                case r02y => intro w hSw; (try dsimp only at hSw); go_simp <;> rfl
                simp only [Act.put, List.setIfInBounds_toArray, List.set_cons_zero, List.set_cons_succ]
                refine wpAnyH_take (i := 4) (v := ?r03v) (by simp only [List.getElem?_toArray, List.getElem?_cons_succ, List.getElem?_cons_zero] <;> rfl) (by kernel_rfl) (by kernel_rfl) (by kernel_rfl) (by exact fun _ _ _ h => h) (Or.inl ⟨by rfl, ?r03y⟩) hHeld ?r03r
                case r03y => intro w hSw; (try dsimp only at hSw); go_simp <;> rfl
                simp only [Act.put, List.setIfInBounds_toArray, List.set_cons_zero, List.set_cons_succ]
                refine wpAnyH_take (i := 5) (v := ?r04v) (by simp only [List.getElem?_toArray, List.getElem?_cons_succ, List.getElem?_cons_zero] <;> rfl) (by kernel_rfl) (by kernel_rfl) (by kernel_rfl) (by exact fun _ _ _ h => h) (Or.inl ⟨by rfl, ?r04y⟩) hHeld ?r04r
                case r04y => intro w hSw; (try dsimp only at hSw); go_simp <;> rfl
                simp only [Act.put, List.setIfInBounds_toArray, List.set_cons_zero, List.set_cons_succ]
                refine wpAnyH_ready (rs := [3]) (by kernel_rfl) (by simp) ?_
                refine AllReadyH.cons (by simp only [List.getElem?_toArray, List.getElem?_cons_succ, List.getElem?_cons_zero] <;> rfl) (fun K hK => ?_) AllReadyH.nil
                go_simp
                refine (blob6_any X hX hcD).mono ?_
                rw [q1, q2, q3]
                rintro e w4 ⟨rfl, hc4, k4⟩
                have kw4 : Keep0 w w4 := kD.step1 k4 (by omega)
                have u1 := k4.cell f1 (by simp only; omega)
                have u3 := k4.cell f3 (by simp only; omega)
                go_wp2_with fail
                refine hK.out _ _ ⟨u1, u3⟩ (fun hHeld => ?_)
                clear hK K
                refine wpAnyH_take (i := 6) (v := ?r05v) (by simp only [List.getElem?_toArray, List.getElem?_cons_succ, List.getElem?_cons_zero] <;> rfl) (by kernel_rfl) (by kernel_rfl) (by kernel_rfl) (by exact fun _ _ _ h => h) (Or.inl ⟨by rfl, ?r05y⟩) hHeld ?r05r
                case r05y => intro w hSw; (try dsimp only at hSw); go_simp <;> rfl
                simp only [Act.put, List.setIfInBounds_toArray, List.set_cons_zero, List.set_cons_succ]
                refine wpAnyH_done (by kernel_rfl) ?_ _
                clear hc0 hcD kD kw0 k4
                go_wp2
                go_roundw
                case rel => exact ⟨j + 1, t', by omega, by go_num, HW.out, hc4, kw4⟩
                case measure => simp [intOf]; omega
              · have hK0' : (K == 0) = false := by simpa using hK0
                rw [if_neg hK0] at hstep
                by_cases hK1 : K = 1
                · subst hK1
                  rw [if_pos rfl] at hstep
                  obtain ⟨_, hn0, hfit, ht'⟩ := wCount_zero hstep.symm
                  obtain ⟨n, rfl⟩ : ∃ n : Nat, N = n := ⟨N.toNat, by omega⟩
                  simp only [Int.toNat_natCast] at ht'
                  have hTT : T = t ++ (vText n ++ r') := by rw [hT', ht', ByteArray.append_assoc]
                  obtain ⟨q1, q2, q3⟩ := count_back (by omega) hfit hTT
                  have q4 : (t.size : Int) + (vText n).size = t'.size := by rw [ht']; simp only [ByteArray.size_append]; omega
                  rw [q4] at q3
                  clear hstep hTT hT' ht' q4 hfit hn0
                  go_wp2_with fail
                  generalize wr.alloc (.cells #[.int .i64 1, .int .i64 X, .int .i64 (n : Int), .string S, .bool F] 30) = W0 at *
                  generalize wr.heap.size = B0 at *
                  clear g0 g1 g2 g3 g4 hc hkp k0
                  have hcD : Cur W0.drew _ _ _ _ := hc0.keep0 (Keep.refl _ W0).drew
                  have kD := kw0.drew
                  refine wp_region_held_drew (S := fun w' => w'.cell? ⟨B0, 1, none⟩ = some (.int .i64 X) ∧ w'.cell? ⟨B0, 2, none⟩ = some (.int .i64 (n : Int))) (by kernel_rfl) ⟨f1, f2⟩ (fun hHeld => ?_)
                  refine wpAnyH_take (i := 0) (v := ?r10v) (by simp only [List.getElem?_toArray, List.getElem?_cons_zero] <;> rfl) (by kernel_rfl) (by kernel_rfl) (by kernel_rfl) (by exact fun _ _ _ h => h) (Or.inl ⟨by rfl, ?r10y⟩) hHeld ?r10r
                  case r10y => intro w hSw; (try dsimp only at hSw); go_simp <;> rfl
                  simp only [Act.put, List.setIfInBounds_toArray, List.set_cons_zero, List.set_cons_succ]
                  refine wpAnyH_take (i := 1) (v := ?r11v) (by simp only [List.getElem?_toArray, List.getElem?_cons_succ, List.getElem?_cons_zero] <;> rfl) (by kernel_rfl) (by kernel_rfl) (by kernel_rfl) (by exact fun _ _ _ h => h) (Or.inl ⟨by rfl, ?r11y⟩) hHeld ?r11r
                  case r11y => intro w hSw; (try dsimp only at hSw); go_simp <;> rfl
                  simp only [Act.put, List.setIfInBounds_toArray, List.set_cons_zero, List.set_cons_succ]
                  refine wpAnyH_take (i := 2) (v := ?r12v) (by simp only [List.getElem?_toArray, List.getElem?_cons_succ, List.getElem?_cons_zero] <;> rfl) (by kernel_rfl) (by kernel_rfl) (by kernel_rfl) (by exact fun _ _ _ h => h) (Or.inl ⟨by rfl, ?r12y⟩) hHeld ?r12r
                  case r12y => intro w hSw; (try dsimp only at hSw); go_simp <;> rfl
                  simp only [Act.put, List.setIfInBounds_toArray, List.set_cons_zero, List.set_cons_succ]
                  refine wpAnyH_take (i := 4) (v := ?r13v) (by simp only [List.getElem?_toArray, List.getElem?_cons_succ, List.getElem?_cons_zero] <;> rfl) (by kernel_rfl) (by kernel_rfl) (by kernel_rfl) (by exact fun _ _ _ h => h) (Or.inl ⟨by rfl, ?r13y⟩) hHeld ?r13r
                  case r13y => intro w hSw; (try dsimp only at hSw); go_simp <;> rfl
                  simp only [Act.put, List.setIfInBounds_toArray, List.set_cons_zero, List.set_cons_succ]
                  refine wpAnyH_take (i := 5) (v := ?r14v) (by simp only [List.getElem?_toArray, List.getElem?_cons_succ, List.getElem?_cons_zero] <;> rfl) (by kernel_rfl) (by kernel_rfl) (by kernel_rfl) (by exact fun _ _ _ h => h) (Or.inl ⟨by rfl, ?r14y⟩) hHeld ?r14r
                  case r14y => intro w hSw; (try dsimp only at hSw); go_simp <;> rfl
                  simp only [Act.put, List.setIfInBounds_toArray, List.set_cons_zero, List.set_cons_succ]
                  refine wpAnyH_ready (rs := [3]) (by kernel_rfl) (by simp) ?_
                  refine AllReadyH.cons (by simp only [List.getElem?_toArray, List.getElem?_cons_succ, List.getElem?_cons_zero] <;> rfl) (fun K hK => ?_) AllReadyH.nil
                  go_simp
                  refine (count6_any X hX hcD).mono ?_
                  rw [q1, q2, q3]
                  rintro e w4 ⟨rfl, hc4, k4⟩
                  have kw4 : Keep0 w w4 := kD.step1 k4 (by omega)
                  have u1 := k4.cell f1 (by simp only; omega)
                  have u2 := k4.cell f2 (by simp only; omega)
                  go_wp2_with fail
                  refine hK.out _ _ ⟨u1, u2⟩ (fun hHeld => ?_)
                  clear hK K
                  refine wpAnyH_take (i := 6) (v := ?r15v) (by simp only [List.getElem?_toArray, List.getElem?_cons_succ, List.getElem?_cons_zero] <;> rfl) (by kernel_rfl) (by kernel_rfl) (by kernel_rfl) (by exact fun _ _ _ h => h) (Or.inl ⟨by rfl, ?r15y⟩) hHeld ?r15r
                  case r15y => intro w hSw; (try dsimp only at hSw); go_simp <;> rfl
                  simp only [Act.put, List.setIfInBounds_toArray, List.set_cons_zero, List.set_cons_succ]
                  refine wpAnyH_done (by kernel_rfl) ?_ _
                  clear hc0 hcD kD kw0 k4
                  go_wp2
                  go_roundw
                  case rel => exact ⟨j + 1, t', by omega, by go_num, HW.out, hc4, kw4⟩
                  case measure => simp [intOf]; omega
                · have hK1' : (K == 1) = false := by simpa using hK1
                  rw [if_neg hK1] at hstep
                  obtain ⟨_, ht'⟩ := pOne_zero hstep.symm
                  simp only at ht'
                  have hTT : T = t ++ (one (flagByte F) ++ r') := by rw [hT', ht', ByteArray.append_assoc]
                  obtain ⟨q1, q2, q3⟩ := flag_back hTT
                  have q4 : (t.size : Int) + 1 = t'.size := by rw [ht', ByteArray.size_append, one_size]; omega
                  rw [q4] at q3
                  clear hstep hTT hT' ht' q4
                  go_wp2_with fail
                  generalize wr.alloc (.cells #[.int .i64 K, .int .i64 X, .int .i64 N, .string S, .bool F] 30) = W0 at *
                  generalize wr.heap.size = B0 at *
                  clear g0 g1 g2 g3 g4 hc hkp k0
                  have hcD : Cur W0.drew _ _ _ _ := hc0.keep0 (Keep.refl _ W0).drew
                  have kD := kw0.drew
                  refine wp_region_held_drew (S := fun w' => w'.cell? ⟨B0, 4, none⟩ = some (.bool F)) (by kernel_rfl) f4 (fun hHeld => ?_)
                  refine wpAnyH_take (i := 0) (v := ?rK0v) (by simp only [List.getElem?_toArray, List.getElem?_cons_zero] <;> rfl) (by kernel_rfl) (by kernel_rfl) (by kernel_rfl) (by exact fun _ _ _ h => h) (Or.inl ⟨by rfl, ?rK0y⟩) hHeld ?rK0r
                  case rK0y => intro w hSw; (try dsimp only at hSw); go_simp <;> rfl
                  simp only [Act.put, List.setIfInBounds_toArray, List.set_cons_zero, List.set_cons_succ]
                  refine wpAnyH_take (i := 2) (v := ?rK1v) (by simp only [List.getElem?_toArray, List.getElem?_cons_succ, List.getElem?_cons_zero] <;> rfl) (by kernel_rfl) (by kernel_rfl) (by kernel_rfl) (by exact fun _ _ _ h => h) (Or.inl ⟨by rfl, ?rK1y⟩) hHeld ?rK1r
                  case rK1y => intro w hSw; (try dsimp only at hSw); go_simp <;> rfl
                  simp only [Act.put, List.setIfInBounds_toArray, List.set_cons_zero, List.set_cons_succ]
                  refine wpAnyH_take (i := 3) (v := ?rK2v) (by simp only [List.getElem?_toArray, List.getElem?_cons_succ, List.getElem?_cons_zero] <;> rfl) (by kernel_rfl) (by kernel_rfl) (by kernel_rfl) (by exact fun _ _ _ h => h) (Or.inl ⟨by rfl, ?rK2y⟩) hHeld ?rK2r
                  case rK2y => intro w hSw; (try dsimp only at hSw); go_simp <;> rfl
                  simp only [Act.put, List.setIfInBounds_toArray, List.set_cons_zero, List.set_cons_succ]
                  refine wpAnyH_ready (rs := [1]) (by kernel_rfl) (by simp) ?_
                  refine AllReadyH.cons (by simp only [List.getElem?_toArray, List.getElem?_cons_succ, List.getElem?_cons_zero] <;> rfl) (fun K hK => ?_) AllReadyH.nil
                  go_simp
                  refine (flag6_any hcD).mono ?_
                  rw [q1, q2, q3]
                  rintro e w4 ⟨rfl, hc4, k4⟩
                  have kw4 : Keep0 w w4 := kD.step1 k4 (by omega)
                  have u4 := k4.cell f4 (by simp only; omega)
                  go_wp2_with fail
                  refine hK.out _ _ u4 (fun hHeld => ?_)
                  clear hK K
                  refine wpAnyH_take (i := 4) (v := ?rK3v) (by simp only [List.getElem?_toArray, List.getElem?_cons_succ, List.getElem?_cons_zero] <;> rfl) (by kernel_rfl) (by kernel_rfl) (by kernel_rfl) (by exact fun _ _ _ h => h) (Or.inl ⟨by rfl, ?rK3y⟩) hHeld ?rK3r
                  case rK3y => intro w hSw; (try dsimp only at hSw); go_simp <;> rfl
                  simp only [Act.put, List.setIfInBounds_toArray, List.set_cons_zero, List.set_cons_succ]
                  refine wpAnyH_done (by kernel_rfl) ?_ _
                  clear hc0 hcD kD kw0 k4
                  go_wp2
                  go_roundw
                  case rel => exact ⟨j + 1, t', by omega, by go_num, HW.out, hc4, kw4⟩
                  case measure => simp [intOf]; omega
            · rw [List.take_of_length_le (by omega), HT.out] at hw
              obtain rfl : T = t := congrArg Prod.fst hw
              have qe : cEnd T T.size 0 = 0 := if_neg (by omega)
              clear hw HBH HC
              go_wp2_with fail
              refine (end_any hc).mono ?_
              rw [qe]
              rintro e w9 ⟨rfl, hc9, k9⟩
              go_wp2
              go_ret
              exact ⟨rfl, hkp.step1 k9 (by omega)⟩
        · have hE' : (E == 0) = false := by simpa using hE
          have hE2 : (E != 0) = true := by simpa using hE
          have e1 : pEnd T E = ⟨#[]⟩ := if_neg hE
          rw [e1]
          clear e1
          go_wp2_with fail
          refine (new_any w6 ⟨#[]⟩ (by decide)).mono ?_
          rintro e w7 ⟨rfl, hc7, k7⟩
          have kw7 := kw6.step0 k7
          clear hc7 k7 kw6 HC HT
          go_wp2_with fail
          refine wp_loop_rounds 1 ?_
          rw [rounds_succ]
          go_wp2
          all_goals go_ret
          all_goals exact ⟨rfl, kw7⟩
  · exact puts6_great m ao al.length cap w hl
end Go.Proofs.Ytfbcifdliofmiaa
