/-
  The walk of the law FramerKeeps, out of the contracts of package framer and of the document's own answers.
  Conditions: none beyond that each argument fits its kind.
-/
import Derived.Test.YtmgfalkelembkaaLaw09
import Derived.Test.YtmgfalkelembkaaOpen07
import Derived.OpenShut
import Derived.Test.YtmgfalkelembkaaFill
import Derived.BigQuiet
namespace Go.Proofs.Ytmgfalkelembkaa
open Go.RowKit

theorem great_size (c : UInt8) {n : Nat} (h : n ≤ 65536) : (⟨2, c, gTxt c n⟩ : Fr).enc.size ≤ 65547 ∧ (⟨2, c, gTxt c n⟩ : Fr).ok := by
  have h3 : (vEnc (gTxt c n).size).length ≤ 2 + 1 := vEnc_len_lt 2 _ (by rw [gTxt_size]; omega)
  refine ⟨?_, rfl, by rw [gTxt_size]; exact h⟩
  unfold Fr.enc
  rw [fEnc_size, vText_size]
  show 8 + (vEnc (gTxt c n).size).length + (gTxt c n).size ≤ _
  rw [gTxt_size] at *
  omega
theorem great_enc (c : UInt8) {n : Nat} (h : n ≤ 65536) : eTxt7 2 c (gTxt c n) = (⟨2, c, gTxt c n⟩ : Fr).enc ∧ eErr7 2 (gTxt c n) = 0 := by
  have h0 : eErr7 2 (gTxt c n) = 0 := by
    unfold eErr7
    rw [if_neg (by decide), if_neg (by rw [gTxt_size]; omega)]
  exact ⟨if_pos h0, h0⟩
theorem fkept_q {w : World} {n b : Nat} {S : ByteArray} (h : FmAt w b S) (hs : S.size ≤ 1000000) {k : Nat} (hk : (kp S).size = k) : Calls Try.prog 10 #[ptr b] (w.drewN n) fun e w' => e = .returned (.int .i64 (k : Int)) ∧ ∃ m, w' = w.drewN m := by
  subst hk
  refine (fkept_any (h.keep0 ((Keep.refl _ w).drewN n)) hs).mono ?_
  rintro e w' ⟨rfl, rfl⟩
  exact ⟨rfl, n, rfl⟩
set_option maxRecDepth 100000 in
set_option maxHeartbeats 8000000 in
theorem framerKeeps_go (w : World) (c : UInt8) (less step : Int) (l0 : 0 ≤ less) (l1 : less ≤ 255) (s0 : 0 ≤ step) (s1 : step ≤ 65535) (L : Nat) (hL : 65536 - less = (L : Int)) (n : Nat) (hn : 9000 + step % 20000 = (n : Int)) :
    Calls Try.prog 5 #[.int .u8 (c.toNat : Int), .int .u8 less, .int .u16 step] w fun e w' => e = .returned (.bool true) ∧ Keep0 w w' := by
  have hLb : L ≤ 65536 := by omega
  have hLi : (L : Int) ≤ 65536 := by omega
  obtain ⟨hsz, hok⟩ := great_size c hLb
  have hps := enc_pos ⟨2, c, gTxt c L⟩
  have ye := fun W => rencode7_any W 2 c (gTxt c L) (by rw [gTxt_size]; unfold maxLen; omega)
  rw [(great_enc c hLb).1, (great_enc c hLb).2] at ye
  have e2 : ((2 : UInt8).toNat : Int) = 2 := rfl
  rw [e2] at ye
  have hgt : ∀ W g, W.rowIs g 5 L (gRow c L) → (convert 44 9 (.slice (some ⟨g, 0, none⟩) L L)).run Try.prog W = .ok (.string (gTxt c L)) W := fun W g h => run_gTxt h
  have hmk := run_make_row' (P := Try.prog) 44 5 (.int .u8 0) 1 Try.underlying44 infoU8 rfl .i64 .i64 L (by omega) (by omega)
  have hmr := fun W => World.rowIs_made W (.int .u8 0) L 5
  have hmK := fun W : World => (Keep.refl (fun _ => False) W).alloc (.cells (madeCells #[.int .u8 0] L) 5)
  have HM : Hid (∀ i j, i ≤ j → j < (⟨2, c, gTxt c L⟩ : Fr).enc.size → push9 ((⟨2, c, gTxt c L⟩ : Fr).enc.extract 0 i) ((⟨2, c, gTxt c L⟩ : Fr).enc.extract i j) = (⟨2, c, gTxt c L⟩ : Fr).enc.extract 0 j ∧ told9 ((⟨2, c, gTxt c L⟩ : Fr).enc.extract 0 i) ((⟨2, c, gTxt c L⟩ : Fr).enc.extract i j) = []) := fun i j h1 h2 => piece_more hok h1 h2
  have HP : Hid (∀ i, i < (⟨2, c, gTxt c L⟩ : Fr).enc.size → push9 ((⟨2, c, gTxt c L⟩ : Fr).enc.extract 0 i) ((⟨2, c, gTxt c L⟩ : Fr).enc.extract i (⟨2, c, gTxt c L⟩ : Fr).enc.size) = (⟨2, c, gTxt c L⟩ : Fr).enc ∧ told9 ((⟨2, c, gTxt c L⟩ : Fr).enc.extract 0 i) ((⟨2, c, gTxt c L⟩ : Fr).enc.extract i (⟨2, c, gTxt c L⟩ : Fr).enc.size) = [⟨2, c, gTxt c L⟩]) := fun i h => piece_last hok h
  have HW : Hid (er (⟨2, c, gTxt c L⟩ : Fr).enc = 0 ∧ (kp (⟨2, c, gTxt c L⟩ : Fr).enc).size = 0) := ⟨(whole_all hok).2.1, by rw [(whole_all hok).2.2]; rfl⟩
  have HK : Hid (∀ i, i < (⟨2, c, gTxt c L⟩ : Fr).enc.size → (kp ((⟨2, c, gTxt c L⟩ : Fr).enc.extract 0 i)).size = i) := by
    intro i hi
    rw [(begin_all hok hi).2.2, ByteArray.size_extract]
    omega
  have HZ : Hid ((⟨2, c, gTxt c L⟩ : Fr).enc.size ≤ 65547 ∧ 0 < (⟨2, c, gTxt c L⟩ : Fr).enc.size) := ⟨hsz, hps⟩
  generalize hF : (⟨2, c, gTxt c L⟩ : Fr).enc = F at *
  generalize madeCells #[.int .u8 0] L = MC at *
  generalize hS : gTxt c L = S at *
  unfold fr at ye
  have i1 : step.tmod 20000 = step % 20000 := Int.tmod_eq_emod_of_nonneg s0
  have i2 : IntKind.i64.wrap step = step := by rw [IntKind.wrap_i64]; omega
  have i3 : IntKind.i64.wrap less = less := by rw [IntKind.wrap_i64]; omega
  have i4 : IntKind.i64.wrap (n : Int) = n := by rw [IntKind.wrap_i64]; omega
  have i5 : IntKind.i64.wrap (L : Int) = L := by rw [IntKind.wrap_i64]; omega
  have hn9 : 9000 ≤ n := by omega
  have hn3 : n ≤ 30000 := by omega
  clear hok hsz hps hF hS e2
  go_enter Try.func5, Try.ntmps5
  go_wp2_with fail
  refine (awake09 _).mono ?_
  rintro e w1 ⟨rfl, K1⟩
  have hmr := hmr w1
  have K2 := K1.trans (hmK w1)
  have s1' := K1.size
  clear hmK K1
  go_wp2_with fail
  generalize w1.alloc (.cells MC 5) = w2 at *
  generalize w1.heap.size = g at *
  have hr2 : w2.rowIs g 5 L (gRow c 0) := hmr.congr (fun i _ => (gRow_zero c i).symm)
  clear hmr
  go_loopw [8] (fun i wr => ∃ k : Nat, k ≤ L ∧ i = .int .i64 k ∧ wr.rowIs g 5 L (gRow c k) ∧ Keep0 w wr) (fun i _ => L - (intOf i).toNat)
  case atStart => exact ⟨0, by omega, rfl, hr2, K2⟩
  case round =>
    obtain ⟨k, hk, rfl, hrow, hkp⟩ := hrel
    clear hr2 K2
    by_cases hlt : k < L
    · have hc0 := hrow.cell hlt
      rw [gRow_at] at hc0
      have hf0 := hrow.frozen k
      have hlt' : (k : Int) < L := by omega
      have hr3 := (hrow.set k (.int .u8 (c.toNat : Int))).congr (g := gRow c (k + 1)) (fun j _ => gRow_set c k j)
      have K3 := hkp.setNew (p := ⟨g, k, none⟩) s1' (.int .u8 (c.toNat : Int))
      clear ye hgt
      go_wp2
      go_roundw
      case rel => exact ⟨k + 1, by omega, by go_num, hr3, K3⟩
      case measure => simp [intOf]; omega
    · obtain rfl : k = L := by omega
      have hcv := hgt _ _ hrow
      have f3 := FrAt.new wr 2 (c.toNat : Int) S 46
      have k3 : Keep0 wr (wr.alloc (.cells #[.int .u8 2, .int .u8 (c.toNat : Int), .string S] 46)) := (Keep.refl _ wr).alloc _
      have K3 := hkp.step0 k3
      clear hgt k3 hkp hmk
      obtain ⟨d0, d1, d2, _, _, _⟩ := f3.cells
      go_wp2_with fail
      generalize wr.alloc (.cells #[.int .u8 2, .int .u8 (c.toNat : Int), .string S] 46) = w3 at *
      generalize wr.heap.size = gf at *
      refine (ye _).mono ?_
      rintro e w4 ⟨rfl, k4⟩
      have f4 := f3.keep0 k4
      have K4 := K3.trans k4
      clear ye k4 K3 f3 d0 d1 d2 hcv hrow
      go_wp2_with fail
      refine (fnew_any _).mono ?_
      rintro e w5 ⟨rfl, h5, k5⟩
      have f5 := f4.keep0 k5
      have K5 := K4.trans k5
      have hgf : gf < w4.heap.size := f4.lt
      have hb4 := K4.size
      generalize w4.heap.size = fb at *
      clear f4 k5 K4
      go_wp2_with fail
      go_loopw [14] (fun i wr => ∃ (a : Nat) (P : ByteArray), i = .int .i64 (a : Int) ∧ (a < F.size → P = F.extract 0 a) ∧ (F.size ≤ a → P = F) ∧ a ≤ 100000 ∧ FmAt wr fb P ∧ FrAt wr gf 2 (c.toNat : Int) S ∧ Keep0 w wr) (fun i _ => F.size - (intOf i).toNat)
      case atStart =>
        refine ⟨0, ⟨#[]⟩, rfl, fun _ => ?_, fun h => absurd h (by have := HZ.out.2; omega), by omega, h5, f5, K5⟩
        apply ByteArray.ext
        apply Eq.symm
        apply Array.eq_empty_of_size_eq_zero
        show (F.extract 0 0).size = 0
        rw [ByteArray.size_extract]
        omega
      case round =>
        obtain ⟨a, P, rfl, hP1, hP2, ha, hM, hf, hKp⟩ := hrel
        clear h5 f5 K5
        have hz := HZ.out.1
        have hzi : (F.size : Int) ≤ 65547 := by omega
        by_cases hlt : a < F.size
        · have hP := hP1 hlt
          subst hP
          have j1 : (a : Int) < F.size := by omega
          obtain ⟨q, hq⟩ : ∃ q : Nat, a + n = q := ⟨_, rfl⟩
          have j2 : (a : Int) + (n : Int) = (q : Int) := by omega
          have j3 : IntKind.i64.wrap (q : Int) = q := by rw [IntKind.wrap_i64]; omega
          clear hP1 hP2
          by_cases hl : q < F.size
          · have j4 : (q : Int) < F.size := by omega
            have j5 : (a : Int) ≤ q := by omega
            have jm : min (F.size : Int) (q : Int) = (q : Int) := by omega
            have hss : (F.extract 0 a).size + (F.extract a q).size ≤ 1000000 := by rw [ByteArray.size_extract, ByteArray.size_extract]; omega
            have yp := fpush_any hM (F.extract a q) hss
            obtain ⟨m1, m2⟩ := HM.out a q (by omega) hl
            rw [m1, m2] at yp
            clear m1 m2 hss
            go_wp2_with fail
            refine yp.mono ?_
            rintro e w6 ⟨ao, cap, rfl, x1, x2, h6, k6⟩
            have f6 := hf.keep k6 (by omega)
            have K6 : Keep0 w w6 := hKp.step k6 (fun i hi hh => by omega)
            have hq6 : (F.extract 0 q).size ≤ 1000000 := by rw [ByteArray.size_extract]; omega
            have yk := fkept_any h6 hq6
            rw [HK.out q hl] at yk
            have j6 : decide ((65547 : Int) ≤ (q : Int)) = false := by simpa using (show (q : Int) < 65547 by omega)
            have j7 : ¬ (F.size : Int) = (q : Int) := by omega
            have j8 : ((q : Int) == (F.size : Int)) = false := by simpa using fun h => j7 h.symm
            clear yp x1 x2 k6 hKp hf hM
            go_wp2_with fail
            refine yk.mono ?_
            rintro e w7 ⟨rfl, rfl⟩
            go_wp2_with fail
            refine yk.mono ?_
            rintro e w7 ⟨rfl, rfl⟩
            clear yk
            go_wp2_with fail
            go_quiet (fail)
            go_wp2
            go_roundw
            case rel => exact ⟨q, _, by go_num, fun _ => rfl, fun h => absurd h (by omega), by omega, h6.keep0 ((Keep.refl _ w6).drewN _), f6.keep0 ((Keep.refl _ w6).drewN _), K6.drewN _⟩
            case measure => simp [intOf]; omega
          · have j4 : (F.size : Int) ≤ (q : Int) := by omega
            have j5 : (a : Int) ≤ F.size := by omega
            have jm : min (F.size : Int) (q : Int) = (F.size : Int) := by omega
            have hss : (F.extract 0 a).size + (F.extract a F.size).size ≤ 1000000 := by rw [ByteArray.size_extract, ByteArray.size_extract]; omega
            have yp := fpush_any hM (F.extract a F.size) hss
            obtain ⟨m1, m2⟩ := HP.out a hlt
            rw [m1, m2] at yp
            clear m1 m2 hss
            go_wp2_with fail
            refine yp.mono ?_
            rintro e w6 ⟨ao, cap, rfl, x1, x2, h6, k6⟩
            have f6 := hf.keep k6 (by omega)
            have K6 : Keep0 w w6 := hKp.step k6 (fun i hi hh => by omega)
            have yk := fkept_any h6 (by omega)
            rw [HW.out.2] at yk
            have yq := fun n => fkept_q (n := n) h6 (by omega) HW.out.2
            obtain ⟨b1, o1, rfl, y0, y1, y2⟩ := x1 0 Nat.zero_lt_one
            have v0 : w6.cell? ⟨b1, o1, none⟩ = some (.int .u8 2) := y0
            have v1 : w6.cell? ⟨b1, o1 + 1, none⟩ = some (.int .u8 (c.toNat : Int)) := y1
            have v2 : w6.cell? ⟨b1, o1 + 2, none⟩ = some (.string S) := y2
            clear y0 y1 y2
            obtain ⟨d0, d1, d2, _, _, _⟩ := f6.cells
            have j6 : decide ((65547 : Int) ≤ 0) = false := rfl
            clear yp x1 x2 k6 hKp hf hM
            go_wp2_with fail
            refine yk.mono ?_
            rintro e w7 ⟨rfl, rfl⟩
            clear yk
            go_wp2_with fail
            go_quiet ((go_at_call 10; exact yq _))
            go_wp2
            go_roundw
            case rel => exact ⟨q, _, by go_num, fun h => absurd h (by omega), fun _ => rfl, by omega, h6.keep0 ((Keep.refl _ w6).drewN _), f6.keep0 ((Keep.refl _ w6).drewN _), K6.drewN _⟩
            case measure => simp [intOf]; omega
        · have j1 : ¬ (a : Int) < F.size := by omega
          have hP := hP2 (by omega)
          subst hP
          have yq := ferr_any hM
          rw [HW.out.1] at yq
          clear hP1 hP2
          go_wp2_with fail
          refine yq.mono ?_
          rintro e w7 ⟨rfl, rfl⟩
          go_wp2
          go_ret
          exact ⟨rfl, hKp⟩
theorem framerKeeps_law (w : World) (b : Int) (wb : (Lit.int .u8 b).wf = true) (less : Int) (wl : (Lit.int .u8 less).wf = true) (step : Int) (ws : (Lit.int .u16 step).wf = true) :
    Calls Try.prog 5 #[.int .u8 b, .int .u8 less, .int .u16 step] w fun e w' => e = .returned (.bool true) ∧ Keep0 w w' := by
  obtain ⟨c, rfl⟩ := u8_nat wb
  have hl := bounds_u8 wl
  have hs := bounds_u16 ws
  exact framerKeeps_go w c less step hl.1 hl.2 hs.1 hs.2 (65536 - less).toNat (by omega) (9000 + step % 20000).toNat (by omega)
end Go.Proofs.Ytmgfalkelembkaa
