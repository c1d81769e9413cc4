/-
  The example that every law of layer 9 begins with, out of the contracts of package framer.
  Conditions: none.
-/
import Derived.Test.YtmgfalkelembkaaFramerFns
import Derived.Test.YtmgfalkelembkaaL7a
namespace Go.Proofs.Ytmgfalkelembkaa
open Go.RowKit

def f09 : Fr := ⟨1, 4, ⟨#[]⟩⟩
theorem f09_ok : f09.ok := ⟨rfl, by decide⟩
theorem f09_size : f09.enc.size ≤ 311 := enc_size (by decide)
theorem f09_enc : eTxt7 1 4 ⟨#[]⟩ = f09.enc ∧ eErr7 1 ⟨#[]⟩ = 0 := by
  have h : eErr7 1 ⟨#[]⟩ = 0 := rfl
  exact ⟨if_pos h, h⟩
set_option maxRecDepth 100000 in
set_option maxHeartbeats 4000000 in
theorem awake09 (w : World) : Calls Try.prog 6 #[] w fun e w' => e = .returned (.bool true) ∧ Keep0 w w' := by
  have yr := fun W => rencode7_any W 1 4 ⟨#[]⟩ (by decide)
  rw [f09_enc.1, f09_enc.2] at yr
  have e1 : ((1 : UInt8).toNat : Int) = 1 := rfl
  have e4 : ((4 : UInt8).toNat : Int) = 4 := rfl
  rw [e1, e4] at yr
  unfold fr at yr
  have hz := f09_size
  have hp := enc_pos f09
  have HM : Hid (∀ i j, i ≤ j → j < f09.enc.size → push9 (f09.enc.extract 0 i) (f09.enc.extract i j) = f09.enc.extract 0 j ∧ told9 (f09.enc.extract 0 i) (f09.enc.extract i j) = []) := fun i j h1 h2 => piece_more f09_ok h1 h2
  have HL : Hid (∀ i, i < f09.enc.size → push9 (f09.enc.extract 0 i) (f09.enc.extract i f09.enc.size) = f09.enc ∧ told9 (f09.enc.extract 0 i) (f09.enc.extract i f09.enc.size) = [f09]) := fun i h => piece_last f09_ok h
  have HW : Hid (fs f09.enc = [f09] ∧ er f09.enc = 0 ∧ kp f09.enc = ⟨#[]⟩) := whole_all f09_ok
  generalize f09.enc = F at *
  clear e1 e4
  go_enter Try.func6, Try.ntmps6
  go_wp2_with fail
  refine (yr _).mono ?_
  rintro e w1 ⟨rfl, k1⟩
  clear yr
  go_wp2_with fail
  refine (fnew_any _).mono ?_
  rintro e w2 ⟨rfl, h2, k2⟩
  have K2 : Keep0 w w2 := k1.trans k2
  have z1 := k1.size
  generalize w1.heap.size = fb at *
  clear k1 k2
  go_wp2_with fail
  have HZ : Hid (F.size ≤ 311 ∧ 0 < F.size) := ⟨hz, hp⟩
  clear hz hp
  go_loopw [4] (fun i wr => ∃ (k : Nat), i = .int .i64 (k : Int) ∧ k < F.size ∧ FmAt wr fb (F.extract 0 k) ∧ Keep0 w wr) (fun i _ => F.size - (intOf i).toNat)
  case atStart =>
    refine ⟨0, rfl, HZ.out.2, ?_, K2⟩
    have e : F.extract 0 0 = ⟨#[]⟩ := by
      apply ByteArray.ext
      apply Array.eq_empty_of_size_eq_zero
      show (F.extract 0 0).size = 0
      rw [ByteArray.size_extract]
      omega
    rw [e]
    exact h2
  case round =>
    obtain ⟨k, rfl, hk, hF, hK⟩ := hrel
    have hz := HZ.out.1
    clear h2 K2
    by_cases hlt : k + 1 < F.size
    · have i1 : (k : Int) + 1 < F.size := by omega
      have i2 : IntKind.i64.wrap ((k : Int) + 1) = (k : Int) + 1 := by rw [IntKind.wrap_i64]; omega
      have i3 : ((k : Int) + 1).toNat = k + 1 := by omega
      have hs1 : (F.extract 0 k).size + (F.extract k (k + 1)).size ≤ 1000000 := by rw [ByteArray.size_extract, ByteArray.size_extract]; omega
      have yp := fpush_any hF (F.extract k (k + 1)) hs1
      obtain ⟨m1, m2⟩ := HM.out k (k + 1) (by omega) hlt
      rw [m1, m2] at yp
      clear m1 m2 hs1
      go_wp2_with fail
      refine yp.mono ?_
      rintro e w3 ⟨ao, cap, rfl, x1, x2, h3, k3⟩
      have K3 : Keep0 w w3 := hK.step k3 (fun i hi hh => by omega)
      clear yp x1 x2 k3 hK hF
      go_wp2
      go_roundw
      case rel => exact ⟨k + 1, by go_num, hlt, h3, K3⟩
      case measure => simp [intOf]; omega
    · have i1 : ¬ (k : Int) + 1 < F.size := by omega
      have i2 : IntKind.i64.wrap ((k : Int) + 1) = (k : Int) + 1 := by rw [IntKind.wrap_i64]; omega
      have i3 : IntKind.i64.wrap ((F.size : Int) - 1) = (k : Int) := by rw [IntKind.wrap_i64]; omega
      have i4 : (F.size : Int) - 1 = (k : Int) := by omega
      have hs1 : (F.extract 0 k).size + (F.extract k F.size).size ≤ 1000000 := by rw [ByteArray.size_extract, ByteArray.size_extract]; omega
      have yp := fpush_any hF (F.extract k F.size) hs1
      obtain ⟨m1, m2⟩ := HL.out k hk
      rw [m1, m2] at yp
      obtain ⟨t1, t2, t3⟩ := HW.out
      clear m1 m2 hs1
      go_wp2_with fail
      refine yp.mono ?_
      rintro e w3 ⟨ao, cap, rfl, x1, x2, h3, k3⟩
      have K3 : Keep0 w w3 := hK.step k3 (fun i hi hh => by omega)
      obtain ⟨b1, o1, rfl, y0, y1, y2⟩ := x1 0 (by decide)
      have yt := ftold_any h3 (by omega)
      have yk := fkept_any h3 (by omega)
      rw [t1] at yt
      rw [t3] at yk
      have e4 : (([f09] : List Fr)[0].k.toNat : Int) = 4 := rfl
      have e5 : ([f09] : List Fr).length = 1 := rfl
      have e6 : (⟨#[]⟩ : ByteArray).size = 0 := rfl
      rw [e4] at y1
      rw [e5] at yt
      rw [e6] at yk
      clear yp x2 k3 hK hF y0 y2 t1 t2 t3 e4 e6
      go_wp2_with fail
      refine yt.mono ?_
      rintro e w4 ⟨rfl, rfl⟩
      go_wp2_with fail
      refine yk.mono ?_
      rintro e w4 ⟨rfl, rfl⟩
      go_wp2
      go_ret
      exact ⟨rfl, K3⟩
end Go.Proofs.Ytmgfalkelembkaa
