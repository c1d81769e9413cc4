/-
  The walk of the law FrameEncodes, out of the contracts of package frame and of the document's own answers.
  Conditions: none beyond that a text takes at most the greatest length that a string may have.
-/
import Derived.Test.YtkmfcdcimmhmdaaLaw07
namespace Go.Proofs.Ytkmfcdcimmhmdaa
open Go.RowKit

set_option maxRecDepth 100000 in
theorem encodes7_great (v k : UInt8) (p more : ByteArray) (w : World) (hl : ¬ ((p.size : Int) ≤ 2000 ∧ (more.size : Int) ≤ 2000)) :
    Calls Try.prog 3 #[fr (v.toNat : Int) (k.toNat : Int) p, .string more] w fun e w' => e = .returned (.bool true) ∧ Keep0 w w' := by
  have f0 := FrAt.new w (v.toNat : Int) (k.toNat : Int) p 23
  have k0 : Keep0 w (w.alloc (.cells #[.int .u8 (v.toNat : Int), .int .u8 (k.toNat : Int), .string p] 23)) := (Keep.refl _ w).alloc _
  unfold fr
  by_cases h1 : (p.size : Int) ≤ 2000
  · have h2 : ¬ (more.size : Int) ≤ 2000 := fun h => hl ⟨h1, h⟩
    clear hl
    go_enter Try.func3, Try.ntmps3
    go_wp2_with fail
    generalize w.alloc (.cells #[.int .u8 (v.toNat : Int), .int .u8 (k.toNat : Int), .string p] 23) = w0 at *
    refine (awake07 _).mono ?_
    rintro e w1 ⟨rfl, k1⟩
    obtain ⟨d0, d1, d2, d3, d4, d5⟩ := (f0.keep0 k1).cells
    go_wp2
    go_ret
    exact ⟨rfl, k0.trans k1⟩
  · clear hl
    go_enter Try.func3, Try.ntmps3
    go_wp2_with fail
    generalize w.alloc (.cells #[.int .u8 (v.toNat : Int), .int .u8 (k.toNat : Int), .string p] 23) = w0 at *
    refine (awake07 _).mono ?_
    rintro e w1 ⟨rfl, k1⟩
    obtain ⟨d0, d1, d2, d3, d4, d5⟩ := (f0.keep0 k1).cells
    go_wp2
    go_ret
    exact ⟨rfl, k0.trans k1⟩

set_option maxRecDepth 100000 in
set_option maxHeartbeats 8000000 in
theorem encodes7_ver (w : World) (v k : UInt8) (p more : ByteArray) (hp : p.size ≤ maxLen) (h1 : (p.size : Int) ≤ 2000) (h2 : (more.size : Int) ≤ 2000) (hv : qV (v.toNat : Int) = false) :
    Calls Try.prog 3 #[fr (v.toNat : Int) (k.toNat : Int) p, .string more] w fun e w' => e = .returned (.bool true) ∧ Keep0 w w' := by
  have f0 := FrAt.new w (v.toNat : Int) (k.toNat : Int) p 23
  have k0 : Keep0 w (w.alloc (.cells #[.int .u8 (v.toNat : Int), .int .u8 (k.toNat : Int), .string p] 23)) := (Keep.refl _ w).alloc _
  have ye := fun W kb (h : CoderAt W kb) => encode7_any h v k p hp
  have yr := fun W => rencode7_any W v k p hp
  rw [(e7_ver k p hv).1, (e7_ver k p hv).2] at ye yr
  have yn := fun W => ye W none trivial
  have kn : kptr none = .pointer none := rfl
  rw [kn] at yn
  clear kn hv
  unfold fr at *
  generalize (v.toNat : Int) = V at *
  generalize (k.toNat : Int) = KD at *
  go_enter Try.func3, Try.ntmps3
  go_wp2_with fail
  generalize w.alloc (.cells #[.int .u8 V, .int .u8 KD, .string p] 23) = w0 at *
  generalize hg : w.heap.size = g at *
  refine (awake07 _).mono ?_
  rintro e w1 ⟨rfl, k1⟩
  have f1 := f0.keep0 k1
  have K1 := k0.trans k1
  obtain ⟨d0, d1, d2, d3, d4, d5⟩ := f1.cells
  clear k0 k1 f0 d3 d4 d5
  go_wp2_with fail
  refine (newcoder_any _).mono ?_
  rintro e w2 ⟨rfl, c2, k2⟩
  have f2 := f1.keep0 k2
  have K2 := K1.trans k2
  have s1 := K1.size
  have lg := f1.lt
  obtain ⟨kb, hkb⟩ : ∃ kb, kb = w1.heap.size := ⟨_, rfl⟩
  rw [← hkb] at c2
  rw [← hkb]
  clear d0 d1 d2 k2 K1 f1
  generalize hKV : kptr (some kb) = KV
  have ye := ye _ _ c2
  rw [hKV] at ye
  obtain ⟨d0, d1, d2, d3, d4, d5⟩ := f2.cells
  go_wp2_with fail
  refine ye.mono ?_
  rintro e w3 ⟨rfl, c3, k3⟩
  have f3 := f2.keep k3 (by intro hh; cases hh; omega)
  have K3 := K2.step k3 (fun i hi hh => by cases hh; omega)
  clear ye k3 K2 f2 d0 d1 d2 d3 d4 d5
  obtain ⟨d0, d1, d2, d3, d4, d5⟩ := f3.cells
  go_wp2_with fail
  refine (yr _).mono ?_
  rintro e w4 ⟨rfl, k4⟩
  have f4 := f3.keep0 k4
  have K4 := K3.step0 k4
  clear yr k4 K3 f3 d0 d1 d2 d3 d4 d5
  obtain ⟨d0, d1, d2, d3, d4, d5⟩ := f4.cells
  go_wp2_with fail
  refine (yn _).mono ?_
  rintro e w5 ⟨rfl, _, k5⟩
  have K5 := K4.step k5 (fun i hi hh => by cases hh)
  clear yn k5 K4 d0 d1 d2 d3 d4 d5
  go_wp2
  go_ret
  exact ⟨rfl, K5⟩

set_option maxRecDepth 100000 in
set_option maxHeartbeats 8000000 in
theorem encodes7_ok (w : World) (v k : UInt8) (p more : ByteArray) (hp : p.size ≤ maxLen) (h1 : (p.size : Int) ≤ 2000) (h2 : (more.size : Int) ≤ 2000) (hv : qV (v.toNat : Int) = true) :
    Calls Try.prog 3 #[fr (v.toNat : Int) (k.toNat : Int) p, .string more] w fun e w' => e = .returned (.bool true) ∧ Keep0 w w' := by
  have hpl : ¬ 65536 < p.size := by omega
  have f0 := FrAt.new w (v.toNat : Int) (k.toNat : Int) p 23
  have k0 : Keep0 w (w.alloc (.cells #[.int .u8 (v.toNat : Int), .int .u8 (k.toNat : Int), .string p] 23)) := (Keep.refl _ w).alloc _
  have ye := fun W kb (h : CoderAt W kb) => encode7_any h v k p hp
  have yr := fun W => rencode7_any W v k p hp
  rw [(e7_ok k hv hpl).1, (e7_ok k hv hpl).2] at ye yr
  have hsz := fEnc_size v k p
  have h3 := vText3 (n := p.size) (by omega)
  have yd := fun W kb (h : CoderAt W kb) => decode7_any h (fEnc v k p ++ more) (by rw [ByteArray.size_append]; unfold maxLen; omega)
  obtain ⟨q1, q2, q3⟩ := frame_back (T := fEnc v k p ++ more) (t := ⟨#[]⟩) (p := p) (r := more) (v := v) (k := k) hv (by omega) (ByteArray.empty_append).symm
  have q0 : (((⟨#[]⟩ : ByteArray).size : Nat) : Int) = 0 := rfl
  rw [q0] at q1 q2 q3
  have q4 : qLen (fEnc v k p ++ more) = (fEnc v k p).size := by
    unfold qLen
    rw [if_pos q1, q3]
    omega
  rw [q1, q2, q4] at yd
  clear q0 q1 q2 q3 q4
  have yo := fun W => room_any W (p.size : Int)
  rw [fRoom_yes (by omega), ← vText_size, show (8 : Int) + ((vText p.size).size : Int) + (p.size : Int) = ((fEnc v k p).size : Int) from by rw [hsz]; omega] at yo
  have x1 : ¬ 9223372036854775807 < (fEnc v k p).size + more.size := by omega
  have x2 : ((fEnc v k p).size : Int) ≤ 9223372036854775807 := by omega
  clear hsz h3 hpl hv
  have yn := fun W => ye W none trivial
  have ym := fun W => yd W none trivial
  have kn : kptr none = .pointer none := rfl
  rw [kn] at yn ym
  clear kn
  unfold fr at *
  generalize fEnc v k p = F at *
  generalize (v.toNat : Int) = V at *
  generalize (k.toNat : Int) = KD at *
  go_enter Try.func3, Try.ntmps3
  go_wp2_with fail
  generalize w.alloc (.cells #[.int .u8 V, .int .u8 KD, .string p] 23) = w0 at *
  generalize hg : w.heap.size = g at *
  refine (awake07 _).mono ?_
  rintro e w1 ⟨rfl, k1⟩
  have f1 := f0.keep0 k1
  have K1 := k0.trans k1
  obtain ⟨d0, d1, d2, d3, d4, d5⟩ := f1.cells
  clear k0 k1 f0 d3 d4 d5
  go_wp2_with fail
  refine (newcoder_any _).mono ?_
  rintro e w2 ⟨rfl, c2, k2⟩
  have f2 := f1.keep0 k2
  have K2 := K1.trans k2
  have s1 := K1.size
  have lg := f1.lt
  obtain ⟨kb, hkb⟩ : ∃ kb, kb = w1.heap.size := ⟨_, rfl⟩
  rw [← hkb] at c2
  rw [← hkb]
  clear d0 d1 d2 k2 K1 f1
  generalize hKV : kptr (some kb) = KV
  have ye := ye _ _ c2
  rw [hKV] at ye
  obtain ⟨d0, d1, d2, d3, d4, d5⟩ := f2.cells
  go_wp2_with fail
  refine ye.mono ?_
  rintro e w3 ⟨rfl, c3, k3⟩
  have f3 := f2.keep k3 (by intro hh; cases hh; omega)
  have K3 := K2.step k3 (fun i hi hh => by cases hh; omega)
  clear ye k3 K2 f2 c2 d0 d1 d2 d3 d4 d5
  obtain ⟨d0, d1, d2, d3, d4, d5⟩ := f3.cells
  go_wp2_with fail
  refine (yr _).mono ?_
  rintro e w4 ⟨rfl, k4⟩
  have f4 := f3.keep0 k4
  have c4 := c3.keep0 k4
  have K4 := K3.step0 k4
  clear yr k4 K3 f3 c3 d0 d1 d2 d3 d4 d5
  obtain ⟨d0, d1, d2, d3, d4, d5⟩ := f4.cells
  go_wp2_with fail
  refine (yn _).mono ?_
  rintro e w5 ⟨rfl, _, k5⟩
  have k5 : Keep0 w4 w5 := k5.mono (fun i hi hh => by cases hh)
  have f5 := f4.keep0 k5
  have c5 := c4.keep0 k5
  have K5 := K4.step0 k5
  clear yn k5 K4 f4 c4 d0 d1 d2 d3 d4 d5
  have yd := yd _ _ c5
  rw [hKV] at yd
  go_wp2_with fail
  refine yd.mono ?_
  rintro e w6 ⟨rfl, c6, k6⟩
  have f6 := f5.keep k6 (by intro hh; cases hh; omega)
  have K6 := K5.step k6 (fun i hi hh => by cases hh; omega)
  clear yd k6 K5 f5 c5
  have g7 := FrAt.new w6 V KD p 23
  have k7 : Keep0 w6 (w6.alloc (.cells #[.int .u8 V, .int .u8 KD, .string p] 23)) := (Keep.refl _ w6).alloc _
  have f7 := f6.keep0 k7
  have K7 := K6.step0 k7
  clear k7 K6 f6 c6
  go_wp2_with fail
  generalize w6.alloc (.cells #[.int .u8 V, .int .u8 KD, .string p] 23) = w7 at *
  generalize w6.heap.size = g6 at *
  refine (ym _).mono ?_
  rintro e w8 ⟨rfl, _, k8⟩
  have k8 : Keep0 w7 w8 := k8.mono (fun i hi hh => by cases hh)
  have f8 := f7.keep0 k8
  have g8 := g7.keep0 k8
  have K8 := K7.step0 k8
  clear ym k8 K7 f7 g7
  have i9 := FrAt.new w8 V KD p 23
  have k9 : Keep0 w8 (w8.alloc (.cells #[.int .u8 V, .int .u8 KD, .string p] 23)) := (Keep.refl _ w8).alloc _
  have f9 := f8.keep0 k9
  have g9 := g8.keep0 k9
  have K9 := K8.step0 k9
  clear k9 K8 f8 g8
  obtain ⟨d0, d1, d2, d3, d4, d5⟩ := f9.cells
  obtain ⟨e0, e1, e2, e3, e4, e5⟩ := g9.cells
  obtain ⟨i0, i1, i2, i3, i4, i5⟩ := i9.cells
  clear d3 d4 d5 e3 e4 e5 i3 i4 i5
  go_wp2_with fail
  refine (yo _).mono ?_
  rintro e w' ⟨rfl, rfl⟩
  go_wp2
  go_ret
  exact ⟨rfl, K9⟩
theorem encodes7_law (w : World) (v k : UInt8) (p : ByteArray) (hp : p.size ≤ maxLen) (more : ByteArray) (_ : more.size ≤ maxLen) :
    Calls Try.prog 3 #[fr (v.toNat : Int) (k.toNat : Int) p, .string more] w fun e w' => e = .returned (.bool true) ∧ Keep0 w w' := by
  by_cases hl : (p.size : Int) ≤ 2000 ∧ (more.size : Int) ≤ 2000
  · cases hv : qV (v.toNat : Int) with
    | false => exact encodes7_ver w v k p more hp hl.1 hl.2 hv
    | true => exact encodes7_ok w v k p more hp hl.1 hl.2 hv
  · exact encodes7_great v k p more w hl
end Go.Proofs.Ytkmfcdcimmhmdaa
