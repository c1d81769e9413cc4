/-
  The contract of package frame's Decode, proved over this seat's translation.
  Conditions: a text takes at most the greatest length that a string may have.
-/
import Derived.Test.YtaleennijfefnaaGreatFrameTake
namespace Go.Proofs.YtaleennijfefnaaGreat
open Go.RowKit

set_option maxRecDepth 100000 in
set_option maxHeartbeats 4000000 in
theorem decode7_bad {w : World} {kb : Option Nat} (hc : CoderAt w kb) (s : ByteArray) (hs : s.size ≤ maxLen) (hE : qErr s 0 0 ≠ 0) :
    Calls Tryz.prog 22 #[kptr kb, .string s] w fun e w' => e = .returned (.tuple #[fr 0 0 ⟨#[]⟩, .int .i64 0, .int .i64 (qErr s 0 0)]) ∧ CoderAt w' kb ∧ KeepK kb w w' := by
  have y := fun W b (h : Cur W b s 0 0) (hc : CoderAt W kb) (hne : ¬ kb = some b) => take7_any h hc hne
  rw [qFr_no hE] at y
  have e2 : (qErr s 0 0 != 0) = true := by simpa using hE
  unfold fr at y
  generalize qAt s 0 0 = A at *
  generalize qErr s 0 0 = E at *
  clear hE
  have r0 := FrAt.new w 0 0 ⟨#[]⟩ 31
  have k0 : Keep0 w (w.alloc (.cells #[.int .u8 0, .int .u8 0, .string ⟨#[]⟩] 31)) := (Keep.refl _ w).alloc _
  have c0 := hc.keep0 k0
  have ng : ¬ kb = some w.heap.size := hc.ne (Nat.le_refl _)
  generalize hKV : kptr kb = KV at *
  go_enter Tryz.func22, Tryz.ntmps22
  go_wp2_with fail
  generalize hg : w.heap.size = g at *
  generalize w.alloc (.cells #[.int .u8 0, .int .u8 0, .string ⟨#[]⟩] 31) = w0 at *
  refine (new_any _ s hs).mono ?_
  rintro e w1 ⟨rfl, h1, k1⟩
  have nb := c0.ne (Nat.le_refl w0.heap.size)
  have lg := r0.lt
  have r1 := r0.keep0 k1
  have c1 := c0.keep0 k1
  have K1 : KeepK kb w w1 := (k0.trans k1).any
  generalize w0.heap.size = b at *
  clear r0 k0 c0 k1
  go_wp2_with fail
  refine (y _ _ h1 c1 nb).mono ?_
  rintro e w2 ⟨rfl, h2, c2, k2⟩
  have r2 := r1.keep k2 (by rintro (hh | hh); omega; exact ng hh)
  have K2 := K1.step k2 (fun i hi hh => by rcases hh with hh | hh; omega; exact hh)
  clear r1 h1 c1 K1 k2 y
  have k3 : Keep0 w2 (w2.alloc (.cells #[.int .u8 0, .int .u8 0, .string ⟨#[]⟩] 31)) := (Keep.refl _ w2).alloc _
  have h3 := h2.keep0 k3
  have r3 := r2.keep0 k3
  have c3 := c2.keep0 k3
  have K3 := K2.step0 k3
  clear h2 r2 c2 K2 k3
  go_wp2_with fail
  generalize w2.alloc (.cells #[.int .u8 0, .int .u8 0, .string ⟨#[]⟩] 31) = w3 at *
  refine (err_any h3).mono ?_
  rintro e w' ⟨rfl, rfl⟩
  obtain ⟨i0, i1, i2, i3, i4, i5⟩ := r3.cells
  go_wp2
  refine bodyPost_ret (retFr3 rfl _ _ _ rfl (r3.put 0 0 ⟨#[]⟩)) rfl ?_
  have kz := FrAt.put_keep w3 g 0 0 ⟨#[]⟩
  exact ⟨rfl, c3.keep kz (fun i hi hh => ng (by rw [← hh]; exact hi)), K3.step kz (fun i hi hh => by omega)⟩
set_option maxRecDepth 100000 in
set_option maxHeartbeats 4000000 in
theorem decode7_ok {w : World} {kb : Option Nat} (hc : CoderAt w kb) (s : ByteArray) (hs : s.size ≤ maxLen) (hE : qErr s 0 0 = 0) :
    Calls Tryz.prog 22 #[kptr kb, .string s] w fun e w' => e = .returned (.tuple #[qFr s 0 0, .int .i64 (qAt s 0 0), .int .i64 0]) ∧ CoderAt w' kb ∧ KeepK kb w w' := by
  have y := fun W b (h : Cur W b s 0 0) (hc : CoderAt W kb) (hne : ¬ kb = some b) => take7_any h hc hne
  rw [hE] at y
  unfold qFr fr at *
  generalize qVer s 0 0 = V at *
  generalize qKind s 0 0 = KD at *
  generalize qTxt s 0 0 = T at *
  generalize qAt s 0 0 = A at *
  clear hE
  have r0 := FrAt.new w 0 0 ⟨#[]⟩ 31
  have k0 : Keep0 w (w.alloc (.cells #[.int .u8 0, .int .u8 0, .string ⟨#[]⟩] 31)) := (Keep.refl _ w).alloc _
  have c0 := hc.keep0 k0
  have ng : ¬ kb = some w.heap.size := hc.ne (Nat.le_refl _)
  generalize hKV : kptr kb = KV at *
  go_enter Tryz.func22, Tryz.ntmps22
  go_wp2_with fail
  generalize hg : w.heap.size = g at *
  generalize w.alloc (.cells #[.int .u8 0, .int .u8 0, .string ⟨#[]⟩] 31) = w0 at *
  refine (new_any _ s hs).mono ?_
  rintro e w1 ⟨rfl, h1, k1⟩
  have nb := c0.ne (Nat.le_refl w0.heap.size)
  have lg := r0.lt
  have r1 := r0.keep0 k1
  have c1 := c0.keep0 k1
  have K1 : KeepK kb w w1 := (k0.trans k1).any
  generalize w0.heap.size = b at *
  clear r0 k0 c0 k1
  go_wp2_with fail
  refine (y _ _ h1 c1 nb).mono ?_
  rintro e w2 ⟨rfl, h2, c2, k2⟩
  have r2 := r1.keep k2 (by rintro (hh | hh); omega; exact ng hh)
  have K2 := K1.step k2 (fun i hi hh => by rcases hh with hh | hh; omega; exact hh)
  clear r1 h1 c1 K1 k2 y
  have k3 : Keep0 w2 (w2.alloc (.cells #[.int .u8 V, .int .u8 KD, .string T] 31)) := (Keep.refl _ w2).alloc _
  have f3 := FrAt.new w2 V KD T 31
  have h3 := h2.keep0 k3
  have r3 := r2.keep0 k3
  have c3 := c2.keep0 k3
  have K3 := K2.step0 k3
  have lb := h2.lt
  have lg2 := r2.lt
  clear h2 r2 c2 K2 k3
  go_wp2_with fail
  generalize w2.heap.size = g2 at *
  generalize w2.alloc (.cells #[.int .u8 V, .int .u8 KD, .string T] 31) = w3 at *
  refine (err_any h3).mono ?_
  rintro e w' ⟨rfl, rfl⟩
  obtain ⟨i0, i1, i2, i3, i4, i5⟩ := r3.cells
  obtain ⟨d0, d1, d2, d3, d4, d5⟩ := f3.cells
  have kd : Keep0 w3 w3.drew := (Keep.refl _ w3).drew
  have kz := FrAt.put_keep w3.drew g V KD T
  have hA := h3.keep0 kd
  have hB := hA.keep kz (by omega)
  have rB := (r3.keep0 kd).put V KD T
  have cB := (c3.keep0 kd).keep kz (fun i hi hh => ng (by rw [← hh]; exact hi))
  have KB := (K3.step0 kd).step kz (fun i hi hh => by omega)
  go_wp2_with fail
  go_region_with (go_at_call 36; refine (at_any (by first | exact hA | exact hB)).mono ?_; rintro e w' ⟨rfl, rfl⟩)
  all_goals go_wp2
  all_goals (refine bodyPost_ret (retFr3 rfl _ _ _ rfl rB) rfl ?_)
  all_goals exact ⟨rfl, cB, KB⟩
theorem decode7_any {w : World} {kb : Option Nat} (hc : CoderAt w kb) (s : ByteArray) (hs : s.size ≤ maxLen) :
    Calls Tryz.prog 22 #[kptr kb, .string s] w fun e w' => e = .returned (.tuple #[qFr s 0 0, .int .i64 (qLen s), .int .i64 (qErr s 0 0)]) ∧ CoderAt w' kb ∧ KeepK kb w w' := by
  unfold qLen
  by_cases hE : qErr s 0 0 = 0
  · rw [if_pos hE, hE]
    exact decode7_ok hc s hs hE
  · rw [if_neg hE, qFr_no hE]
    exact decode7_bad hc s hs hE
end Go.Proofs.YtaleennijfefnaaGreat
