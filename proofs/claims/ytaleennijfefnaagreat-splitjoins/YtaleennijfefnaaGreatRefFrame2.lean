/-
  Contracts of the document's own Decode and Encode of frames, each proved over this seat's translation.
  Conditions: a text takes at most the greatest length that a string may have.
-/
import Derived.Test.YtaleennijfefnaaGreatRefFrame
import Derived.Test.YtaleennijfefnaaGreatVarEnc
import Derived.PlainAid
namespace Go.Proofs.YtaleennijfefnaaGreat
open Go.RowKit

set_option maxRecDepth 100000 in
set_option maxHeartbeats 4000000 in
theorem rdecode7_any (w : World) (s : ByteArray) (hs : s.size ≤ maxLen) :
    Calls Tryz.prog 9 #[.string s] w fun e w' => e = .returned (.tuple #[qFr s 0 0, .int .i64 (qLen s), .int .i64 (qErr s 0 0)]) ∧ Keep0 w w' := by
  have y := fun W b (h : Cur W b s 0 0) => rtake7_any h
  have hF := FrAt.new w 0 0 ⟨#[]⟩ 31
  have kS : Keep0 w (w.alloc (.cells #[.int .u8 0, .int .u8 0, .string ⟨#[]⟩] 31)) := (Keep.refl _ w).alloc _
  have hC := Cur.new (w.alloc (.cells #[.int .u8 0, .int .u8 0, .string ⟨#[]⟩] 31)) s 51 hs
  have kC := (Keep.refl (fun _ => False) (w.alloc (.cells #[.int .u8 0, .int .u8 0, .string ⟨#[]⟩] 31))).alloc (.cells #[.string s, .int .i64 0, .int .i64 0] 51)
  have hF := hF.keep0 kC
  have kS := kS.trans kC
  rw [World.size_alloc] at hC
  clear kC
  unfold qLen
  by_cases hE : qErr s 0 0 = 0
  · rw [if_pos hE, hE]
    rw [hE] at y
    unfold qFr fr at *
    generalize qVer s 0 0 = V at *
    generalize qKind s 0 0 = KD at *
    generalize qTxt s 0 0 = T at *
    generalize qAt s 0 0 = A at *
    clear hE
    go_enter Tryz.func9, Tryz.ntmps9
    go_wp2_with fail
    generalize (w.alloc (.cells #[.int .u8 0, .int .u8 0, .string ⟨#[]⟩] 31)).alloc (.cells #[.string s, .int .i64 0, .int .i64 0] 51) = W0 at *
    refine (y _ _ hC).mono ?_
    rintro e w1 ⟨rfl, h1, k1⟩
    have k2 : Keep0 w1 (w1.alloc (.cells #[.int .u8 V, .int .u8 KD, .string T] 31)) := (Keep.refl _ w1).alloc _
    have f2 := FrAt.new w1 V KD T 31
    have h2 := h1.keep0 k2
    have r2 := (hF.keep k1 (by omega)).keep0 k2
    have K2 := (kS.step1 k1 (by omega)).step0 k2
    obtain ⟨c0, c1, c2, c3, c4⟩ := h2.cells
    obtain ⟨d0, d1, d2, d3, d4, d5⟩ := f2.cells
    obtain ⟨i0, i1, i2, i3, i4, i5⟩ := r2.cells
    clear hC hF kS k1 h1 k2 y
    go_wp2_with fail
    generalize w1.alloc (.cells #[.int .u8 V, .int .u8 KD, .string T] 31) = W2 at *
    generalize w1.heap.size = B2 at *
    go_region_with (fail)
    all_goals go_wp2
    all_goals (refine bodyPost_ret (retFr3 rfl _ _ _ rfl ((r2.put V KD T).keep0 (Keep.refl _ _).drew)) rfl ?_)
    all_goals exact ⟨rfl, (K2.step1 (FrAt.put_keep _ _ V KD T) (Nat.le_refl _)).drew⟩
  · rw [if_neg hE]
    unfold qFr fr at *
    generalize qVer s 0 0 = V at *
    generalize qKind s 0 0 = KD at *
    generalize qTxt s 0 0 = T at *
    generalize qAt s 0 0 = A at *
    have e2 : (qErr s 0 0 != 0) = true := by simpa using hE
    generalize qErr s 0 0 = E at *
    clear hE
    go_enter Tryz.func9, Tryz.ntmps9
    go_wp2_with fail
    generalize (w.alloc (.cells #[.int .u8 0, .int .u8 0, .string ⟨#[]⟩] 31)).alloc (.cells #[.string s, .int .i64 0, .int .i64 0] 51) = W0 at *
    refine (y _ _ hC).mono ?_
    rintro e w1 ⟨rfl, h1, k1⟩
    have k2 : Keep0 w1 (w1.alloc (.cells #[.int .u8 V, .int .u8 KD, .string T] 31)) := (Keep.refl _ w1).alloc _
    have f2 := FrAt.new w1 V KD T 31
    have h2 := h1.keep0 k2
    have r2 := (hF.keep k1 (by omega)).keep0 k2
    have K2 := (kS.step1 k1 (by omega)).step0 k2
    obtain ⟨c0, c1, c2, c3, c4⟩ := h2.cells
    obtain ⟨d0, d1, d2, d3, d4, d5⟩ := f2.cells
    obtain ⟨i0, i1, i2, i3, i4, i5⟩ := r2.cells
    clear hC hF kS k1 h1 k2 y
    go_wp2_with fail
    generalize w1.alloc (.cells #[.int .u8 V, .int .u8 KD, .string T] 31) = W2 at *
    generalize w1.heap.size = B2 at *
    go_region_with (fail)
    all_goals go_wp2
    all_goals (refine bodyPost_ret (retFr3 rfl _ _ _ rfl ((r2.put V KD T).keep0 (Keep.refl _ _).drew)) rfl ?_)
    all_goals exact ⟨rfl, (K2.step1 (FrAt.put_keep _ _ V KD T) (Nat.le_refl _)).drew⟩

/-! ### Encode -/
/-- Why a frame has no bytes; its bytes. -/
def eErr7 (v : UInt8) (p : ByteArray) : Int := if qV (v.toNat : Int) = false then 10 else if 65536 < p.size then 3 else 0
def eTxt7 (v k : UInt8) (p : ByteArray) : ByteArray := if eErr7 v p = 0 then fEnc v k p else ⟨#[]⟩
theorem e7_ver {v : UInt8} (k : UInt8) (p : ByteArray) (h : qV (v.toNat : Int) = false) : eErr7 v p = 10 ∧ eTxt7 v k p = ⟨#[]⟩ := by
  have e : eErr7 v p = 10 := if_pos h
  exact ⟨e, if_neg (by rw [e]; decide)⟩
theorem e7_long {v : UInt8} (k : UInt8) {p : ByteArray} (h : qV (v.toNat : Int) = true) (h1 : 65536 < p.size) : eErr7 v p = 3 ∧ eTxt7 v k p = ⟨#[]⟩ := by
  have e : eErr7 v p = 3 := by unfold eErr7; rw [h, if_neg (by decide), if_pos h1]
  exact ⟨e, if_neg (by rw [e]; decide)⟩
theorem e7_ok {v : UInt8} (k : UInt8) {p : ByteArray} (h : qV (v.toNat : Int) = true) (h1 : ¬ 65536 < p.size) : eErr7 v p = 0 ∧ eTxt7 v k p = fEnc v k p := by
  have e : eErr7 v p = 0 := by unfold eErr7; rw [h, if_neg (by decide), if_neg h1]
  exact ⟨e, if_pos e⟩
/-- A list of two bytes as a text. -/
theorem run_two {src dst : TypeId} (hs : Tryz.prog.underlying src = some (.slice 5)) (hd : Tryz.prog.underlying dst = some .string) (W : World) (g : Nat) (c d : UInt8)
    (hc : W.cell? ⟨g, 0, none⟩ = some (.int .u8 (c.toNat : Int))) (hc1 : W.cell? ⟨g, 1, none⟩ = some (.int .u8 (d.toNat : Int))) :
    (convert src dst (.slice (some ⟨g, 0, none⟩) 2 2)).run Tryz.prog W = .ok (.string (one c ++ one d)) W := by
  have h := run_convert_bytes_back (P := Tryz.prog) W src dst 5 ⟨g, 0, none⟩ 2 [c, d] hs Tryz.underlying5 hd (fun j hj => by
    have hj : j < 2 := by simpa using hj
    match j, hj with
    | 0, _ => exact hc
    | 1, _ => exact hc1)
  exact h
theorem bText4_put {n : Nat} (hn : n < 4294967296) : pPut 4 4 (⟨#[]⟩, 0) n = (bText 4 n, 0) := by
  have e : eErr 4 n = 0 := eErr_ok rfl (by show ¬ (4294967295 : Int) < n; omega)
  rw [pPut_ok e]
  have h4 : ((4 : Int)).toNat = 4 := rfl
  rw [h4, pOne_yes (by rw [bText_size]; decide)]
  congr 1
theorem fEnc_left (v k : UInt8) (p : ByteArray) : (⟨#[215, 78]⟩ : ByteArray) ++ (one v ++ one k ++ vText p.size ++ p) ++ bText 4 (cSum (one v ++ one k ++ vText p.size ++ p).data.toList) = fEnc v k p := by
  have e : (⟨#[215, 78]⟩ : ByteArray) = one 215 ++ one 78 := rfl
  have e1 : one v ++ one k ++ vText p.size ++ p = fBody v k p := by unfold fBody; simp only [ByteArray.append_assoc]
  rw [e, e1]
  unfold fEnc
  simp only [ByteArray.append_assoc]
set_option maxRecDepth 100000 in
theorem rencode7_ver (w : World) (v k : UInt8) (p : ByteArray) (h : qV (v.toNat : Int) = false) :
    Calls Tryz.prog 16 #[fr (v.toNat : Int) (k.toNat : Int) p] w fun e w' => e = .returned (.tuple #[.string ⟨#[]⟩, .int .i64 10]) ∧ Keep0 w w' := by
  have hn := of_decide_eq_false h
  have e1 : ((v.toNat : Int) != 1) = true := by simp; omega
  have e2 : ((v.toNat : Int) != 2) = true := by simp; omega
  clear hn h
  unfold fr
  go_enter Tryz.func16, Tryz.ntmps16
  go_wp2
  go_ret2
  exact ⟨rfl, (Keep.refl _ w).alloc _⟩
set_option maxRecDepth 100000 in
theorem rencode7_long (w : World) (v k : UInt8) (p : ByteArray) (hp : p.size ≤ maxLen) (h : qV (v.toNat : Int) = true) (h1 : 65536 < p.size) :
    Calls Tryz.prog 16 #[fr (v.toNat : Int) (k.toNat : Int) p] w fun e w' => e = .returned (.tuple #[.string ⟨#[]⟩, .int .i64 3]) ∧ Keep0 w w' := by
  have hn := of_decide_eq_true h
  have h1' : (65536 : Int) < p.size := by omega
  have hp' : (p.size : Int) ≤ 9223372036854775807 := by unfold maxLen at hp; omega
  clear h h1 hp
  unfold fr
  rcases hn with hn | hn
  · have e1 : ((v.toNat : Int) != 1) = false := by rw [hn]; rfl
    clear hn
    go_enter Tryz.func16, Tryz.ntmps16
    go_wp2
    go_ret2
    exact ⟨rfl, (Keep.refl _ w).alloc _⟩
  · have e1 : ((v.toNat : Int) != 1) = true := by rw [hn]; rfl
    have e2 : ((v.toNat : Int) != 2) = false := by rw [hn]; rfl
    clear hn
    go_enter Tryz.func16, Tryz.ntmps16
    go_wp2
    go_ret2
    exact ⟨rfl, (Keep.refl _ w).alloc _⟩
end Go.Proofs.YtaleennijfefnaaGreat
