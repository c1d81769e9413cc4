/-
  The example that every law of layer 8 begins with, out of the contracts of package split.
  Conditions: none.
-/
import Derived.Test.YtaleennijfefnaaGreatSplitTop
import Derived.Test.YtaleennijfefnaaGreatSplitJoin
namespace Go.Proofs.YtaleennijfefnaaGreat
open Go.RowKit

theorem one_short : qErr ⟨#[215]⟩ 0 0 = 2 := by
  have h : (⟨#[215]⟩ : ByteArray) ++ (one 78 ++ (fBody 1 0 ⟨#[]⟩ ++ bText 4 (cSum (fBody 1 0 ⟨#[]⟩).data.toList))) = fEnc 1 0 ⟨#[]⟩ := rfl
  refine fEnc_short (v := 1) (k := 0) (p := ⟨#[]⟩) rfl (by decide) h ?_
  rw [ByteArray.size_append, one_size]
  omega
def f08 : Fr := ⟨1, 0, ⟨#[]⟩⟩
theorem f08_ok : f08.ok := ⟨rfl, by decide⟩
theorem f08_size : f08.enc.size ≤ 311 := enc_size (by decide)
theorem f08_join : jAll [f08] = (f08.enc, 0, 0) := by
  have h : eErr7 f08.v f08.p = 0 := rfl
  unfold jAll
  rw [jGo, if_pos h, jGo]
  exact congrArg (fun x => (x, 0, 0)) ByteArray.empty_append
theorem f08_apart : sAll (f08.enc ++ ⟨#[215]⟩) = ([(f08, 0)], 1, 0) := by
  obtain ⟨h1, h2, h3, h4⟩ := sFr_back f08_ok ⟨#[215]⟩
  have h0 : 0 < f08.enc.size := by
    unfold Fr.enc
    rw [fEnc_size]
    omega
  obtain ⟨k, hk⟩ : ∃ k, (f08.enc ++ (⟨#[215]⟩ : ByteArray)).size = k + 1 := ⟨(f08.enc ++ (⟨#[215]⟩ : ByteArray)).size - 1, by rw [ByteArray.size_append]; omega⟩
  unfold sAll
  rw [hk, sGo_more h1, h2, h4, sGo_stop (by rw [one_short]; decide)]
  unfold sErr
  rw [one_short]
  rfl
set_option maxRecDepth 100000 in
theorem awake08 (w : World) : Calls Tryz.prog 6 #[] w fun e w' => e = .returned (.bool true) ∧ Keep0 w w' := by
  have k0 : Keep0 w (w.alloc (.cells #[.int .u8 1, .int .u8 0, .string ⟨#[]⟩] 31)) := (Keep.refl _ w).alloc _
  have hf : FramesAt (w.alloc (.cells #[.int .u8 1, .int .u8 0, .string ⟨#[]⟩] 31)) (some ⟨w.heap.size, 0, none⟩) [f08] := by
    intro i hi
    obtain rfl : i = 0 := by simpa using hi
    exact ⟨w.heap.size, 0, rfl, cell_alloc w _ rfl, cell_alloc w _ rfl, cell_alloc w _ rfl⟩
  have yj := join8_any _ _ 1 [f08] (by decide) (by intro f h; rw [List.mem_singleton.1 h]; decide) hf
  rw [f08_join] at yj
  have hsz := f08_size
  have ya := fun W => all8_any W (f08.enc ++ ⟨#[215]⟩) (by rw [ByteArray.size_append]; show _ + 1 ≤ _; omega)
  rw [f08_apart] at ya
  have e1 : (frsOf [(f08, 0)]).length = 1 := rfl
  have e2 : ([f08] : List Fr).length = 1 := rfl
  have e3 : (⟨#[215]⟩ : ByteArray).size = 1 := rfl
  rw [e1] at ya
  rw [e2] at yj
  generalize f08.enc = F at *
  have i1 : ¬ 9223372036854775807 < F.size + 1 := by omega
  clear hf e1 e2
  go_enter Tryz.func6, Tryz.ntmps6
  go_wp2_with fail
  generalize w.alloc (.cells #[.int .u8 1, .int .u8 0, .string ⟨#[]⟩] 31) = w0 at *
  generalize w.heap.size = g at *
  refine yj.mono ?_
  rintro e w1 ⟨rfl, k1⟩
  have K1 := k0.trans k1
  clear yj k0 k1
  go_wp2_with fail
  refine (ya _).mono ?_
  rintro e w2 ⟨ao, cap, rfl, _, _, k2⟩
  have K2 := K1.trans k2
  clear ya K1 k2
  go_wp2
  go_ret
  exact ⟨rfl, K2⟩
end Go.Proofs.YtaleennijfefnaaGreat
