/-
  The walk of the law FrameDecodes, out of the contracts of package frame and of the document's own answers; and the example that every law of layer 7 begins with.
  Conditions: none beyond that a text takes at most the greatest length that a string may have.
-/
import Derived.Test.YtkmfcdcimmhmdaaFrameEnc
import Derived.Test.YtkmfcdcimmhmdaaFrameDec
import Derived.Test.YtkmfcdcimmhmdaaRefFrame3
namespace Go.Proofs.Ytkmfcdcimmhmdaa
open Go.RowKit

theorem vText_one : vText 1 = ⟨#[1]⟩ := by unfold vText; rw [vEnc_lt (by decide)]; rfl
theorem enc_a : ∃ N : Nat, fEnc 2 1 ⟨#[97]⟩ = ⟨#[215, 78, 2, 1, 1, 97]⟩ ++ bText 4 N := by
  refine ⟨cSum (fBody 2 1 ⟨#[97]⟩).data.toList, ?_⟩
  have h1 : (⟨#[97]⟩ : ByteArray).size = 1 := rfl
  have hb : fBody 2 1 ⟨#[97]⟩ = ⟨#[2, 1, 1, 97]⟩ := by
    unfold fBody
    rw [h1, vText_one]
    rfl
  unfold fEnc
  rw [hb, ← ByteArray.append_assoc, ← ByteArray.append_assoc]
  rfl
theorem extract_front (a b : ByteArray) : (a ++ b).extract 0 a.size = a := by
  apply ByteArray.ext
  rw [ByteArray.data_extract, ByteArray.data_append]
  apply Array.toList_inj.1
  rw [Array.toList_extract, List.extract_eq_take_drop, Array.toList_append]
  have : a.size = a.data.toList.length := by simp
  rw [this]
  simp
theorem awake07 (w : World) : Calls Try.prog 6 #[] w fun e w' => e = .returned (.bool true) ∧ Keep0 w w' := by
  obtain ⟨N, hN⟩ := enc_a
  have hsz : (fEnc 2 1 ⟨#[97]⟩).size = 10 := by rw [hN, ByteArray.size_append, bText_size]; rfl
  have hex : (fEnc 2 1 ⟨#[97]⟩).extract 0 6 = ⟨#[215, 78, 2, 1, 1, 97]⟩ := by rw [hN]; exact extract_front _ _
  have hen := fun W kb (h : CoderAt W kb) => encode7_ok h 2 1 ⟨#[97]⟩ (by decide) rfl (by decide)
  have e2 : ((2 : UInt8).toNat : Int) = 2 := rfl
  have e1 : ((1 : UInt8).toNat : Int) = 1 := rfl
  rw [e2, e1] at hen
  unfold fr at hen
  generalize fEnc 2 1 ⟨#[97]⟩ = F at *
  clear hN e2 e1
  go_enter Try.func6, Try.ntmps6
  go_wp2_with fail
  refine (newcoder_any _).mono ?_
  rintro e w1 ⟨rfl, h1, k1⟩
  have hen := hen _ _ h1
  generalize kptr (some w.heap.size) = KV at *
  go_wp2_with fail
  refine hen.mono ?_
  rintro e w2 ⟨rfl, h2, k2⟩
  have K2 := k1.step k2 (fun i hi hh => by cases hh; omega)
  clear hen k1 k2 h1 h2
  go_wp2
  go_ret
  exact ⟨rfl, K2⟩
end Go.Proofs.Ytkmfcdcimmhmdaa
