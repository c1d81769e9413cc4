/-
  Contracts of Decode and of Put (layer 3), and of the document's own, each proved over this seat's translation.
  Conditions: a text takes at most the greatest length that a string may have; a number takes 64 bits.
-/
import Derived.Test.YtaleennijfefnaaGreatVarTake
import Derived.Test.YtaleennijfefnaaGreatVarEnc
import Derived.Test.YtaleennijfefnaaGreatRef01
import Derived.Test.YtaleennijfefnaaGreatRef02
namespace Go.Proofs.YtaleennijfefnaaGreat
open Go.RowKit

/-- What Decode answers: the number, the error. -/
def dErr (s : ByteArray) : Int := cEnd s (tAt s 0 0) (tErr s 0 0)
def dNum (s : ByteArray) : Int := if dErr s = 0 then tNum s 0 0 else 0
/-! ### what Decode comes to -/
theorem vBytes_zero (s : ByteArray) : vBytes s 0 = s.data.toList := rfl
theorem vRd_text {n : Nat} (hn : n < 18446744073709551616) (l : List UInt8) : vRd 10 (vEnc n ++ l) = (n, (vEnc n).length, 0) := vRd_enc 9 n l (by omega) (.inl rfl)
theorem decode_text {n : Nat} (hn : n < 18446744073709551616) : dErr (vText n) = 0 ∧ dNum (vText n) = n := by
  have h := vRd_text hn []
  rw [List.append_nil] at h
  have hb : vBytes (vText n) 0 = vEnc n := by rw [vBytes_zero]; unfold vText; simp
  have h1 : tErr (vText n) 0 0 = 0 := by unfold tErr; rw [if_pos rfl, hb, h]
  have h2 : tAt (vText n) 0 0 = (vText n).size := by unfold tAt; rw [if_pos rfl, hb, h, vText_size]; simp
  have h3 : tNum (vText n) 0 0 = n := by unfold tNum; rw [hb, h, if_pos ⟨rfl, rfl⟩]
  have h4 : dErr (vText n) = 0 := by unfold dErr cEnd; rw [h1, h2, if_neg (by omega)]
  exact ⟨h4, by unfold dNum; rw [if_pos h4, h3]⟩
theorem decode_back {s : ByteArray} (h : dErr s = 0) : ∃ n : Nat, n < 18446744073709551616 ∧ dNum s = n ∧ vText n = s := by
  have hl := vRd_len 10 (vBytes s 0)
  have hlt : (vRd 10 (vBytes s 0)).1 < 2 * 128 ^ 9 := vRd_lt 9 (vBytes s 0) (by decide)
  have hsz : s.size = s.data.toList.length := by simp
  rw [vBytes_zero] at hl
  have hE : tErr s 0 0 = (vRd 10 s.data.toList).2.2 := by unfold tErr; rw [if_pos rfl, vBytes_zero]
  have hA : tAt s 0 0 = (vRd 10 s.data.toList).2.1 := by unfold tAt; rw [if_pos rfl, vBytes_zero]; omega
  have h' := h
  unfold dErr cEnd cFail at h'
  have h0 : (vRd 10 s.data.toList).2.2 = 0 ∧ ¬ tAt s 0 0 < s.size := by
    split at h'
    · split at h' <;> omega
    · exact ⟨by rw [← hE]; exact h', by assumption⟩
  obtain ⟨h1, h2⟩ := h0
  have hb := (vRd_back 9 s.data.toList (by decide) h1).1
  rw [List.take_of_length_le (by show s.data.toList.length ≤ (vRd 10 s.data.toList).2.1; omega)] at hb
  refine ⟨(vRd 10 s.data.toList).1, by rw [vBytes_zero] at hlt; omega, ?_, ?_⟩
  · unfold dNum tNum
    rw [if_pos h, vBytes_zero, if_pos ⟨rfl, h1⟩]
  · unfold vText
    apply ByteArray.ext
    show (vEnc (vRd (9 + 1) s.data.toList).1).toArray = s.data
    rw [← hb]

/-! ### Put -/
theorem pAll_one (m : Int) (p : ByteArray × Int) (s : ByteArray) : pAll m p [s] = pOne m p s := rfl
theorem texts_sum : ∀ (ns : List Nat), (∀ n ∈ ns, n < 18446744073709551616) → ((ns.map vText).map ByteArray.size).sum ≤ 10 * ns.length
  | [], _ => Nat.le_refl _
  | n :: ns, h => by
    have h1 := (vText_le (h n (by simp))).2
    have h2 := texts_sum ns (fun k hk => h k (by simp [hk]))
    simp only [List.map_cons, List.sum_cons, List.length_cons]
    omega
set_option maxRecDepth 100000 in
set_option maxHeartbeats 2000000 in
theorem put_any {w : World} {b r : Nat} {t : ByteArray} {m x : Int} (h : Pen w b r t m x) (ao : Option Addr) (cap : Nat) (ns : List Nat) (hns : ∀ n ∈ ns, n < 18446744073709551616)
    (hc : ∀ k (hk : k < ns.length), ∃ bb off, ao = some ⟨bb, off, none⟩ ∧ w.cell? ⟨bb, off + k, none⟩ = some (.int .u64 (ns[k] : Int)) ∧ bb ≠ b ∧ bb ≠ r)
    (hl : (ns.length : Int) ≤ 9223372036854775807) (hfit : t.size + 10 * ns.length ≤ 140737488355328) :
    Calls Tryz.prog 83 #[pptr b, .slice ao ns.length cap] w fun e w' => e = .returned (.tuple #[]) ∧ PenAfter w w' b r m (pAll m (t, x) (ns.map vText)) := by
  have HC : Hid (∀ k (hk : k < ns.length), ∃ bb off, ao = some ⟨bb, off, none⟩ ∧ w.cell? ⟨bb, off + k, none⟩ = some (.int .u64 (ns[k] : Int)) ∧ bb ≠ b ∧ bb ≠ r) := hc
  have HN : Hid (∀ n ∈ ns, n < 18446744073709551616) := hns
  clear hc hns
  go_enter Tryz.func83, Tryz.ntmps83
  go_wp2_with fail
  go_loopw [8] (fun i wr => ∃ (k r' : Nat) (t' : ByteArray) (x' : Int), k ≤ ns.length ∧ i = .int .i64 k ∧ Pen wr b r' t' m x' ∧ pAll m (t, x) ((ns.map vText).take k) = (t', x') ∧ Keep (two b r) w wr ∧ (r' = r ∨ w.heap.size ≤ r')) (fun i _ => ns.length - (intOf i).toNat)
  case atStart => exact ⟨0, r, t, x, by omega, rfl, h, rfl, Keep.refl _ _, .inl rfl⟩
  case round =>
    obtain ⟨k, r', t', x', hk, rfl, hp, hall, hkp, hr⟩ := hrel
    by_cases hlt : k < ns.length
    · obtain ⟨bb, off, rfl, hcell0, hb1, hb2⟩ := HC.out k hlt
      have hcell : wr.cell? ⟨bb, off + k, none⟩ = some (.int .u64 (ns[k] : Int)) := hkp.cell hcell0 (by simp only [two]; omega)
      have hnk := HN.out ns[k] (by simp)
      have hstep := pAll_take m (t, x) (ns.map vText) k (by simpa using hlt)
      rw [hall, List.getElem_map] at hstep
      have hsz := pAll_size m ((ns.map vText).take k) (t, x)
      have hsm := texts_sum (ns.take k) (fun n hn => HN.out n (List.mem_of_mem_take hn))
      have hlk : (ns.take k).length ≤ k := by simp; omega
      rw [hall, ← List.map_take] at hsz
      generalize ns[k] = n at *
      simp only at hsz
      have hvt := vText_le hnk
      have hfs : t'.size + (vText n).size ≤ 140737488355328 := by omega
      have HS : Hid (pAll m (t, x) ((ns.map vText).take (k + 1)) = pOne m (t', x') (vText n)) := hstep
      clear hcell0 hsz hsm hlk hstep hall hfit hvt
      go_wp2_with fail
      refine (encode_any wr n hnk).mono ?_
      rintro e w2 ⟨rfl, k2⟩
      have hp2 := hp.keep0 k2
      have kA := (Keep.refl (fun _ => False) w2).alloc (.cells #[.string (vText n)] 9)
      have hpA := hp2.keep0 kA
      have hb2' := hp2.lt
      have hr2' := hp2.rlt
      go_wp2_with fail
      refine (ptext_any hpA _ _ [vText n] ?_ (by simp) (.inl ?_)).mono ?_
      · intro j hj
        obtain rfl : j = 0 := by simp at hj; omega
        exact ⟨w2.heap.size, 0, rfl, cell_alloc w2 _ rfl, by omega, by omega⟩
      · simp; omega
      rw [pAll_one]
      rintro e w3 ⟨rfl, r3, hp3, k3, hr3⟩
      have hs2 := k2.size
      have hsA := kA.size
      go_wp2
      go_roundw
      case rel => exact ⟨k + 1, r3, _, _, by omega, by go_num, hp3, HS.out, ((hkp.step0 k2).step0 kA).step k3 (fun i hi' hh => by simp only [two] at hh ⊢; omega), by have := hkp.size; omega⟩
      case measure => simp [intOf]; omega
    · rw [List.take_of_length_le (by simp; omega)] at hall
      have HE : Hid (pAll m (t, x) (ns.map vText) = (t', x')) := hall
      clear hall
      go_wp2
      go_end0
      refine ⟨rfl, ?_⟩
      rw [HE.out]
      exact ⟨r', hp, hkp, hr⟩
end Go.Proofs.YtaleennijfefnaaGreat
