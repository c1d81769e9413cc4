/-
  Contracts of layer 4's Take and Decode, and of the document's own, each proved over this seat's translation.
  Conditions: a text takes at most the greatest length that a string may have.
-/
import Derived.Test.YtaleennijfefnaaGreatFixNum
import Derived.Test.YtaleennijfefnaaGreatRef01
namespace Go.Proofs.YtaleennijfefnaaGreat
open Go.RowKit
open Go.PlainAid (bt get_bt bt_nonneg bt_le)

/-- What Take answers; the place then; the error then. -/
def fNum (s : ByteArray) (a x k : Int) : Nat := if fIs k = true then bNum (cBytes s a x k).data.toList else 0
def fAt (s : ByteArray) (a x k : Int) : Int := if fIs k = true then cAt s a x k else a
def fErr (s : ByteArray) (a x k : Int) : Int := if fIs k = true then cErr s a x k else cFail x 1
theorem fTake_no {s : ByteArray} {a x k : Int} (h : fIs k = false) : fNum s a x k = 0 ∧ fAt s a x k = a ∧ fErr s a x k = cFail x 1 := by
  unfold fNum fAt fErr
  rw [h]
  exact ⟨rfl, rfl, rfl⟩
theorem fTake_yes {s : ByteArray} {a x k : Int} (h : fIs k = true) : fNum s a x k = bNum (cBytes s a x k).data.toList ∧ fAt s a x k = cAt s a x k ∧ fErr s a x k = cErr s a x k := by
  unfold fNum fAt fErr
  rw [h]
  exact ⟨rfl, rfl, rfl⟩
theorem cBytes_size {s : ByteArray} {a x k : Int} (h0 : 0 ≤ a) (hk : k ≤ 8) : (cBytes s a x k).size ≤ 8 := by
  unfold cBytes
  split
  · unfold cut
    rw [ByteArray.size_extract]
    omega
  · decide
set_option maxRecDepth 100000 in
theorem take4_any {w : World} {b : Nat} {s : ByteArray} {a x : Int} (k : Int) (h : Cur w b s a x) :
    Calls Tryz.prog 57 #[ptr b, .int .i64 k] w fun e w' => e = .returned (.int .u64 (fNum s a x k)) ∧ Cur w' b s (fAt s a x k) (fErr s a x k) ∧ Keep1 b w w' := by
  cases hf : fIs k with
  | false =>
    obtain ⟨e1, e2, e3⟩ := fTake_no (s := s) (a := a) (x := x) hf
    rw [e1, e2, e3]
    go_enter Tryz.func57, Tryz.ntmps57
    go_wp2_with (first | (go_at_call 63; refine (isWidth_any w k).mono ?_; rw [hf]; rintro e w' ⟨rfl, rfl⟩) | (go_at_call 58; refine (fail_any 1 h).mono ?_; rintro e w1 ⟨rfl, h1, k1⟩))
    go_ret
    exact ⟨rfl, h1, k1⟩
  | true =>
    obtain ⟨e1, e2, e3⟩ := fTake_yes (s := s) (a := a) (x := x) hf
    rw [e1, e2, e3]
    clear e1 e2 e3
    have hsz := cBytes_size (s := s) (x := x) h.lo (by rcases fIs_cases hf with rfl | rfl | rfl | rfl <;> decide : k ≤ 8)
    have hby := fun W (h : Cur W b s a x) => bytes_any k h
    generalize cBytes s a x k = t at *
    go_enter Tryz.func57, Tryz.ntmps57
    go_wp2_with (first | (go_at_call 63; refine (isWidth_any w k).mono ?_; rw [hf]; rintro e w' ⟨rfl, rfl⟩) | (go_at_call 72; refine (hby w h).mono ?_; rintro e w1 ⟨rfl, h1, k1⟩) | (go_at_call 75; refine (number_any w1 t hsz).mono ?_; rintro e w2 ⟨rfl, k2⟩))
    go_ret
    exact ⟨rfl, h1.keep0 k2, k1.step0 k2⟩
set_option maxRecDepth 100000 in
theorem take4_nil (w : World) (k : Int) (hf : fIs k = true) :
    Calls Tryz.prog 57 #[.pointer none, .int .i64 k] w fun e w' => e = .returned (.int .u64 0) ∧ Keep0 w w' := by
  go_enter Tryz.func57, Tryz.ntmps57
  go_wp2_with (first | (go_at_call 63; refine (isWidth_any w k).mono ?_; rw [hf]; rintro e w' ⟨rfl, rfl⟩) | (go_at_call 72; refine (bytes_nil k w).mono ?_; rintro e w' ⟨rfl, rfl⟩) | (go_at_call 75; refine (number_any w ⟨#[]⟩ (by decide)).mono ?_; rintro e w2 ⟨rfl, k2⟩))
  go_ret
  exact ⟨rfl, k2⟩

/-! ### the document's own -/
set_option maxRecDepth 100000 in
theorem rtake4_any {w : World} {b : Nat} {s : ByteArray} {a x : Int} (k : Int) (h : Cur w b s a x) :
    Calls Tryz.prog 32 #[ptr b, .int .i64 k] w fun e w' => e = .returned (.int .u64 (fNum s a x k)) ∧ Cur w' b s (fAt s a x k) (fErr s a x k) ∧ Keep1 b w w' := by
  obtain ⟨h0, h1, h2, h3, h4⟩ := h.cells
  by_cases hx : x = 0
  · subst hx
    cases hf : fIs k with
    | false =>
      obtain ⟨e1, e2, e3⟩ := fTake_no (s := s) (a := a) (x := 0) hf
      rw [e1, e2, e3]
      clear e1 e2 e3
      go_enter Tryz.func32, Tryz.ntmps32
      go_wp2_with (go_at_call 45; refine (rwidth_any w k).mono ?_; rw [hf]; rintro e w' ⟨rfl, rfl⟩)
      go_ret
      exact ⟨rfl, h.setErr 1, (Keep.refl _ _).set1 _ _⟩
    | true =>
      obtain ⟨e1, e2, e3⟩ := fTake_yes (s := s) (a := a) (x := 0) hf
      rw [e1, e2, e3]
      clear e1 e2 e3
      have hsz := cBytes_size (s := s) (x := 0) h.lo (by rcases fIs_cases hf with rfl | rfl | rfl | rfl <;> decide : k ≤ 8)
      have hby := fun W (h : Cur W b s a 0) => rbytes_any k h
      generalize cBytes s a 0 k = t at *
      go_enter Tryz.func32, Tryz.ntmps32
      go_wp2_with (first | (go_at_call 45; refine (rwidth_any w k).mono ?_; rw [hf]; rintro e w' ⟨rfl, rfl⟩) | (go_at_call 50; refine (hby w h).mono ?_; rintro e w1 ⟨rfl, hc1, k1⟩))
      have hll : t.data.toList.length = t.size := by simp
      have hsz' : (t.size : Int) ≤ 8 := by omega
      have hget := get_bt t
      go_loopw [6, 7] (fun n i wr => ∃ (j N : Nat), j ≤ t.size ∧ n = .int .u64 N ∧ N = bNum (t.data.toList.take j) ∧ i = .int .i64 j ∧ wr = w1) (fun _ i _ => t.size - (intOf i).toNat)
      case atStart => exact ⟨0, 0, by omega, rfl, rfl, rfl, rfl⟩
      case round =>
        obtain ⟨j, N, hj, rfl, hN, rfl, rfl⟩ := hrel
        by_cases hlt : j < t.size
        · have hbt : bt t j = (t.data.toList[j].toNat : Int) := by rw [← hget j hlt]; rfl
          have hN' : bNum (t.data.toList.take (j + 1)) = N * 256 + t.data.toList[j].toNat := by rw [bNum_take, ← hN]
          have hN7 : N < 72057594037927936 := by rw [hN]; exact bNum_le7 (by rw [List.length_take]; omega)
          generalize t.data.toList[j] = c at *
          have hc : c.toNat < 256 := c.toNat_lt
          have HN : Hid (bNum (t.data.toList.take (j + 1)) = N * 256 + c.toNat) := hN'
          clear hN hN'
          go_wp2
          go_roundw
          case rel => exact ⟨j + 1, N * 256 + c.toNat, by omega, by go_num, HN.out.symm, by go_num, trivial⟩
          case measure => simp [intOf]; omega
        · have HN : Hid (N = bNum t.data.toList) := by rw [List.take_of_length_le (by omega)] at hN; exact hN
          clear hN
          go_wp2
          go_ret
          refine ⟨?_, hc1, k1⟩
          rw [← HN.out]
          rfl
  · have hx1 : (x == 0) = false := by simpa using hx
    have hx2 : (x != 0) = true := by simpa using hx
    have hq : fNum s a x k = 0 ∧ fAt s a x k = a ∧ fErr s a x k = x := by
      cases hf : fIs k with
      | false =>
        obtain ⟨e1, e2, e3⟩ := fTake_no (s := s) (a := a) (x := x) hf
        rw [e1, e2, e3]
        exact ⟨rfl, rfl, if_neg hx⟩
      | true =>
        obtain ⟨e1, e2, e3⟩ := fTake_yes (s := s) (a := a) (x := x) hf
        rw [e1, e2, e3]
        unfold cBytes cAt cErr
        rw [if_neg (fun h => hx h.1), if_neg (fun h => hx h.1), if_pos hx]
        exact ⟨rfl, rfl, rfl⟩
    obtain ⟨e1, e2, e3⟩ := hq
    rw [e1, e2, e3]
    clear e1 e2 e3
    go_enter Tryz.func32, Tryz.ntmps32
    go_wp2
    go_ret
    exact ⟨rfl, h, Keep.refl _ _⟩
end Go.Proofs.YtaleennijfefnaaGreat
