/-
  Contracts of package blob's writings and of its Rising, each proved over this seat's translation.
  Conditions: limits take 63 bits; what is written together, or the pen's limit, is at most half of the greatest memory.
-/
import Derived.Test.YtaleennijfefnaaGreatBlobFns
namespace Go.Proofs.YtaleennijfefnaaGreat
open Go.RowKit

theorem PenAfter.same {w : World} {b r : Nat} {m : Int} {t : ByteArray} {x : Int} (h : Pen w b r t m x) : PenAfter w w b r m (t, x) := ⟨r, h, Keep.refl _ _, .inl rfl⟩
theorem PenAfter.fail {w w' : World} {b r : Nat} {m : Int} {t : ByteArray} {x : Int} (h : Pen w' b r t m x) (k : Keep1 b w w') : PenAfter w w' b r m (t, x) := ⟨r, h, k.mono (fun _ _ e => .inl e), .inl rfl⟩
theorem PenAfter.trans {w w1 w2 : World} {b r r1 : Nat} {m : Int} {p : ByteArray × Int} (k1 : Keep (two b r) w w1) (hr : r1 = r ∨ w.heap.size ≤ r1) (h2 : PenAfter w1 w2 b r1 m p) : PenAfter w w2 b r m p := by
  obtain ⟨r2, hp, k2, hr2⟩ := h2
  have := k1.size
  refine ⟨r2, hp, k1.step k2 (fun i hi hh => ?_), by omega⟩
  simp only [two] at hh ⊢
  omega

/-- One number, whose list has just been made. -/
theorem vput_one {w : World} {b r : Nat} {t : ByteArray} {M x : Int} (h : Pen w b r t M x) (n : Nat) (hn : n < 18446744073709551616) (hfit : t.size + 10 ≤ 140737488355328) (ty : TypeId) :
    Calls Tryz.prog 83 #[pptr b, .slice (some ⟨w.heap.size, 0, none⟩) 1 1] (w.alloc (.cells #[.int .u64 n] ty)) fun e w' => e = .returned (.tuple #[]) ∧ PenAfter w w' b r M (pOne M (t, x) (vText n)) := by
  have k0 : Keep0 w (w.alloc (.cells #[.int .u64 n] ty)) := (Keep.refl _ w).alloc _
  have l1 := h.lt
  have l2 := h.rlt
  refine (put_any (h.keep0 k0) (some ⟨w.heap.size, 0, none⟩) 1 [n] (by simpa using hn) ?_ (by simp) (by simpa using hfit)).mono ?_
  · intro k hk
    obtain rfl : k = 0 := by simpa using hk
    exact ⟨w.heap.size, 0, rfl, cell_alloc w ty rfl, by omega, by omega⟩
  · rintro e w' ⟨rfl, h1⟩
    exact ⟨rfl, PenAfter.trans k0.any (.inl rfl) h1⟩
/-- One text, whose list has just been made. -/
theorem text_one {w : World} {b r : Nat} {t : ByteArray} {M x : Int} (h : Pen w b r t M x) (s : ByteArray) (hfit : (t.size : Int) + s.size ≤ 140737488355328 ∨ M ≤ 140737488355328) (ty : TypeId) :
    Calls Tryz.prog 42 #[pptr b, .slice (some ⟨w.heap.size, 0, none⟩) 1 1] (w.alloc (.cells #[.string s] ty)) fun e w' => e = .returned (.tuple #[]) ∧ PenAfter w w' b r M (pOne M (t, x) s) := by
  have k0 : Keep0 w (w.alloc (.cells #[.string s] ty)) := (Keep.refl _ w).alloc _
  have l1 := h.lt
  have l2 := h.rlt
  refine (ptext_any (h.keep0 k0) (some ⟨w.heap.size, 0, none⟩) 1 [s] ?_ (by simp) (by simpa using hfit)).mono ?_
  · intro k hk
    obtain rfl : k = 0 := by simpa using hk
    exact ⟨w.heap.size, 0, rfl, cell_alloc w ty rfl, by omega, by omega⟩
  · rintro e w' ⟨rfl, h1⟩
    exact ⟨rfl, PenAfter.trans k0.any (.inl rfl) h1⟩
/-- One byte, whose list has just been made. -/
theorem byte_one {w : World} {b r : Nat} {t : ByteArray} {M x : Int} (h : Pen w b r t M x) (c : UInt8) (hfit : (t.size : Int) + 1 ≤ 140737488355328 ∨ M ≤ 140737488355328) (ty : TypeId) :
    Calls Tryz.prog 61 #[pptr b, .slice (some ⟨w.heap.size, 0, none⟩) 1 1] (w.alloc (.cells #[.int .u8 (c.toNat : Int)] ty)) fun e w' => e = .returned (.tuple #[]) ∧ PenAfter w w' b r M (pOne M (t, x) (one c)) := by
  have k0 : Keep0 w (w.alloc (.cells #[.int .u8 (c.toNat : Int)] ty)) := (Keep.refl _ w).alloc _
  have l1 := h.lt
  have l2 := h.rlt
  refine (pbyte_any (h.keep0 k0) (some ⟨w.heap.size, 0, none⟩) 1 [c] ?_ (by simp) (by simpa using hfit)).mono ?_
  · intro k hk
    obtain rfl : k = 0 := by simpa using hk
    exact ⟨w.heap.size, 0, rfl, cell_alloc w ty rfl, by omega, by omega⟩
  · rintro e w' ⟨rfl, h1⟩
    exact ⟨rfl, PenAfter.trans k0.any (.inl rfl) h1⟩

theorem pfail6 {w : World} {b r : Nat} {t : ByteArray} {M x : Int} (y : Int) (h : Pen w b r t M x) : Calls Tryz.prog 60 #[pptr b, .int .i64 y] w fun e w' => e = .returned (.tuple #[]) ∧ PenAfter w w' b r M (t, pFail x y) := by
  refine (pfail_any y h).mono ?_
  rintro e w' ⟨rfl, h1, k1⟩
  exact ⟨rfl, PenAfter.fail h1 k1⟩
theorem pcount6_any {w : World} {b r : Nat} {t : ByteArray} {M x : Int} (m n : Int) (hm : m ≤ 9223372036854775807) (hn : n ≤ 9223372036854775807) (h : Pen w b r t M x) (ht : t.size + 10 ≤ 140737488355328) :
    Calls Tryz.prog 76 #[pptr b, .int .i64 m, .int .i64 n] w fun e w' => e = .returned (.tuple #[]) ∧ PenAfter w w' b r M (wCount M m (t, x) n) := by
  have hb := pMax_bd hm
  by_cases h1 : n < 0
  · have q : wCount M m (t, x) n = (t, pFail x 1) := if_pos h1
    rw [q]
    clear q hb
    go_enter Tryz.func76, Tryz.ntmps76
    go_wp2_with fail
    refine (pfail6 1 h).mono ?_
    rintro e w1 ⟨rfl, h1⟩
    go_wp2
    first | go_end0 | refine bodyPost_ret (results_none rfl _ _ _) rfl ?_
    exact ⟨rfl, h1⟩
  · obtain ⟨k, rfl⟩ : ∃ k : Nat, n = k := ⟨n.toNat, by omega⟩
    by_cases hf : (k : Int) ≤ pMax m
    · have q : wCount M m (t, x) k = pOne M (t, x) (vText k) := by unfold wCount; rw [if_neg h1, if_pos hf]; rfl
      rw [q]
      have hA := above_no w k m hm (by omega) (by omega) (by omega)
      clear q h1
      go_enter Tryz.func76, Tryz.ntmps76
      go_wp2_with fail
      refine hA.mono ?_
      rintro e w' ⟨rfl, rfl⟩
      go_wp2_with fail
      refine (vput_one h k (by omega) ht _).mono ?_
      rintro e w1 ⟨rfl, h1⟩
      go_wp2
      go_end0
      exact ⟨rfl, h1⟩
    · have q : wCount M m (t, x) k = (t, pFail x 3) := by unfold wCount; rw [if_neg h1, if_neg hf]
      rw [q]
      have hA := above_yes w k m hm (by omega) (by omega) (by omega)
      clear q h1
      go_enter Tryz.func76, Tryz.ntmps76
      go_wp2_with fail
      refine hA.mono ?_
      rintro e w' ⟨rfl, rfl⟩
      go_wp2_with fail
      refine (pfail6 3 h).mono ?_
      rintro e w1 ⟨rfl, h1⟩
      go_wp2
      first | go_end0 | refine bodyPost_ret (results_none rfl _ _ _) rfl ?_
      exact ⟨rfl, h1⟩
/-- A blob is its count and its bytes: behind a count that fails nothing is written. -/
theorem wPut_count (M m : Int) (p : ByteArray × Int) (s : ByteArray) : wPut M m p s = pOne M (wCount M m p s.size) s := by
  unfold wCount
  rw [if_neg (by omega)]
  by_cases hf : (s.size : Int) ≤ pMax m
  · rw [wPut_fit hf, if_pos hf]
    rfl
  · rw [wPut_long hf, if_neg hf, pOne_err (pFail_zero (by decide))]
theorem wPuts_size (M m : Int) : ∀ (l : List ByteArray) (p : ByteArray × Int), (∀ s ∈ l, s.size < 18446744073709551616) → (wPuts M m p l).1.size ≤ p.1.size + (l.map ByteArray.size).sum + 10 * l.length
  | [], p, _ => by simp [wPuts]
  | s :: l, p, h => by
    have h1 := wPuts_size M m l (wPut M m p s) (fun x hx => h x (by simp [hx]))
    have h2 := wPut_size M m p s (h s (by simp))
    show (wPuts M m (wPut M m p s) l).1.size ≤ _
    simp only [List.map_cons, List.sum_cons, List.length_cons]
    omega
/-- There is room: all together, or the pen's limit, is small. -/
def Room (M : Int) (t : ByteArray) (l : List ByteArray) : Prop := t.size + (l.map ByteArray.size).sum + 10 * l.length ≤ 140737488355000 ∨ M ≤ 140737488355000
set_option maxRecDepth 100000 in
set_option maxHeartbeats 2000000 in
theorem bput_any {w : World} {b r : Nat} {t : ByteArray} {M x : Int} (h : Pen w b r t M x) (m : Int) (hm : m ≤ 9223372036854775807) (ao : Option Addr) (cap : Nat) (l : List ByteArray) (hl : l.length ≤ maxLen) (hls : ∀ s ∈ l, s.size ≤ maxLen)
    (hc : ∀ k (hk : k < l.length), ∃ bb off, ao = some ⟨bb, off, none⟩ ∧ w.cell? ⟨bb, off + k, none⟩ = some (.string l[k]) ∧ bb ≠ b ∧ bb ≠ r) (hfit : Room M t l) :
    Calls Tryz.prog 62 #[pptr b, .int .i64 m, .slice ao l.length cap] w fun e w' => e = .returned (.tuple #[]) ∧ PenAfter w w' b r M (wPuts M m (t, x) l) := by
  have hl' : (l.length : Int) ≤ 9223372036854775807 := by unfold maxLen at hl; omega
  have hb := pMax_bd hm
  have HC : Hid (∀ k (hk : k < l.length), ∃ bb off, ao = some ⟨bb, off, none⟩ ∧ w.cell? ⟨bb, off + k, none⟩ = some (.string l[k]) ∧ bb ≠ b ∧ bb ≠ r) := hc
  have HS : Hid (∀ s ∈ l, s.size ≤ maxLen) := hls
  have HF : Hid (Room M t l) := hfit
  clear hc hls hfit
  go_enter Tryz.func62, Tryz.ntmps62
  go_wp2_with fail
  go_loopw [10] (fun i wr => ∃ (k r' : Nat) (t' : ByteArray) (x' : Int), k ≤ l.length ∧ i = .int .i64 k ∧ Pen wr b r' t' M x' ∧ wPuts M m (t, x) (l.take k) = (t', x') ∧ Keep (two b r) w wr ∧ (r' = r ∨ w.heap.size ≤ r')) (fun i _ => l.length - (intOf i).toNat)
  case atStart => exact ⟨0, r, t, x, by omega, rfl, h, rfl, Keep.refl _ _, .inl rfl⟩
  case round =>
    obtain ⟨k, r', t', x', hk, rfl, hp, hall, hkp, hr⟩ := hrel
    by_cases hlt : k < l.length
    · obtain ⟨bb, off, rfl, hcell0, hb1, hb2⟩ := HC.out k hlt
      have hcell : wr.cell? ⟨bb, off + k, none⟩ = some (.string l[k]) := hkp.cell hcell0 (by simp only [two]; omega)
      have hstep := wPuts_take M m (t, x) l k hlt
      rw [hall] at hstep
      have hsk := HS.out l[k] (List.getElem_mem hlt)
      have hsz := wPuts_size M m (l.take k) (t, x) (fun s hs => by have := HS.out s (List.mem_of_mem_take hs); unfold maxLen at this; omega)
      rw [hall] at hsz
      have hs1 := sum_take_succ l k hlt
      have hs2 := sum_take_le l (k + 1)
      have hlen : (l.take k).length = k := by rw [List.length_take]; omega
      rw [hlen] at hsz
      have hroom : (t'.size + 10 ≤ 140737488355328) ∧ ((t'.size : Int) + 10 + l[k].size ≤ 140737488355328 ∨ M ≤ 140737488355328) := by
        have hfit := hp.fit
        have := HF.out
        unfold Room at this
        simp only at hsz
        constructor
        · omega
        · omega
      have hse : wr.cell? ⟨bb, off + k, none⟩ = some (.string l[k]) := hcell
      generalize l[k] = s at *
      have hsi : (s.size : Int) ≤ 9223372036854775807 := by unfold maxLen at hsk; omega
      clear hcell hcell0 hs1 hs2 hsz hlen
      have hlt' : (k : Int) < l.length := by omega
      have HS2 : Hid (wPuts M m (t, x) (l.take (k + 1)) = pOne M (wCount M m (t', x') s.size) s) := hstep.trans (wPut_count M m (t', x') s)
      clear hstep hall
      have hos := wCount_size M m (t', x') s.size (by omega)
      simp only at hos
      go_wp2_with fail
      refine (pcount6_any m s.size hm hsi hp hroom.1).mono ?_
      rintro e w2 ⟨rfl, r2, hp2, k2, hr2⟩
      go_wp2_with fail
      refine (text_one hp2 s (by omega) _).mono ?_
      rintro e w3 ⟨rfl, hA⟩
      obtain ⟨r3, hp3, k3, hr3⟩ := PenAfter.trans hkp hr (PenAfter.trans k2 hr2 hA)
      clear hos hroom k2 hp2 hA
      go_wp2
      go_roundw
      case rel => exact ⟨k + 1, r3, _, _, by omega, by go_num, hp3, HS2.out, k3, hr3⟩
      case measure => simp [intOf]; omega
    · rw [List.take_of_length_le (by omega)] at hall
      have HE : Hid (wPuts M m (t, x) l = (t', x')) := hall
      clear hall
      go_wp2
      go_end0
      refine ⟨rfl, ?_⟩
      rw [HE.out]
      exact ⟨r', hp, hkp, hr⟩

end Go.Proofs.YtaleennijfefnaaGreat
