/-
  Contracts of the document's own pen (the statements' reference of layer 2), each proved over this seat's translation.
  Conditions: what is written takes at most the greatest length that a string may have.
-/
import Derived.Test.YtfbcifdliofmiaaPenWrite
namespace Go.Proofs.Ytfbcifdliofmiaa
open Go.RowKit

/-- The document's own pen at block b. -/
structure RPen (w : World) (b : Nat) (t : ByteArray) (m e : Int) : Prop where
  blk : ∃ ty, w.heap[b]? = some (.cells #[.string t, .int .i64 m, .int .i64 e] ty)
theorem RPen.lt {w : World} {b : Nat} {t : ByteArray} {m e : Int} (h : RPen w b t m e) : b < w.heap.size := by
  obtain ⟨ty, hk⟩ := h.blk
  exact (Array.getElem?_eq_some_iff.mp hk).1
theorem RPen.cells {w : World} {b : Nat} {t : ByteArray} {m e : Int} (h : RPen w b t m e) :
    w.cell? ⟨b, 0, none⟩ = some (.string t) ∧ w.cell? ⟨b, 1, none⟩ = some (.int .i64 m) ∧ w.cell? ⟨b, 2, none⟩ = some (.int .i64 e) ∧ w.frozen? ⟨b, 0, none⟩ = false ∧ w.frozen? ⟨b, 2, none⟩ = false := by
  obtain ⟨ty, hk⟩ := h.blk
  simp [World.cell?, World.frozen?, hk]
theorem RPen.keep {R : Nat → Prop} {w w' : World} {b : Nat} {t : ByteArray} {m e : Int} (h : RPen w b t m e) (k : Keep R w w') (hn : ¬ R b) : RPen w' b t m e := by
  obtain ⟨ty, hk⟩ := h.blk
  exact ⟨ty, by rw [k.block b h.lt hn]; exact hk⟩
theorem RPen.keep0 {w w' : World} {b : Nat} {t : ByteArray} {m e : Int} (h : RPen w b t m e) (k : Keep0 w w') : RPen w' b t m e := h.keep k (fun f => f)
theorem RPen.setErr {w : World} {b : Nat} {t : ByteArray} {m e : Int} (h : RPen w b t m e) (e' : Int) : RPen (w.setCell ⟨b, 2, none⟩ (.int .i64 e')) b t m e' := by
  obtain ⟨ty, hk⟩ := h.blk
  exact ⟨ty, by rw [heap_setCell_at hk]; rfl⟩
theorem RPen.setText {w : World} {b : Nat} {t : ByteArray} {m e : Int} (h : RPen w b t m e) (t' : ByteArray) : RPen (w.setCell ⟨b, 0, none⟩ (.string t')) b t' m e := by
  obtain ⟨ty, hk⟩ := h.blk
  exact ⟨ty, by rw [heap_setCell_at hk]; rfl⟩
theorem RPen.new (w : World) (m : Int) (ty : TypeId) : RPen (w.alloc (.cells #[.string ⟨#[]⟩, .int .i64 m, .int .i64 0] ty)) w.heap.size ⟨#[]⟩ m 0 := ⟨ty, (MapKept.heap_alloc w _).1⟩

theorem rpnew_any (w : World) (m : Int) : Calls Try.prog 17 #[.int .i64 m] w fun e w' => e = .returned (pptr w.heap.size) ∧ RPen w' w.heap.size ⟨#[]⟩ (pMax m) 0 ∧ Keep0 w w' := by
  unfold pMax
  by_cases h : m < 0
  · rw [if_pos h]
    go_enter Try.func17, Try.ntmps17
    go_wp2
    go_ret
    exact ⟨rfl, RPen.new w 0 _, (Keep.refl _ _).alloc _⟩
  · rw [if_neg h]
    go_enter Try.func17, Try.ntmps17
    go_wp2
    go_ret
    exact ⟨rfl, RPen.new w m _, (Keep.refl _ _).alloc _⟩

theorem rptext_err {w : World} {b : Nat} {t : ByteArray} {m x : Int} (s : ByteArray) (h : RPen w b t m x) (hx : x ≠ 0) : Calls Try.prog 43 #[pptr b, .string s] w fun e w' => e = .returned (.tuple #[]) ∧ w = w' := by
  obtain ⟨h0, h1, h2, h3, h4⟩ := h.cells
  have hx' : (x != 0) = true := by simpa using hx
  go_enter Try.func43, Try.ntmps43
  go_wp2
  refine bodyPost_ret (results_none rfl _ _ _) rfl ?_
  exact ⟨rfl, rfl⟩
theorem rptext_no {w : World} {b : Nat} {t : ByteArray} {m : Int} (s : ByteArray) (h : RPen w b t m 0) (hn : m < (t.size : Int) + s.size) (ht : t.size + s.size ≤ 4611686018427387904) : Calls Try.prog 43 #[pptr b, .string s] w fun e w' => e = .returned (.tuple #[]) ∧ RPen w' b t m 3 ∧ Keep1 b w w' := by
  obtain ⟨h0, h1, h2, h3, h4⟩ := h.cells
  go_enter Try.func43, Try.ntmps43
  go_wp2
  go_quiet (fail)
  go_wp2
  refine bodyPost_ret (results_none rfl _ _ _) rfl ?_
  exact ⟨rfl, (h.keep0 ((Keep.refl _ w).drewN nq)).setErr 3, ((Keep.refl _ w).drewN nq).set1 _ _⟩
theorem rptext_yes {w : World} {b : Nat} {t : ByteArray} {m : Int} (s : ByteArray) (h : RPen w b t m 0) (hn : (t.size : Int) + s.size ≤ m) (ht : t.size + s.size ≤ 4611686018427387904) : Calls Try.prog 43 #[pptr b, .string s] w fun e w' => e = .returned (.tuple #[]) ∧ RPen w' b (t ++ s) m 0 ∧ Keep1 b w w' := by
  obtain ⟨h0, h1, h2, h3, h4⟩ := h.cells
  have hd : decide (m < (t.size : Int) + s.size) = false := by simp; omega
  go_enter Try.func43, Try.ntmps43
  go_wp2
  go_quiet (fail)
  go_wp2
  go_end0
  exact ⟨rfl, (h.keep0 ((Keep.refl _ w).drewN nq)).setText _, ((Keep.refl _ w).drewN nq).set1 _ _⟩
theorem rptext_any {w : World} {b : Nat} {t : ByteArray} {m x : Int} (s : ByteArray) (h : RPen w b t m x) (ht : t.size + s.size ≤ 4611686018427387904) : Calls Try.prog 43 #[pptr b, .string s] w fun e w' => e = .returned (.tuple #[]) ∧ RPen w' b (pOne m (t, x) s).1 m (pOne m (t, x) s).2 ∧ Keep1 b w w' := by
  by_cases hx : x = 0
  · subst hx
    by_cases hf : (t.size : Int) + s.size ≤ m
    · rw [pOne_yes hf]
      exact rptext_yes s h hf ht
    · have hf' : m < (t.size : Int) + s.size := by omega
      rw [pOne_no hf]
      exact rptext_no s h hf' ht
  · rw [pOne_err hx]
    refine (rptext_err s h hx).mono ?_
    rintro e w' ⟨rfl, rfl⟩
    exact ⟨rfl, h, Keep.refl _ _⟩

theorem rpbyte_any {w : World} {b : Nat} {t : ByteArray} {m x : Int} (c : UInt8) (h : RPen w b t m x) (ht : t.size ≤ 4611686018427387903) : Calls Try.prog 47 #[pptr b, .int .u8 (c.toNat : Int)] w fun e w' => e = .returned (.tuple #[]) ∧ RPen w' b (pOne m (t, x) (one c)).1 m (pOne m (t, x) (one c)).2 ∧ Keep1 b w w' := by
  have kA := (Keep.refl (fun k => k = b) w).alloc (.cells #[.int .u8 (c.toNat : Int)] 5)
  have hA := h.keep0 ((Keep.refl (fun _ => False) w).alloc (.cells #[.int .u8 (c.toNat : Int)] 5))
  have hcv := run_convert_bytes_back (P := Try.prog) (w.alloc (.cells #[.int .u8 (c.toNat : Int)] 5)) 72 9 5 ⟨w.heap.size, 0, none⟩ 1 [c] Try.underlying72 Try.underlying5 Try.underlying9 (fun j hj => by
    obtain rfl : j = 0 := by simp at hj; omega
    rw [add_plain]
    exact cell_alloc w _ rfl)
  have hcv' : (convert 72 9 (.slice (some ⟨w.heap.size, 0, none⟩) 1 1)).run Try.prog (w.alloc (.cells #[.int .u8 (c.toNat : Int)] 5)) = .ok (.string (one c)) (w.alloc (.cells #[.int .u8 (c.toNat : Int)] 5)) := hcv
  clear hcv
  go_enter Try.func47, Try.ntmps47
  go_wp2_with (go_at_call 43; refine (rptext_any (one c) hA (by rw [one_size]; omega)).mono ?_; rintro e w1 ⟨rfl, h1, k1⟩)
  go_end0
  exact ⟨rfl, h1, kA.trans k1⟩

theorem rpfail_any {w : World} {b : Nat} {t : ByteArray} {m x : Int} (y : Int) (h : RPen w b t m x) : Calls Try.prog 41 #[pptr b, .int .i64 y] w fun e w' => e = .returned (.tuple #[]) ∧ RPen w' b t m (pFail x y) ∧ Keep1 b w w' := by
  obtain ⟨h0, h1, h2, h3, h4⟩ := h.cells
  unfold pFail
  by_cases hx : x = 0
  · subst hx
    rw [if_pos rfl]
    go_enter Try.func41, Try.ntmps41
    go_wp2
    go_end0
    exact ⟨rfl, h.setErr y, (Keep.refl _ _).set1 _ _⟩
  · rw [if_neg hx]
    have hx' : (x == 0) = false := by simpa using hx
    go_enter Try.func41, Try.ntmps41
    go_wp2
    go_end0
    exact ⟨rfl, h, Keep.refl _ _⟩

theorem rpend_any {w : World} {b : Nat} {t : ByteArray} {m x : Int} (h : RPen w b t m x) : Calls Try.prog 27 #[pptr b] w fun e w' => e = .returned (.tuple #[.string (pEnd t x), .int .i64 x]) ∧ ∃ n, w' = w.drewN n := by
  obtain ⟨h0, h1, h2, h3, h4⟩ := h.cells
  by_cases hx : x = 0
  · subst hx
    have e1 : pEnd t 0 = t := if_pos rfl
    rw [e1]
    go_enter Try.func27, Try.ntmps27
    go_wp2
    go_ret2
    exact ⟨rfl, 0, rfl⟩
  · have e1 : pEnd t x = ⟨#[]⟩ := if_neg hx
    have hx' : (x != 0) = true := by simpa using hx
    rw [e1]
    go_enter Try.func27, Try.ntmps27
    go_wp2
    go_quiet (fail)
    go_wp2
    go_ret2
    exact ⟨rfl, nq, rfl⟩
end Go.Proofs.Ytfbcifdliofmiaa
