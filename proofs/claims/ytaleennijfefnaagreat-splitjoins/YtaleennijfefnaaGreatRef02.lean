/-
  Contracts of the document's own pen (the statements' reference of layer 2), each proved over this seat's translation.
  Conditions: what is written takes at most the greatest length that a string may have.
-/
import Derived.Test.YtaleennijfefnaaGreatPenWrite
namespace Go.Proofs.YtaleennijfefnaaGreat
open Go.RowKit

/-- The document's own pen at block b. -/
structure RPen (w : World) (b : Nat) (t : ByteArray) (m e : Int) : Prop where
  blk : ∃ ty, w.heap[b]? = some (.cells #[.string t, .int .i64 m, .int .i64 e] ty)
theorem RPen.lt {w : World} {b : Nat} {t : ByteArray} {m e : Int} (h : RPen w b t m e) : b < w.heap.size := by
  obtain ⟨ty, hk⟩ := h.blk
  exact (Array.getElem?_eq_some_iff.mp hk).1
theorem RPen.cells {w : World} {b : Nat} {t : ByteArray} {m e : Int} (h : RPen w b t m e) :
    w.cell? ⟨b, 0, none⟩ = some (.string t) ∧ w.cell? ⟨b, 1, none⟩ = some (.int .i64 m) ∧ w.cell? ⟨b, 2, none⟩ = some (.int .i64 e) ∧ w.frozen? ⟨b, 0, none⟩ = false ∧ w.frozen? ⟨b, 2, none⟩ = false := by
  obtain ⟨ty, hk⟩ := h.blk
  simp [World.cell?, World.frozen?, hk]
theorem RPen.keep {R : Nat → Prop} {w w' : World} {b : Nat} {t : ByteArray} {m e : Int} (h : RPen w b t m e) (k : Keep R w w') (hn : ¬ R b) : RPen w' b t m e := by
  obtain ⟨ty, hk⟩ := h.blk
  exact ⟨ty, by rw [k.block b h.lt hn]; exact hk⟩
theorem RPen.keep0 {w w' : World} {b : Nat} {t : ByteArray} {m e : Int} (h : RPen w b t m e) (k : Keep0 w w') : RPen w' b t m e := h.keep k (fun f => f)
theorem RPen.setErr {w : World} {b : Nat} {t : ByteArray} {m e : Int} (h : RPen w b t m e) (e' : Int) : RPen (w.setCell ⟨b, 2, none⟩ (.int .i64 e')) b t m e' := by
  obtain ⟨ty, hk⟩ := h.blk
  exact ⟨ty, by rw [heap_setCell_at hk]; rfl⟩
theorem RPen.setText {w : World} {b : Nat} {t : ByteArray} {m e : Int} (h : RPen w b t m e) (t' : ByteArray) : RPen (w.setCell ⟨b, 0, none⟩ (.string t')) b t' m e := by
  obtain ⟨ty, hk⟩ := h.blk
  exact ⟨ty, by rw [heap_setCell_at hk]; rfl⟩
theorem RPen.new (w : World) (m : Int) (ty : TypeId) : RPen (w.alloc (.cells #[.string ⟨#[]⟩, .int .i64 m, .int .i64 0] ty)) w.heap.size ⟨#[]⟩ m 0 := ⟨ty, (MapKept.heap_alloc w _).1⟩

theorem rpnew_any (w : World) (m : Int) : Calls Tryz.prog 27 #[.int .i64 m] w fun e w' => e = .returned (pptr w.heap.size) ∧ RPen w' w.heap.size ⟨#[]⟩ (pMax m) 0 ∧ Keep0 w w' := by
  unfold pMax
  by_cases h : m < 0
  · rw [if_pos h]
    go_enter Tryz.func27, Tryz.ntmps27
    go_wp2
    go_ret
    exact ⟨rfl, RPen.new w 0 _, (Keep.refl _ _).alloc _⟩
  · rw [if_neg h]
    go_enter Tryz.func27, Tryz.ntmps27
    go_wp2
    go_ret
    exact ⟨rfl, RPen.new w m _, (Keep.refl _ _).alloc _⟩

theorem rptext_err {w : World} {b : Nat} {t : ByteArray} {m x : Int} (s : ByteArray) (h : RPen w b t m x) (hx : x ≠ 0) : Calls Tryz.prog 48 #[pptr b, .string s] w fun e w' => e = .returned (.tuple #[]) ∧ w = w' := by
  obtain ⟨h0, h1, h2, h3, h4⟩ := h.cells
  have hx' : (x != 0) = true := by simpa using hx
  go_enter Tryz.func48, Tryz.ntmps48
  go_wp2
  refine bodyPost_ret (results_none rfl _ _ _) rfl ?_
  exact ⟨rfl, rfl⟩
theorem rptext_no {w : World} {b : Nat} {t : ByteArray} {m : Int} (s : ByteArray) (h : RPen w b t m 0) (hn : m < (t.size : Int) + s.size) (ht : t.size + s.size ≤ 4611686018427387904) : Calls Tryz.prog 48 #[pptr b, .string s] w fun e w' => e = .returned (.tuple #[]) ∧ RPen w' b t m 3 ∧ Keep1 b w w' := by
  obtain ⟨h0, h1, h2, h3, h4⟩ := h.cells
  go_enter Tryz.func48, Tryz.ntmps48
  go_wp2
  go_quiet (fail)
  go_wp2
  refine bodyPost_ret (results_none rfl _ _ _) rfl ?_
  exact ⟨rfl, (h.keep0 ((Keep.refl _ w).drewN nq)).setErr 3, ((Keep.refl _ w).drewN nq).set1 _ _⟩
theorem rptext_yes {w : World} {b : Nat} {t : ByteArray} {m : Int} (s : ByteArray) (h : RPen w b t m 0) (hn : (t.size : Int) + s.size ≤ m) (ht : t.size + s.size ≤ 4611686018427387904) : Calls Tryz.prog 48 #[pptr b, .string s] w fun e w' => e = .returned (.tuple #[]) ∧ RPen w' b (t ++ s) m 0 ∧ Keep1 b w w' := by
  obtain ⟨h0, h1, h2, h3, h4⟩ := h.cells
  have hd : decide (m < (t.size : Int) + s.size) = false := by simp; omega
  go_enter Tryz.func48, Tryz.ntmps48
  go_wp2
  go_quiet (fail)
  go_wp2
  go_end0
  exact ⟨rfl, (h.keep0 ((Keep.refl _ w).drewN nq)).setText _, ((Keep.refl _ w).drewN nq).set1 _ _⟩
theorem rptext_any {w : World} {b : Nat} {t : ByteArray} {m x : Int} (s : ByteArray) (h : RPen w b t m x) (ht : t.size + s.size ≤ 4611686018427387904) : Calls Tryz.prog 48 #[pptr b, .string s] w fun e w' => e = .returned (.tuple #[]) ∧ RPen w' b (pOne m (t, x) s).1 m (pOne m (t, x) s).2 ∧ Keep1 b w w' := by
  by_cases hx : x = 0
  · subst hx
    by_cases hf : (t.size : Int) + s.size ≤ m
    · rw [pOne_yes hf]
      exact rptext_yes s h hf ht
    · have hf' : m < (t.size : Int) + s.size := by omega
      rw [pOne_no hf]
      exact rptext_no s h hf' ht
  · rw [pOne_err hx]
    refine (rptext_err s h hx).mono ?_
    rintro e w' ⟨rfl, rfl⟩
    exact ⟨rfl, h, Keep.refl _ _⟩

theorem rpfail_any {w : World} {b : Nat} {t : ByteArray} {m x : Int} (y : Int) (h : RPen w b t m x) : Calls Tryz.prog 46 #[pptr b, .int .i64 y] w fun e w' => e = .returned (.tuple #[]) ∧ RPen w' b t m (pFail x y) ∧ Keep1 b w w' := by
  obtain ⟨h0, h1, h2, h3, h4⟩ := h.cells
  unfold pFail
  by_cases hx : x = 0
  · subst hx
    rw [if_pos rfl]
    go_enter Tryz.func46, Tryz.ntmps46
    go_wp2
    go_end0
    exact ⟨rfl, h.setErr y, (Keep.refl _ _).set1 _ _⟩
  · rw [if_neg hx]
    have hx' : (x == 0) = false := by simpa using hx
    go_enter Tryz.func46, Tryz.ntmps46
    go_wp2
    go_end0
    exact ⟨rfl, h, Keep.refl _ _⟩

end Go.Proofs.YtaleennijfefnaaGreat
