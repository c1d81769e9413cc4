/-
  Contracts of package pen's functions, each proved over this seat's translation: what a call answers and leaves, of a pen in memory, and of nil.
  Conditions: what is written fits in half of the greatest memory, or the limit does.
-/
import Derived.Test.YtaleennijfefnaaGreatPenMem
import Derived.OpenShut
import Derived.ShutString
import Derived.WalkSpells
import Derived.WalkLawsBesides
import Derived.Deep.QuietTactic
import Derived.BigQuiet
namespace Go.Proofs.YtaleennijfefnaaGreat
open Go.RowKit
open Go.Lib (strCells strCells_length strCells_oneCell)

/-- The pointer to block b. -/
abbrev pptr (b : Nat) : Value := .pointer (some ⟨b, 0, none⟩)

/-! ### what writing comes to -/
def pOne (m : Int) (p : ByteArray × Int) (s : ByteArray) : ByteArray × Int := if p.2 = 0 then (if (p.1.size : Int) + s.size ≤ m then (p.1 ++ s, 0) else (p.1, 3)) else p
def pAll (m : Int) (p : ByteArray × Int) (l : List ByteArray) : ByteArray × Int := l.foldl (pOne m) p
theorem pOne_err {m : Int} {t s : ByteArray} {x : Int} (h : x ≠ 0) : pOne m (t, x) s = (t, x) := if_neg h
theorem pOne_yes {m : Int} {t s : ByteArray} (h : (t.size : Int) + s.size ≤ m) : pOne m (t, 0) s = (t ++ s, 0) := by unfold pOne; rw [if_pos rfl, if_pos h]
theorem pOne_no {m : Int} {t s : ByteArray} (h : ¬ (t.size : Int) + s.size ≤ m) : pOne m (t, 0) s = (t, 3) := by unfold pOne; rw [if_pos rfl, if_neg h]
theorem pAll_err {m : Int} {t : ByteArray} {x : Int} (h : x ≠ 0) : ∀ l, pAll m (t, x) l = (t, x)
  | [] => rfl
  | s :: l => by
    show pAll m (pOne m (t, x) s) l = _
    rw [pOne_err h]
    exact pAll_err h l
theorem pAll_append (m : Int) (p : ByteArray × Int) (l l' : List ByteArray) : pAll m p (l ++ l') = pAll m (pAll m p l) l' := List.foldl_append
theorem pAll_take (m : Int) (p : ByteArray × Int) (l : List ByteArray) (k : Nat) (h : k < l.length) : pAll m p (l.take (k + 1)) = pOne m (pAll m p (l.take k)) l[k] := by
  rw [List.take_succ_eq_append_getElem h, pAll_append]
  rfl
/-- Where an error has come at k, it stays. -/
theorem pAll_stop {m : Int} {p : ByteArray × Int} {l : List ByteArray} {k : Nat} {t : ByteArray} {x : Int} (h : pAll m p (l.take k) = (t, x)) (hx : x ≠ 0) : pAll m p l = (t, x) := by
  have e : l = l.take k ++ l.drop k := (List.take_append_drop k l).symm
  rw [e, pAll_append, h, pAll_err hx]

/-! ### nil -/
theorem perr_nil (w : World) : Calls Tryz.prog 69 #[.pointer none] w fun e w' => e = .returned (.int .i64 1) ∧ w = w' := by
  go_enter Tryz.func69, Tryz.ntmps69
  go_wp2
  go_ret
  exact ⟨rfl, rfl⟩
theorem plen_nil (w : World) : Calls Tryz.prog 79 #[.pointer none] w fun e w' => e = .returned (.int .i64 0) ∧ w = w' := by
  go_enter Tryz.func79, Tryz.ntmps79
  go_wp2
  go_ret
  exact ⟨rfl, rfl⟩
theorem pfail_nil (y : Int) (w : World) : Calls Tryz.prog 60 #[.pointer none, .int .i64 y] w fun e w' => e = .returned (.tuple #[]) ∧ w = w' := by
  go_enter Tryz.func60, Tryz.ntmps60
  go_wp2
  go_end0
  exact ⟨rfl, rfl⟩
theorem pend_nil (w : World) : Calls Tryz.prog 43 #[.pointer none] w fun e w' => e = .returned (.tuple #[.string ⟨#[]⟩, .int .i64 1]) ∧ w = w' := by
  go_enter Tryz.func43, Tryz.ntmps43
  go_wp2_with (go_at_call 69; refine (perr_nil w).mono ?_; rintro e w' ⟨rfl, rfl⟩)
  go_ret2
  exact ⟨rfl, rfl⟩
theorem Calls.of_same' {P : Program} {f : FuncId} {args : Array Value} {w : World} {n : Nat} {v : Value}
    (h : Calls P f args (w.drewN n) fun e w' => e = .returned v ∧ w.drewN n = w') : Calls P f args (w.drewN n) fun e w'' => e = .returned v ∧ ∃ m, w'' = w.drewN m :=
  h.mono fun _ _ ⟨he, hm⟩ => ⟨he, n, hm.symm⟩
theorem takes_nil (n : Int) (w : World) : Calls Tryz.prog 68 #[.pointer none, .int .i64 n] w fun e w' => e = .returned (.bool false) ∧ ∃ n, w' = w.drewN n := by
  go_enter Tryz.func68, Tryz.ntmps68
  go_wp2_with fail
  go_quiet ((go_at_call 69; exact Calls.of_same' (perr_nil _)))
  go_wp2_with (go_at_call 69; refine (perr_nil _).mono ?_; rintro e w' ⟨rfl, rfl⟩)
  go_ret
  exact ⟨rfl, nq, rfl⟩
theorem pbyte_nil (ao : Option Addr) (len cap : Nat) (w : World) (v : Nat → Int) (hc : ∀ i, i < len → ∃ b off, ao = some ⟨b, off, none⟩ ∧ w.cell? ⟨b, off + i, none⟩ = some (.int .u8 (v i))) :
    Calls Tryz.prog 61 #[.pointer none, .slice ao len cap] w fun e w' => e = .returned (.tuple #[]) ∧ ∃ n, w' = w.drewN n := by
  by_cases h0 : 0 < len
  · obtain ⟨b, off, rfl, hb⟩ := hc 0 h0
    have hb' : w.cell? ⟨b, off, none⟩ = some (.int .u8 (v 0)) := hb
    clear hb
    go_enter Tryz.func61, Tryz.ntmps61
    go_wp2_with fail
    refine wp_loop_rounds 1 ?_
    rw [rounds_succ]
    go_wp2_with (go_at_call 68; refine (takes_nil _ _).mono ?_; rintro e w' ⟨rfl, hw⟩)
    refine bodyPost_ret (results_none rfl _ _ _) rfl ?_
    exact ⟨rfl, hw⟩
  · obtain rfl : len = 0 := by omega
    go_enter Tryz.func61, Tryz.ntmps61
    go_wp2_with fail
    refine wp_loop_rounds 1 ?_
    rw [rounds_succ]
    go_wp2_with fail
    go_end0
    exact ⟨rfl, 0, rfl⟩
theorem ptext_nil (ao : Option Addr) (len cap : Nat) (w : World) (v : Nat → ByteArray) (hc : ∀ i, i < len → ∃ b off, ao = some ⟨b, off, none⟩ ∧ w.cell? ⟨b, off + i, none⟩ = some (.string (v i))) :
    Calls Tryz.prog 42 #[.pointer none, .slice ao len cap] w fun e w' => e = .returned (.tuple #[]) ∧ ∃ n, w' = w.drewN n := by
  by_cases h0 : 0 < len
  · obtain ⟨b, off, rfl, hb⟩ := hc 0 h0
    have hb' : w.cell? ⟨b, off, none⟩ = some (.string (v 0)) := hb
    clear hb
    go_enter Tryz.func42, Tryz.ntmps42
    go_wp2_with fail
    refine wp_loop_rounds 1 ?_
    rw [rounds_succ]
    go_wp2_with (go_at_call 68; refine (takes_nil _ _).mono ?_; rintro e w' ⟨rfl, hw⟩)
    refine bodyPost_ret (results_none rfl _ _ _) rfl ?_
    exact ⟨rfl, hw⟩
  · obtain rfl : len = 0 := by omega
    go_enter Tryz.func42, Tryz.ntmps42
    go_wp2_with fail
    refine wp_loop_rounds 1 ?_
    rw [rounds_succ]
    go_wp2_with fail
    go_end0
    exact ⟨rfl, 0, rfl⟩

/-! ### the plain readings -/
theorem perr_any {w : World} {b r : Nat} {t : ByteArray} {m x : Int} (h : Pen w b r t m x) : Calls Tryz.prog 69 #[pptr b] w fun e w' => e = .returned (.int .i64 x) ∧ w = w' := by
  obtain ⟨ao, cap, h0, h1, h2, h3, h4, _, _⟩ := h.cells
  go_enter Tryz.func69, Tryz.ntmps69
  go_wp2
  go_ret
  exact ⟨rfl, rfl⟩
theorem plen_any {w : World} {b r : Nat} {t : ByteArray} {m x : Int} (h : Pen w b r t m x) : Calls Tryz.prog 79 #[pptr b] w fun e w' => e = .returned (.int .i64 t.size) ∧ w = w' := by
  obtain ⟨ao, cap, h0, h1, h2, h3, h4, _, _⟩ := h.cells
  go_enter Tryz.func79, Tryz.ntmps79
  go_wp2
  go_ret
  exact ⟨rfl, rfl⟩
theorem perr_q {w : World} {n b r : Nat} {t : ByteArray} {m x : Int} (h : Pen w b r t m x) : Calls Tryz.prog 69 #[pptr b] (w.drewN n) fun e w' => e = .returned (.int .i64 x) ∧ ∃ m, w' = w.drewN m :=
  Calls.of_same' (perr_any (h.keep0 ((Keep.refl _ w).drewN n)))
theorem plen_q {w : World} {n b r : Nat} {t : ByteArray} {m x : Int} (h : Pen w b r t m x) : Calls Tryz.prog 79 #[pptr b] (w.drewN n) fun e w' => e = .returned (.int .i64 t.size) ∧ ∃ m, w' = w.drewN m :=
  Calls.of_same' (plen_any (h.keep0 ((Keep.refl _ w).drewN n)))

theorem pfail_no {w : World} {b r : Nat} {t : ByteArray} {m x : Int} (y : Int) (h : Pen w b r t m x) (hx : x ≠ 0) : Calls Tryz.prog 60 #[pptr b, .int .i64 y] w fun e w' => e = .returned (.tuple #[]) ∧ w = w' := by
  obtain ⟨ao, cap, h0, h1, h2, h3, h4, _, _⟩ := h.cells
  have hx' : (x == 0) = false := by simpa using hx
  go_enter Tryz.func60, Tryz.ntmps60
  go_wp2
  go_end0
  exact ⟨rfl, rfl⟩
theorem pfail_yes {w : World} {b r : Nat} {t : ByteArray} {m : Int} (y : Int) (h : Pen w b r t m 0) : Calls Tryz.prog 60 #[pptr b, .int .i64 y] w fun e w' => e = .returned (.tuple #[]) ∧ Pen w' b r t m y ∧ Keep1 b w w' := by
  obtain ⟨ao, cap, h0, h1, h2, h3, h4, _, _⟩ := h.cells
  go_enter Tryz.func60, Tryz.ntmps60
  go_wp2
  go_end0
  exact ⟨rfl, h.setErr y, (Keep.refl _ _).set1 _ _⟩
/-- The error that Fail leaves. -/
def pFail (x y : Int) : Int := if x = 0 then y else x
theorem pfail_any {w : World} {b r : Nat} {t : ByteArray} {m x : Int} (y : Int) (h : Pen w b r t m x) : Calls Tryz.prog 60 #[pptr b, .int .i64 y] w fun e w' => e = .returned (.tuple #[]) ∧ Pen w' b r t m (pFail x y) ∧ Keep1 b w w' := by
  unfold pFail
  by_cases hx : x = 0
  · subst hx
    exact pfail_yes y h
  · rw [if_neg hx]
    refine (pfail_no y h hx).mono ?_
    rintro e w' ⟨rfl, rfl⟩
    exact ⟨rfl, h, Keep.refl _ _⟩

/-- What End answers. -/
def pEnd (t : ByteArray) (x : Int) : ByteArray := if x = 0 then t else ⟨#[]⟩
theorem pend_any {w : World} {b r : Nat} {t : ByteArray} {m x : Int} (h : Pen w b r t m x) : Calls Tryz.prog 43 #[pptr b] w fun e w' => e = .returned (.tuple #[.string (pEnd t x), .int .i64 x]) ∧ w = w' := by
  obtain ⟨ao, cap, h0, h1, h2, h3, h4, ho, _⟩ := h.cells
  by_cases hx : x = 0
  · subst hx
    have e1 : pEnd t 0 = t := if_pos rfl
    rw [e1]
    have hcv := run_text (P := Tryz.prog) 58 9 Tryz.underlying58 Tryz.underlying5 Tryz.underlying9 ho
    clear ho e1
    go_enter Tryz.func43, Tryz.ntmps43
    go_wp2_with (go_at_call 69; refine (perr_any h).mono ?_; rintro e w' ⟨rfl, rfl⟩)
    go_ret2
    exact ⟨rfl, rfl⟩
  · have e1 : pEnd t x = ⟨#[]⟩ := if_neg hx
    have hx' : (x != 0) = true := by simpa using hx
    rw [e1]
    clear ho e1
    go_enter Tryz.func43, Tryz.ntmps43
    go_wp2_with (go_at_call 69; refine (perr_any h).mono ?_; rintro e w' ⟨rfl, rfl⟩)
    go_ret2
    exact ⟨rfl, rfl⟩

/-- The limit that New lays. -/
def pMax (m : Int) : Int := if m < 0 then 0 else m
theorem pnew_any (w : World) (m : Int) (hm : m ≤ 9223372036854775807) : Calls Tryz.prog 40 #[.int .i64 m] w fun e w' => e = .returned (pptr w.heap.size) ∧ Pen w' w.heap.size w.heap.size ⟨#[]⟩ (pMax m) 0 ∧ Keep0 w w' := by
  unfold pMax
  by_cases h : m < 0
  · rw [if_pos h]
    go_enter Tryz.func40, Tryz.ntmps40
    go_wp2
    go_ret
    exact ⟨rfl, Pen.new w 0 _ (Int.le_refl _) (by omega), (Keep.refl _ _).alloc _⟩
  · rw [if_neg h]
    go_enter Tryz.func40, Tryz.ntmps40
    go_wp2
    go_ret
    exact ⟨rfl, Pen.new w m _ (by omega) hm, (Keep.refl _ _).alloc _⟩

/-! ### whether there is room -/
theorem takes_err {w : World} {b r : Nat} {t : ByteArray} {m x : Int} (n : Int) (h : Pen w b r t m x) (hx : x ≠ 0) : Calls Tryz.prog 68 #[pptr b, .int .i64 n] w fun e w' => e = .returned (.bool false) ∧ ∃ n, w' = w.drewN n := by
  have hx' : (x == 0) = false := by simpa using hx
  go_enter Tryz.func68, Tryz.ntmps68
  go_wp2_with fail
  go_quiet ((go_at_call 69; exact perr_q h))
  go_wp2_with (go_at_call 69; refine (perr_any (h.keep0 ((Keep.refl _ w).drewN nq))).mono ?_; rintro e w' ⟨rfl, rfl⟩)
  go_ret
  exact ⟨rfl, nq, rfl⟩
theorem takes_yes {w : World} {b r : Nat} {t : ByteArray} {m : Int} (n : Int) (h : Pen w b r t m 0) (hn : n ≤ m - t.size) : Calls Tryz.prog 68 #[pptr b, .int .i64 n] w fun e w' => e = .returned (.bool true) ∧ ∃ n, w' = w.drewN n := by
  have lo := h.lo
  have fit := h.fit
  have mx := h.mx
  obtain ⟨ao, cap, h0, h1, h2, h3, h4, ho, _⟩ := h.cells
  clear ho
  have hd : decide (m - t.size < n) = false := by simp; omega
  go_enter Tryz.func68, Tryz.ntmps68
  go_wp2_with fail
  go_quiet ((first | (go_at_call 69; exact perr_q h) | (go_at_call 79; exact plen_q h)))
  go_wp2_with (go_at_call 69; refine (perr_any (h.keep0 ((Keep.refl _ w).drewN nq))).mono ?_; rintro e w' ⟨rfl, rfl⟩)
  go_ret
  exact ⟨rfl, nq, rfl⟩
theorem takes_no {w : World} {b r : Nat} {t : ByteArray} {m : Int} (n : Int) (h : Pen w b r t m 0) (hn : m - t.size < n) : Calls Tryz.prog 68 #[pptr b, .int .i64 n] w fun e w' => e = .returned (.bool false) ∧ Pen w' b r t m 3 ∧ Keep1 b w w' := by
  have lo := h.lo
  have fit := h.fit
  have mx := h.mx
  obtain ⟨ao, cap, h0, h1, h2, h3, h4, ho, _⟩ := h.cells
  clear ho
  go_enter Tryz.func68, Tryz.ntmps68
  go_wp2_with fail
  go_quiet ((first | (go_at_call 69; exact perr_q h) | (go_at_call 79; exact plen_q h)))
  go_wp2_with (first | (go_at_call 60; refine (pfail_yes 3 (h.keep0 ((Keep.refl _ w).drewN nq))).mono ?_; rintro e w1 ⟨rfl, hp, hk⟩) | (go_at_call 69; refine (perr_any hp).mono ?_; rintro e w' ⟨rfl, rfl⟩))
  go_ret
  exact ⟨rfl, hp, ((Keep.refl _ w).drewN nq).trans hk⟩
end Go.Proofs.YtaleennijfefnaaGreat
