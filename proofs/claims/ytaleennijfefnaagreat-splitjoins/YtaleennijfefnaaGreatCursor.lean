/-
  Contracts of package cursor's functions, each proved over this seat's translation: what a call answers and leaves, of a cursor whose place lies within its text, and of nil.
  Conditions: the text takes at most the greatest length that a string may have.
-/
import Derived.Test.YtaleennijfefnaaGreatBase
import Derived.Test.YtaleennijfefnaaGreatChecked
import Derived.OpenShut
import Derived.ShutString
import Derived.WalkSpells
import Derived.WalkLawsBesides
import Derived.Deep.QuietTactic
import Derived.BigQuiet
namespace Go.Proofs.YtaleennijfefnaaGreat
open Go.RowKit

/-- The pointer to block b. -/
abbrev ptr (b : Nat) : Value := .pointer (some ⟨b, 0, none⟩)

/-! ### nil -/
theorem err_nil (w : World) : Calls Tryz.prog 35 #[.pointer none] w fun e w' => e = .returned (.int .i64 1) ∧ w = w' := by
  go_enter Tryz.func35, Tryz.ntmps35
  go_wp2
  go_ret
  exact ⟨rfl, rfl⟩

theorem fail_nil (y : Int) (w : World) : Calls Tryz.prog 58 #[.pointer none, .int .i64 y] w fun e w' => e = .returned (.tuple #[]) ∧ w = w' := by
  go_enter Tryz.func58, Tryz.ntmps58
  go_wp2
  go_end0
  exact ⟨rfl, rfl⟩
theorem at_nil (w : World) : Calls Tryz.prog 36 #[.pointer none] w fun e w' => e = .returned (.int .i64 0) ∧ w = w' := by
  go_enter Tryz.func36, Tryz.ntmps36
  go_wp2
  go_ret
  exact ⟨rfl, rfl⟩
theorem left_nil (w : World) : Calls Tryz.prog 80 #[.pointer none] w fun e w' => e = .returned (.int .i64 0) ∧ w = w' := by
  go_enter Tryz.func80, Tryz.ntmps80
  go_wp2
  go_ret
  exact ⟨rfl, rfl⟩
theorem bytes_nil (n : Int) (w : World) : Calls Tryz.prog 72 #[.pointer none, .int .i64 n] w fun e w' => e = .returned (.string ⟨#[]⟩) ∧ w = w' := by
  go_enter Tryz.func72, Tryz.ntmps72
  go_wp2
  go_ret
  exact ⟨rfl, rfl⟩
theorem byte_nil (w : World) : Calls Tryz.prog 54 #[.pointer none] w fun e w' => e = .returned (.int .u8 0) ∧ w = w' := by
  go_enter Tryz.func54, Tryz.ntmps54
  go_wp2
  go_ret
  exact ⟨rfl, rfl⟩
theorem since_nil (n : Int) (w : World) : Calls Tryz.prog 56 #[.pointer none, .int .i64 n] w fun e w' => e = .returned (.string ⟨#[]⟩) ∧ w = w' := by
  go_enter Tryz.func56, Tryz.ntmps56
  go_wp2
  go_ret
  exact ⟨rfl, rfl⟩
theorem ahead_nil (n : Int) (w : World) : Calls Tryz.prog 90 #[.pointer none, .int .i64 n] w fun e w' => e = .returned (.string ⟨#[]⟩) ∧ w = w' := by
  go_enter Tryz.func90, Tryz.ntmps90
  go_wp2
  go_ret
  exact ⟨rfl, rfl⟩

/-! ### the plain readings -/
theorem err_any {w : World} {b : Nat} {s : ByteArray} {a x : Int} (h : Cur w b s a x) : Calls Tryz.prog 35 #[ptr b] w fun e w' => e = .returned (.int .i64 x) ∧ w = w' := by
  obtain ⟨h0, h1, h2, h3, h4⟩ := h.cells
  go_enter Tryz.func35, Tryz.ntmps35
  go_wp2
  go_ret
  exact ⟨rfl, rfl⟩

theorem at_any {w : World} {b : Nat} {s : ByteArray} {a x : Int} (h : Cur w b s a x) : Calls Tryz.prog 36 #[ptr b] w fun e w' => e = .returned (.int .i64 a) ∧ w = w' := by
  obtain ⟨h0, h1, h2, h3, h4⟩ := h.cells
  go_enter Tryz.func36, Tryz.ntmps36
  go_wp2
  go_ret
  exact ⟨rfl, rfl⟩

theorem left_any {w : World} {b : Nat} {s : ByteArray} {a x : Int} (h : Cur w b s a x) : Calls Tryz.prog 80 #[ptr b] w fun e w' => e = .returned (.int .i64 (s.size - a)) ∧ ∃ n, w' = w.drewN n := by
  obtain ⟨h0, h1, h2, h3, h4⟩ := h.cells
  have lo := h.lo
  have hi := h.hi
  have sz := h.sz
  unfold maxLen at sz
  go_enter Tryz.func80, Tryz.ntmps80
  go_wp2
  go_quiet (fail)
  go_wp2
  go_ret
  exact ⟨rfl, nq, rfl⟩

theorem fail_no {w : World} {b : Nat} {s : ByteArray} {a x : Int} (y : Int) (h : Cur w b s a x) (hx : x ≠ 0) : Calls Tryz.prog 58 #[ptr b, .int .i64 y] w fun e w' => e = .returned (.tuple #[]) ∧ w = w' := by
  obtain ⟨h0, h1, h2, h3, h4⟩ := h.cells
  have hx' : (x == 0) = false := by simpa using hx
  go_enter Tryz.func58, Tryz.ntmps58
  go_wp2
  go_end0
  exact ⟨rfl, rfl⟩

theorem fail_yes {w : World} {b : Nat} {s : ByteArray} {a : Int} (y : Int) (h : Cur w b s a 0) : Calls Tryz.prog 58 #[ptr b, .int .i64 y] w fun e w' => e = .returned (.tuple #[]) ∧ Cur w' b s a y ∧ Keep1 b w w' := by
  obtain ⟨h0, h1, h2, h3, h4⟩ := h.cells
  go_enter Tryz.func58, Tryz.ntmps58
  go_wp2
  go_end0
  exact ⟨rfl, h.setErr y, (Keep.refl _ _).set1 _ _⟩

/-- Whether a number is from 0 to what is left. -/
theorem upTo_left {w : World} {b : Nat} {s : ByteArray} {a x : Int} (n : Int) (h : Cur w b s a x) : Calls Tryz.prog 74 #[.int .i64 n, .func (.func 80) #[ptr b] #[]] w fun e w' => e = .returned (.bool (decide (0 ≤ n ∧ n ≤ s.size - a))) ∧ ∃ n, w' = w.drewN n := by
  by_cases hn : 0 ≤ n
  · have e1 : decide (0 ≤ n ∧ n ≤ s.size - a) = decide (n ≤ s.size - a) := by simp [hn]
    rw [e1]
    clear e1
    go_enter Tryz.func74, Tryz.ntmps74
    go_wp2_with (go_at_call 80; refine (left_any h).mono ?_; rintro e w' ⟨rfl, hw⟩)
    go_ret
    exact ⟨rfl, hw⟩
  · have e1 : decide (0 ≤ n ∧ n ≤ s.size - a) = false := by simp [hn]
    rw [e1]
    clear e1
    go_enter Tryz.func74, Tryz.ntmps74
    go_wp2
    go_ret
    exact ⟨rfl, 0, rfl⟩

/-- Whether a number is from 0 to the place. -/
theorem upTo_at {w : World} {b : Nat} {s : ByteArray} {a x : Int} (n : Int) (h : Cur w b s a x) : Calls Tryz.prog 74 #[.int .i64 n, .func (.func 36) #[ptr b] #[]] w fun e w' => e = .returned (.bool (decide (0 ≤ n ∧ n ≤ a))) ∧ w = w' := by
  by_cases hn : 0 ≤ n
  · have e1 : decide (0 ≤ n ∧ n ≤ a) = decide (n ≤ a) := by simp [hn]
    rw [e1]
    clear e1
    go_enter Tryz.func74, Tryz.ntmps74
    go_wp2_with (go_at_call 36; refine (at_any h).mono ?_; rintro e w' ⟨rfl, rfl⟩)
    go_ret
    exact ⟨rfl, rfl⟩
  · have e1 : decide (0 ≤ n ∧ n ≤ a) = false := by simp [hn]
    rw [e1]
    clear e1
    go_enter Tryz.func74, Tryz.ntmps74
    go_wp2
    go_ret
    exact ⟨rfl, rfl⟩
/-- A text's bytes from one place up to another one. -/
def cut (s : ByteArray) (i j : Int) : ByteArray := s.extract i.toNat j.toNat

theorem since_yes {w : World} {b : Nat} {s : ByteArray} {a x : Int} (n : Int) (h : Cur w b s a x) (hn0 : 0 ≤ n) (hn : n ≤ a) : Calls Tryz.prog 56 #[ptr b, .int .i64 n] w fun e w' => e = .returned (.string (cut s n a)) ∧ ∃ n, w' = w.drewN n := by
  obtain ⟨h0, h1, h2, h3, h4⟩ := h.cells
  have lo := h.lo
  have hi := h.hi
  have hd : decide (0 ≤ n ∧ n ≤ a) = true := by simp [hn0, hn]
  go_enter Tryz.func56, Tryz.ntmps56
  go_wp2_with (go_at_call 74; refine (upTo_at n h).mono ?_; rintro e w' ⟨rfl, rfl⟩; rw [hd])
  go_quiet (fail)
  go_wp2
  go_ret
  exact ⟨rfl, nq, rfl⟩

theorem since_no {w : World} {b : Nat} {s : ByteArray} {a x : Int} (n : Int) (h : Cur w b s a x) (hn : ¬ (0 ≤ n ∧ n ≤ a)) : Calls Tryz.prog 56 #[ptr b, .int .i64 n] w fun e w' => e = .returned (.string ⟨#[]⟩) ∧ w = w' := by
  have hd : decide (0 ≤ n ∧ n ≤ a) = false := by simpa using hn
  go_enter Tryz.func56, Tryz.ntmps56
  go_wp2_with (go_at_call 74; refine (upTo_at n h).mono ?_; rintro e w' ⟨rfl, rfl⟩; rw [hd])
  go_ret
  exact ⟨rfl, rfl⟩

theorem ahead_neg {w : World} {b : Nat} (n : Int) (hn : n < 0) : Calls Tryz.prog 90 #[ptr b, .int .i64 n] w fun e w' => e = .returned (.string ⟨#[]⟩) ∧ w = w' := by
  go_enter Tryz.func90, Tryz.ntmps90
  go_wp2
  go_ret
  exact ⟨rfl, rfl⟩

theorem ahead_all {w : World} {b : Nat} {s : ByteArray} {a x : Int} (n : Int) (h : Cur w b s a x) (hn0 : 0 ≤ n) (hn : s.size - a < n) : Calls Tryz.prog 90 #[ptr b, .int .i64 n] w fun e w' => e = .returned (.string (cut s a s.size)) ∧ ∃ n, w' = w.drewN n := by
  obtain ⟨h0, h1, h2, h3, h4⟩ := h.cells
  have lo := h.lo
  have hi := h.hi
  have hd : decide (0 ≤ n ∧ n ≤ s.size - a) = false := by simp; omega
  go_enter Tryz.func90, Tryz.ntmps90
  go_wp2_with (go_at_call 74; refine (upTo_left n h).mono ?_; rintro e w' ⟨rfl, m, rfl⟩; rw [hd])
  all_goals go_quiet (fail)
  all_goals go_wp2
  all_goals go_ret
  exact ⟨rfl, _, World.drewN_drewN _ _ _⟩

theorem ahead_some {w : World} {b : Nat} {s : ByteArray} {a x : Int} (n : Int) (h : Cur w b s a x) (hn0 : 0 ≤ n) (hn : n ≤ s.size - a) : Calls Tryz.prog 90 #[ptr b, .int .i64 n] w fun e w' => e = .returned (.string (cut s a (a + n))) ∧ ∃ n, w' = w.drewN n := by
  have lo := h.lo
  have hi := h.hi
  have sz := h.sz
  unfold maxLen at sz
  obtain ⟨h0, h1, h2, h3, h4⟩ := h.cells
  have hd : decide (0 ≤ n ∧ n ≤ s.size - a) = true := by simp; omega
  go_enter Tryz.func90, Tryz.ntmps90
  go_wp2_with (go_at_call 74; refine (upTo_left n h).mono ?_; rintro e w' ⟨rfl, m, rfl⟩; rw [hd])
  all_goals go_quiet (fail)
  all_goals go_wp2
  all_goals go_ret
  exact ⟨rfl, _, World.drewN_drewN _ _ _⟩

/-- What Bytes answers; the place then; the error then. -/
def cBytes (s : ByteArray) (a x n : Int) : ByteArray := if x = 0 ∧ 0 ≤ n ∧ n ≤ s.size - a then cut s a (a + n) else ⟨#[]⟩
def cAt (s : ByteArray) (a x n : Int) : Int := if x = 0 ∧ 0 ≤ n ∧ n ≤ s.size - a then a + n else a
def cErr (s : ByteArray) (a x n : Int) : Int := if x ≠ 0 then x else if n < 0 then 1 else if n ≤ s.size - a then 0 else 2

theorem bytes_err {w : World} {b : Nat} {s : ByteArray} {a x : Int} (n : Int) (h : Cur w b s a x) (hx : x ≠ 0) : Calls Tryz.prog 72 #[ptr b, .int .i64 n] w fun e w' => e = .returned (.string ⟨#[]⟩) ∧ w = w' := by
  have hx' : (x != 0) = true := by simpa using hx
  go_enter Tryz.func72, Tryz.ntmps72
  go_wp2_with (go_at_call 35; refine (err_any h).mono ?_; rintro e w' ⟨rfl, rfl⟩)
  go_ret
  exact ⟨rfl, rfl⟩

theorem bytes_neg {w : World} {b : Nat} {s : ByteArray} {a : Int} (n : Int) (h : Cur w b s a 0) (hn : n < 0) : Calls Tryz.prog 72 #[ptr b, .int .i64 n] w fun e w' => e = .returned (.string ⟨#[]⟩) ∧ Cur w' b s a 1 ∧ Keep1 b w w' := by
  go_enter Tryz.func72, Tryz.ntmps72
  go_wp2_with (first | (go_at_call 35; refine (err_any h).mono ?_; rintro e w' ⟨rfl, rfl⟩) | (go_at_call 58; refine (fail_yes 1 h).mono ?_; rintro e w1 ⟨rfl, hc, hk⟩))
  go_ret
  exact ⟨rfl, hc, hk⟩

theorem bytes_short {w : World} {b : Nat} {s : ByteArray} {a : Int} (n : Int) (h : Cur w b s a 0) (hn0 : 0 ≤ n) (hn : s.size - a < n) : Calls Tryz.prog 72 #[ptr b, .int .i64 n] w fun e w' => e = .returned (.string ⟨#[]⟩) ∧ Cur w' b s a 2 ∧ Keep1 b w w' := by
  have hd : decide (0 ≤ n ∧ n ≤ s.size - a) = false := by simp; omega
  go_enter Tryz.func72, Tryz.ntmps72
  go_wp2_with (first | (go_at_call 35; refine (err_any h).mono ?_; rintro e w' ⟨rfl, rfl⟩) | (go_at_call 74; refine (upTo_left n h).mono ?_; rintro e w' ⟨rfl, m, rfl⟩; rw [hd]; have hk0 := (Keep.refl (fun k => k = b) w).drewN m; have h' := h.keep0 ((Keep.refl _ w).drewN m)) | (go_at_call 58; refine (fail_yes 2 h').mono ?_; rintro e w1 ⟨rfl, hc, hk⟩))
  go_ret
  exact ⟨rfl, hc, hk0.trans hk⟩

theorem bytes_some {w : World} {b : Nat} {s : ByteArray} {a : Int} (n : Int) (h : Cur w b s a 0) (hn0 : 0 ≤ n) (hn : n ≤ s.size - a) : Calls Tryz.prog 72 #[ptr b, .int .i64 n] w fun e w' => e = .returned (.string (cut s a (a + n))) ∧ Cur w' b s (a + n) 0 ∧ Keep1 b w w' := by
  have hd : decide (0 ≤ n ∧ n ≤ s.size - a) = true := by simp; omega
  have lo := h.lo
  have hi := h.hi
  have sz := h.sz
  unfold maxLen at sz
  obtain ⟨h0, h1, h2, h3, h4⟩ := h.cells
  go_enter Tryz.func72, Tryz.ntmps72
  go_wp2_with (first | (go_at_call 35; refine (err_any h).mono ?_; rintro e w' ⟨rfl, rfl⟩) | (go_at_call 74; refine (upTo_left n h).mono ?_; rintro e w' ⟨rfl, m, rfl⟩; rw [hd]))
  refine (since_yes (x := 0) a ((h.keep0 ((Keep.refl _ w).drewN m)).setAt (a' := a + n) (by omega) (by omega)) (by omega) (by omega)).mono ?_
  rintro e w' ⟨rfl, m', rfl⟩
  go_wp2
  go_ret
  exact ⟨rfl, ((h.keep0 ((Keep.refl _ w).drewN m)).setAt (by omega) (by omega)).keep0 ((Keep.refl _ _).drewN m'), (((Keep.refl _ w).drewN m).set1 _ _).drewN m'⟩

theorem bytes_any {w : World} {b : Nat} {s : ByteArray} {a x : Int} (n : Int) (h : Cur w b s a x) : Calls Tryz.prog 72 #[ptr b, .int .i64 n] w fun e w' => e = .returned (.string (cBytes s a x n)) ∧ Cur w' b s (cAt s a x n) (cErr s a x n) ∧ Keep1 b w w' := by
  unfold cBytes cAt cErr
  by_cases hx : x = 0
  · subst hx
    by_cases hn : n < 0
    · rw [if_neg (by omega), if_neg (by omega), if_neg (by omega), if_pos hn]
      exact bytes_neg n h hn
    · by_cases hl : n ≤ s.size - a
      · rw [if_pos ⟨rfl, by omega, hl⟩, if_pos ⟨rfl, by omega, hl⟩, if_neg (by omega), if_neg hn, if_pos hl]
        exact bytes_some n h (by omega) hl
      · rw [if_neg (by omega), if_neg (by omega), if_neg (by omega), if_neg hn, if_neg hl]
        exact bytes_short n h (by omega) (by omega)
  · rw [if_neg (by omega), if_neg (by omega), if_pos hx]
    refine (bytes_err n h hx).mono ?_
    rintro e w' ⟨rfl, rfl⟩
    exact ⟨rfl, h, Keep.refl _ _⟩

/-- A text's byte at a place; 0 behind its end. -/
def byteAt (s : ByteArray) (i : Nat) : Nat := (s.data.toList.getD i 0).toNat
theorem byteAt_lt (s : ByteArray) (i : Nat) : byteAt s i < 256 := (s.data.toList.getD i 0).toNat_lt
theorem cut_one (s : ByteArray) (a : Int) (h0 : 0 ≤ a) (h : a < s.size) : ∃ c : UInt8, cut s a (a + 1) = ⟨#[c]⟩ ∧ byteAt s a.toNat = c.toNat := by
  obtain ⟨i, rfl⟩ := Int.eq_ofNat_of_zero_le h0
  have hi : i < s.data.size := by have : s.size = s.data.size := rfl; omega
  refine ⟨s.data[i], ?_, ?_⟩
  · unfold cut
    apply ByteArray.ext
    rw [ByteArray.data_extract]
    apply Array.ext
    · simp; omega
    · intro k h1 h2
      simp at h2
      subst h2
      simp
  · simp only [byteAt, Int.toNat_natCast, List.getD_eq_getElem?_getD, Array.getElem?_toList]
    rw [Array.getElem?_eq_getElem hi]
    rfl

/-- What Byte answers. -/
def cByte (s : ByteArray) (a x : Int) : Int := if x = 0 ∧ a < s.size then byteAt s a.toNat else 0

theorem byte_any {w : World} {b : Nat} {s : ByteArray} {a x : Int} (h : Cur w b s a x) : Calls Tryz.prog 54 #[ptr b] w fun e w' => e = .returned (.int .u8 (cByte s a x)) ∧ Cur w' b s (cAt s a x 1) (cErr s a x 1) ∧ Keep1 b w w' := by
  have hi := h.hi
  have lo := h.lo
  by_cases hn : x = 0 ∧ a < s.size
  · obtain ⟨c, hc1, hc2⟩ := cut_one s a lo hn.2
    have e1 : cBytes s a x 1 = ⟨#[c]⟩ := (if_pos (by omega)).trans hc1
    have e2 : cByte s a x = c.toNat := by rw [cByte, if_pos hn, hc2]
    rw [e2]
    clear hc1 hc2 e2 hn
    go_enter Tryz.func54, Tryz.ntmps54
    go_wp2_with (go_at_call 72; refine (bytes_any 1 h).mono ?_; rintro e w' ⟨rfl, hc, hk⟩; rw [e1])
    go_ret
    exact ⟨rfl, hc, hk⟩
  · have e1 : cBytes s a x 1 = ⟨#[]⟩ := if_neg (by omega)
    have e2 : cByte s a x = 0 := if_neg hn
    rw [e2]
    clear e2 hn
    go_enter Tryz.func54, Tryz.ntmps54
    go_wp2_with (go_at_call 72; refine (bytes_any 1 h).mono ?_; rintro e w' ⟨rfl, hc, hk⟩; rw [e1])
    go_ret
    exact ⟨rfl, hc, hk⟩

/-- The error that Fail leaves; the one that End leaves. -/
def cFail (x y : Int) : Int := if x = 0 then y else x
def cEnd (s : ByteArray) (a x : Int) : Int := if a < s.size then cFail x 8 else x

theorem fail_any {w : World} {b : Nat} {s : ByteArray} {a x : Int} (y : Int) (h : Cur w b s a x) : Calls Tryz.prog 58 #[ptr b, .int .i64 y] w fun e w' => e = .returned (.tuple #[]) ∧ Cur w' b s a (cFail x y) ∧ Keep1 b w w' := by
  unfold cFail
  by_cases hx : x = 0
  · subst hx
    exact fail_yes y h
  · rw [if_neg hx]
    refine (fail_no y h hx).mono ?_
    rintro e w' ⟨rfl, rfl⟩
    exact ⟨rfl, h, Keep.refl _ _⟩

theorem new_any (w : World) (s : ByteArray) (hs : s.size ≤ maxLen) : Calls Tryz.prog 33 #[.string s] w fun e w' => e = .returned (ptr w.heap.size) ∧ Cur w' w.heap.size s 0 0 ∧ Keep0 w w' := by
  go_enter Tryz.func33, Tryz.ntmps33
  go_wp2
  go_ret
  exact ⟨rfl, Cur.new w s _ hs, (Keep.refl _ _).alloc _⟩

/-- What Since, and Ahead, answer. -/
def cSince (s : ByteArray) (a n : Int) : ByteArray := if 0 ≤ n ∧ n ≤ a then cut s n a else ⟨#[]⟩
def cAhead (s : ByteArray) (a n : Int) : ByteArray := if n < 0 then ⟨#[]⟩ else if n ≤ s.size - a then cut s a (a + n) else cut s a s.size
theorem since_any {w : World} {b : Nat} {s : ByteArray} {a x : Int} (n : Int) (h : Cur w b s a x) : Calls Tryz.prog 56 #[ptr b, .int .i64 n] w fun e w' => e = .returned (.string (cSince s a n)) ∧ ∃ n, w' = w.drewN n := by
  unfold cSince
  by_cases hn : 0 ≤ n ∧ n ≤ a
  · rw [if_pos hn]
    exact since_yes n h hn.1 hn.2
  · rw [if_neg hn]
    refine (since_no n h hn).mono ?_
    rintro e w' ⟨rfl, rfl⟩
    exact ⟨rfl, 0, rfl⟩
theorem ahead_any {w : World} {b : Nat} {s : ByteArray} {a x : Int} (n : Int) (h : Cur w b s a x) : Calls Tryz.prog 90 #[ptr b, .int .i64 n] w fun e w' => e = .returned (.string (cAhead s a n)) ∧ ∃ n, w' = w.drewN n := by
  unfold cAhead
  by_cases hn : n < 0
  · rw [if_pos hn]
    refine (ahead_neg n hn).mono ?_
    rintro e w' ⟨rfl, rfl⟩
    exact ⟨rfl, 0, rfl⟩
  · rw [if_neg hn]
    by_cases hl : n ≤ s.size - a
    · rw [if_pos hl]
      exact ahead_some n h (by omega) hl
    · rw [if_neg hl]
      exact ahead_all n h (by omega) (by omega)
theorem cByte_bd (s : ByteArray) (a x : Int) : 0 ≤ cByte s a x ∧ cByte s a x ≤ 255 := by
  unfold cByte
  have := byteAt_lt s a.toNat
  split <;> omega

/-! ### the readings, for a region that only reads -/
theorem Calls.of_same {P : Program} {f : FuncId} {args : Array Value} {w : World} {n : Nat} {v : Value}
    (h : Calls P f args (w.drewN n) fun e w' => e = .returned v ∧ w.drewN n = w') : Calls P f args (w.drewN n) fun e w'' => e = .returned v ∧ ∃ m, w'' = w.drewN m :=
  h.mono fun _ _ ⟨he, hm⟩ => ⟨he, n, hm.symm⟩
theorem err_q {w : World} {n b : Nat} {s : ByteArray} {a x : Int} (h : Cur w b s a x) : Calls Tryz.prog 35 #[ptr b] (w.drewN n) fun e w' => e = .returned (.int .i64 x) ∧ ∃ m, w' = w.drewN m :=
  Calls.of_same (err_any (h.keep0 ((Keep.refl _ w).drewN n)))
theorem at_q {w : World} {n b : Nat} {s : ByteArray} {a x : Int} (h : Cur w b s a x) : Calls Tryz.prog 36 #[ptr b] (w.drewN n) fun e w' => e = .returned (.int .i64 a) ∧ ∃ m, w' = w.drewN m :=
  Calls.of_same (at_any (h.keep0 ((Keep.refl _ w).drewN n)))
theorem left_q {w : World} {n b : Nat} {s : ByteArray} {a x : Int} (h : Cur w b s a x) : Calls Tryz.prog 80 #[ptr b] (w.drewN n) fun e w' => e = .returned (.int .i64 (s.size - a)) ∧ ∃ m, w' = w.drewN m :=
  Calls.quiet_of (left_any (h.keep0 ((Keep.refl _ w).drewN n)))
theorem ahead_q {w : World} {n b : Nat} {s : ByteArray} {a x : Int} (y : Int) (h : Cur w b s a x) : Calls Tryz.prog 90 #[ptr b, .int .i64 y] (w.drewN n) fun e w' => e = .returned (.string (cAhead s a y)) ∧ ∃ m, w' = w.drewN m :=
  Calls.quiet_of (ahead_any y (h.keep0 ((Keep.refl _ w).drewN n)))
theorem since_q {w : World} {n b : Nat} {s : ByteArray} {a x : Int} (y : Int) (h : Cur w b s a x) : Calls Tryz.prog 56 #[ptr b, .int .i64 y] (w.drewN n) fun e w' => e = .returned (.string (cSince s a y)) ∧ ∃ m, w' = w.drewN m :=
  Calls.quiet_of (since_any y (h.keep0 ((Keep.refl _ w).drewN n)))
end Go.Proofs.YtaleennijfefnaaGreat
