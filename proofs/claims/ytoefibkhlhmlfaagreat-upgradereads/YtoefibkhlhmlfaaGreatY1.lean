/-
  What this seat's claims lean on of the texts L1.
  Conditions: as each theorem states.
-/
import Derived.WalkKit
import Derived.ProofKit
import Derived.Below
import Derived.Deep.Draws
import Derived.Deep.RegionHeld
import Derived.Test.YtoefibkhlhmlfaaGreatChecked
import Derived.OpenShut
import Derived.ShutString
import Derived.WalkSpells
import Derived.WalkLawsBesides
import Derived.Deep.QuietTactic
import Derived.BigQuiet
namespace Go.Proofs.YtoefibkhlhmlfaaGreat
open Go.RowKit
structure Keep (R : Nat → Prop) (w w' : World) : Prop where
  os : w'.os = w.os
  tape : w'.tape = w.tape
  output : w'.output = w.output
  size : w.heap.size ≤ w'.heap.size
  block : ∀ k, k < w.heap.size → ¬ R k → w'.heap[k]? = w.heap[k]?
abbrev Keep0 (w w' : World) : Prop := Keep (fun _ => False) w w'
abbrev Keep1 (b : Nat) (w w' : World) : Prop := Keep (fun k => k = b) w w'
abbrev KeepFrom (B : Nat) (w w' : World) : Prop := Keep (fun k => B ≤ k) w w'
theorem Keep.refl (R : Nat → Prop) (w : World) : Keep R w w := ⟨rfl, rfl, rfl, Nat.le_refl _, fun _ _ _ => rfl⟩
theorem Keep.trans {R : Nat → Prop} {a b c : World} (h : Keep R a b) (k : Keep R b c) : Keep R a c :=
  ⟨k.os.trans h.os, k.tape.trans h.tape, k.output.trans h.output, Nat.le_trans h.size k.size, fun i hi hr => (k.block i (Nat.lt_of_lt_of_le hi h.size) hr).trans (h.block i hi hr)⟩
theorem Keep.mono {R S : Nat → Prop} {w w' : World} (h : Keep R w w') (hrs : ∀ k, k < w.heap.size → R k → S k) : Keep S w w' :=
  ⟨h.os, h.tape, h.output, h.size, fun k hk hn => h.block k hk (fun r => hn (hrs k hk r))⟩
theorem Keep.step {R S : Nat → Prop} {a b c : World} (h : Keep R a b) (k : Keep S b c) (hs : ∀ i, i < a.heap.size → S i → R i) : Keep R a c :=
  ⟨k.os.trans h.os, k.tape.trans h.tape, k.output.trans h.output, Nat.le_trans h.size k.size, fun i hi hr => (k.block i (Nat.lt_of_lt_of_le hi h.size) (fun s => hr (hs i hi s))).trans (h.block i hi hr)⟩
theorem Keep.step1 {R : Nat → Prop} {n : Nat} {a b c : World} (h : Keep R a b) (k : Keep1 n b c) (hn : a.heap.size ≤ n) : Keep R a c := h.step k (fun i hi e => by omega)
theorem Keep.step0 {R : Nat → Prop} {a b c : World} (h : Keep R a b) (k : Keep0 b c) : Keep R a c := h.step k (fun _ _ e => e.elim)
theorem Keep.any {R : Nat → Prop} {w w' : World} (h : Keep0 w w') : Keep R w w' := h.mono (fun _ _ f => f.elim)
theorem Keep.drew {R : Nat → Prop} {a w : World} (h : Keep R a w) : Keep R a w.drew := ⟨h.os, h.tape, h.output, h.size, h.block⟩
theorem Keep.drewN {R : Nat → Prop} {a w : World} (h : Keep R a w) (n : Nat) : Keep R a (w.drewN n) := ⟨h.os, h.tape, h.output, h.size, h.block⟩
theorem keepN {w w' : World} (h : ∃ n, w' = w.drewN n) : Keep0 w w' := by obtain ⟨n, rfl⟩ := h; exact (Keep.refl _ _).drewN n
theorem Keep.alloc {R : Nat → Prop} {a w : World} (h : Keep R a w) (o : Obj) : Keep R a (w.alloc o) :=
  h.trans ⟨rfl, rfl, rfl, by simp, fun k hk _ => Below.heap_alloc _ _ _ hk⟩
theorem Keep.setCell {R : Nat → Prop} {a w : World} (h : Keep R a w) {p : Addr} (hp : p.block < w.heap.size → R p.block) (u : Value) : Keep R a (w.setCell p u) :=
  h.trans ⟨rfl, rfl, rfl, by simp [World.setCell], fun k hk hn => Below.heap_setCell _ _ _ _ (fun e => hn (e ▸ hp (e ▸ hk)))⟩
theorem Keep.set1 {b : Nat} {a w : World} (h : Keep1 b a w) (o : Nat) (u : Value) : Keep1 b a (w.setCell ⟨b, o, none⟩ u) := h.setCell (fun _ => rfl) u
theorem Keep.below {B : Nat} {w w' : World} (h : KeepFrom B w w') (hB : B ≤ w.heap.size) : Below B w w' :=
  ⟨h.os, h.tape, h.output, h.size, fun k hk => h.block k (by omega) (by simp; omega)⟩
theorem Keep.cell {R : Nat → Prop} {w w' : World} (h : Keep R w w') {p : Addr} {v : Value} (hc : w.cell? p = some v) (hn : ¬ R p.block) : w'.cell? p = some v :=
  (World.cell?_of_block (h.block p.block (World.block_lt_of_cell? w p hc) hn)).trans hc
theorem add_plain (b off n : Nat) : (⟨b, off, none⟩ : Addr).add n = ⟨b, off + n, none⟩ := by
  unfold Addr.add
  split
  · simp_all
  · rfl
theorem cell_alloc (w : World) {c : Array Value} (t : TypeId) {i : Nat} {v : Value} (h : c[i]? = some v) : (w.alloc (.cells c t)).cell? ⟨w.heap.size, i, none⟩ = some v := by
  have e := (MapKept.heap_alloc w (.cells c t)).1
  unfold World.cell?
  rw [e]
  exact h
theorem wrap64_byte (c : UInt8) : wrap64 (c.toNat : Int) = c.toNat := by have := c.toNat_lt; unfold wrap64; omega
structure Cur (w : World) (b : Nat) (s : ByteArray) (a e : Int) : Prop where
  blk : ∃ t, w.heap[b]? = some (.cells #[.string s, .int .i64 a, .int .i64 e] t)
  lo : 0 ≤ a
  hi : a ≤ s.size
  sz : s.size ≤ maxLen
theorem Cur.lt {w : World} {b : Nat} {s : ByteArray} {a e : Int} (h : Cur w b s a e) : b < w.heap.size := by
  obtain ⟨t, ht⟩ := h.blk
  exact (Array.getElem?_eq_some_iff.mp ht).1
theorem Cur.cells {w : World} {b : Nat} {s : ByteArray} {a e : Int} (h : Cur w b s a e) :
    w.cell? ⟨b, 0, none⟩ = some (.string s) ∧ w.cell? ⟨b, 1, none⟩ = some (.int .i64 a) ∧ w.cell? ⟨b, 2, none⟩ = some (.int .i64 e) ∧ w.frozen? ⟨b, 1, none⟩ = false ∧ w.frozen? ⟨b, 2, none⟩ = false := by
  obtain ⟨t, ht⟩ := h.blk
  simp [World.cell?, World.frozen?, ht]
theorem Cur.keep {R : Nat → Prop} {w w' : World} {b : Nat} {s : ByteArray} {a e : Int} (h : Cur w b s a e) (k : Keep R w w') (hn : ¬ R b) : Cur w' b s a e := by
  refine ⟨?_, h.lo, h.hi, h.sz⟩
  obtain ⟨t, ht⟩ := h.blk
  exact ⟨t, by rw [k.block b h.lt hn]; exact ht⟩
theorem Cur.keep0 {w w' : World} {b : Nat} {s : ByteArray} {a e : Int} (h : Cur w b s a e) (k : Keep0 w w') : Cur w' b s a e := h.keep k (fun f => f)
theorem heap_setCell_at {w : World} {b o : Nat} {c : Array Value} {t : TypeId} {f : Nat × Nat} (h : w.heap[b]? = some (.cells c t f)) (u : Value) :
    (w.setCell ⟨b, o, none⟩ u).heap[b]? = some (.cells (c.setIfInBounds o u) t f) := by
  simp [World.setCell, Array.getElem?_modify, h]
theorem Cur.setAt {w : World} {b : Nat} {s : ByteArray} {a e : Int} (h : Cur w b s a e) {a' : Int} (h0 : 0 ≤ a') (h1 : a' ≤ s.size) : Cur (w.setCell ⟨b, 1, none⟩ (.int .i64 a')) b s a' e := by
  refine ⟨?_, h0, h1, h.sz⟩
  obtain ⟨t, ht⟩ := h.blk
  exact ⟨t, by rw [heap_setCell_at ht]; rfl⟩
theorem Cur.setErr {w : World} {b : Nat} {s : ByteArray} {a e : Int} (h : Cur w b s a e) (e' : Int) : Cur (w.setCell ⟨b, 2, none⟩ (.int .i64 e')) b s a e' := by
  refine ⟨?_, h.lo, h.hi, h.sz⟩
  obtain ⟨t, ht⟩ := h.blk
  exact ⟨t, by rw [heap_setCell_at ht]; rfl⟩
theorem Cur.new (w : World) (s : ByteArray) (t : TypeId) (hs : s.size ≤ maxLen) : Cur (w.alloc (.cells #[.string s, .int .i64 0, .int .i64 0] t)) w.heap.size s 0 0 :=
  ⟨⟨t, (MapKept.heap_alloc w _).1⟩, Int.le_refl _, by omega, hs⟩
end Go.Proofs.YtoefibkhlhmlfaaGreat
namespace Go.Proofs.YtoefibkhlhmlfaaGreat
open Go.RowKit
end Go.Proofs.YtoefibkhlhmlfaaGreat
namespace Go.Proofs.YtoefibkhlhmlfaaGreat
open Go.RowKit
abbrev ptr (b : Nat) : Value := .pointer (some ⟨b, 0, none⟩)
theorem err_any {w : World} {b : Nat} {s : ByteArray} {a x : Int} (h : Cur w b s a x) : Calls Tryz.prog 80 #[ptr b] w fun e w' => e = .returned (.int .i64 x) ∧ w = w' := by
  obtain ⟨h0, h1, h2, h3, h4⟩ := h.cells
  go_enter Tryz.func80, Tryz.ntmps80
  go_wp2
  go_ret
  exact ⟨rfl, rfl⟩
theorem at_any {w : World} {b : Nat} {s : ByteArray} {a x : Int} (h : Cur w b s a x) : Calls Tryz.prog 185 #[ptr b] w fun e w' => e = .returned (.int .i64 a) ∧ w = w' := by
  obtain ⟨h0, h1, h2, h3, h4⟩ := h.cells
  go_enter Tryz.func185, Tryz.ntmps185
  go_wp2
  go_ret
  exact ⟨rfl, rfl⟩
theorem left_any {w : World} {b : Nat} {s : ByteArray} {a x : Int} (h : Cur w b s a x) : Calls Tryz.prog 81 #[ptr b] w fun e w' => e = .returned (.int .i64 (s.size - a)) ∧ ∃ n, w' = w.drewN n := by
  obtain ⟨h0, h1, h2, h3, h4⟩ := h.cells
  have lo := h.lo
  have hi := h.hi
  have sz := h.sz
  unfold maxLen at sz
  go_enter Tryz.func81, Tryz.ntmps81
  go_wp2
  go_quiet (fail)
  go_wp2
  go_ret
  exact ⟨rfl, nq, rfl⟩
theorem fail_no {w : World} {b : Nat} {s : ByteArray} {a x : Int} (y : Int) (h : Cur w b s a x) (hx : x ≠ 0) : Calls Tryz.prog 79 #[ptr b, .int .i64 y] w fun e w' => e = .returned (.tuple #[]) ∧ w = w' := by
  obtain ⟨h0, h1, h2, h3, h4⟩ := h.cells
  have hx' : (x == 0) = false := by simpa using hx
  go_enter Tryz.func79, Tryz.ntmps79
  go_wp2
  go_end0
  exact ⟨rfl, rfl⟩
theorem fail_yes {w : World} {b : Nat} {s : ByteArray} {a : Int} (y : Int) (h : Cur w b s a 0) : Calls Tryz.prog 79 #[ptr b, .int .i64 y] w fun e w' => e = .returned (.tuple #[]) ∧ Cur w' b s a y ∧ Keep1 b w w' := by
  obtain ⟨h0, h1, h2, h3, h4⟩ := h.cells
  go_enter Tryz.func79, Tryz.ntmps79
  go_wp2
  go_end0
  exact ⟨rfl, h.setErr y, (Keep.refl _ _).set1 _ _⟩
theorem upTo_left {w : World} {b : Nat} {s : ByteArray} {a x : Int} (n : Int) (h : Cur w b s a x) : Calls Tryz.prog 174 #[.int .i64 n, .func (.func 81) #[ptr b] #[]] w fun e w' => e = .returned (.bool (decide (0 ≤ n ∧ n ≤ s.size - a))) ∧ ∃ n, w' = w.drewN n := by
  by_cases hn : 0 ≤ n
  · have e1 : decide (0 ≤ n ∧ n ≤ s.size - a) = decide (n ≤ s.size - a) := by simp [hn]
    rw [e1]
    clear e1
    go_enter Tryz.func174, Tryz.ntmps174
    go_wp2_with (go_at_call 81; refine (left_any h).mono ?_; rintro e w' ⟨rfl, hw⟩)
    go_ret
    exact ⟨rfl, hw⟩
  · have e1 : decide (0 ≤ n ∧ n ≤ s.size - a) = false := by simp [hn]
    rw [e1]
    clear e1
    go_enter Tryz.func174, Tryz.ntmps174
    go_wp2
    go_ret
    exact ⟨rfl, 0, rfl⟩
theorem upTo_at {w : World} {b : Nat} {s : ByteArray} {a x : Int} (n : Int) (h : Cur w b s a x) : Calls Tryz.prog 174 #[.int .i64 n, .func (.func 185) #[ptr b] #[]] w fun e w' => e = .returned (.bool (decide (0 ≤ n ∧ n ≤ a))) ∧ w = w' := by
  by_cases hn : 0 ≤ n
  · have e1 : decide (0 ≤ n ∧ n ≤ a) = decide (n ≤ a) := by simp [hn]
    rw [e1]
    clear e1
    go_enter Tryz.func174, Tryz.ntmps174
    go_wp2_with (go_at_call 185; refine (at_any h).mono ?_; rintro e w' ⟨rfl, rfl⟩)
    go_ret
    exact ⟨rfl, rfl⟩
  · have e1 : decide (0 ≤ n ∧ n ≤ a) = false := by simp [hn]
    rw [e1]
    clear e1
    go_enter Tryz.func174, Tryz.ntmps174
    go_wp2
    go_ret
    exact ⟨rfl, rfl⟩
def cut (s : ByteArray) (i j : Int) : ByteArray := s.extract i.toNat j.toNat
theorem since_yes {w : World} {b : Nat} {s : ByteArray} {a x : Int} (n : Int) (h : Cur w b s a x) (hn0 : 0 ≤ n) (hn : n ≤ a) : Calls Tryz.prog 175 #[ptr b, .int .i64 n] w fun e w' => e = .returned (.string (cut s n a)) ∧ ∃ n, w' = w.drewN n := by
  obtain ⟨h0, h1, h2, h3, h4⟩ := h.cells
  have lo := h.lo
  have hi := h.hi
  have hd : decide (0 ≤ n ∧ n ≤ a) = true := by simp [hn0, hn]
  go_enter Tryz.func175, Tryz.ntmps175
  go_wp2_with (go_at_call 174; refine (upTo_at n h).mono ?_; rintro e w' ⟨rfl, rfl⟩; rw [hd])
  go_quiet (fail)
  go_wp2
  go_ret
  exact ⟨rfl, nq, rfl⟩
theorem ahead_neg {w : World} {b : Nat} (n : Int) (hn : n < 0) : Calls Tryz.prog 177 #[ptr b, .int .i64 n] w fun e w' => e = .returned (.string ⟨#[]⟩) ∧ w = w' := by
  go_enter Tryz.func177, Tryz.ntmps177
  go_wp2
  go_ret
  exact ⟨rfl, rfl⟩
theorem ahead_all {w : World} {b : Nat} {s : ByteArray} {a x : Int} (n : Int) (h : Cur w b s a x) (hn0 : 0 ≤ n) (hn : s.size - a < n) : Calls Tryz.prog 177 #[ptr b, .int .i64 n] w fun e w' => e = .returned (.string (cut s a s.size)) ∧ ∃ n, w' = w.drewN n := by
  obtain ⟨h0, h1, h2, h3, h4⟩ := h.cells
  have lo := h.lo
  have hi := h.hi
  have hd : decide (0 ≤ n ∧ n ≤ s.size - a) = false := by simp; omega
  go_enter Tryz.func177, Tryz.ntmps177
  go_wp2_with (go_at_call 174; refine (upTo_left n h).mono ?_; rintro e w' ⟨rfl, m, rfl⟩; rw [hd])
  all_goals go_quiet (fail)
  all_goals go_wp2
  all_goals go_ret
  exact ⟨rfl, _, World.drewN_drewN _ _ _⟩
theorem ahead_some {w : World} {b : Nat} {s : ByteArray} {a x : Int} (n : Int) (h : Cur w b s a x) (hn0 : 0 ≤ n) (hn : n ≤ s.size - a) : Calls Tryz.prog 177 #[ptr b, .int .i64 n] w fun e w' => e = .returned (.string (cut s a (a + n))) ∧ ∃ n, w' = w.drewN n := by
  have lo := h.lo
  have hi := h.hi
  have sz := h.sz
  unfold maxLen at sz
  obtain ⟨h0, h1, h2, h3, h4⟩ := h.cells
  have hd : decide (0 ≤ n ∧ n ≤ s.size - a) = true := by simp; omega
  go_enter Tryz.func177, Tryz.ntmps177
  go_wp2_with (go_at_call 174; refine (upTo_left n h).mono ?_; rintro e w' ⟨rfl, m, rfl⟩; rw [hd])
  all_goals go_quiet (fail)
  all_goals go_wp2
  all_goals go_ret
  exact ⟨rfl, _, World.drewN_drewN _ _ _⟩
def cBytes (s : ByteArray) (a x n : Int) : ByteArray := if x = 0 ∧ 0 ≤ n ∧ n ≤ s.size - a then cut s a (a + n) else ⟨#[]⟩
def cAt (s : ByteArray) (a x n : Int) : Int := if x = 0 ∧ 0 ≤ n ∧ n ≤ s.size - a then a + n else a
def cErr (s : ByteArray) (a x n : Int) : Int := if x ≠ 0 then x else if n < 0 then 1 else if n ≤ s.size - a then 0 else 2
theorem bytes_err {w : World} {b : Nat} {s : ByteArray} {a x : Int} (n : Int) (h : Cur w b s a x) (hx : x ≠ 0) : Calls Tryz.prog 149 #[ptr b, .int .i64 n] w fun e w' => e = .returned (.string ⟨#[]⟩) ∧ w = w' := by
  have hx' : (x != 0) = true := by simpa using hx
  go_enter Tryz.func149, Tryz.ntmps149
  go_wp2_with (go_at_call 80; refine (err_any h).mono ?_; rintro e w' ⟨rfl, rfl⟩)
  go_ret
  exact ⟨rfl, rfl⟩
theorem bytes_neg {w : World} {b : Nat} {s : ByteArray} {a : Int} (n : Int) (h : Cur w b s a 0) (hn : n < 0) : Calls Tryz.prog 149 #[ptr b, .int .i64 n] w fun e w' => e = .returned (.string ⟨#[]⟩) ∧ Cur w' b s a 1 ∧ Keep1 b w w' := by
  go_enter Tryz.func149, Tryz.ntmps149
  go_wp2_with (first | (go_at_call 80; refine (err_any h).mono ?_; rintro e w' ⟨rfl, rfl⟩) | (go_at_call 79; refine (fail_yes 1 h).mono ?_; rintro e w1 ⟨rfl, hc, hk⟩))
  go_ret
  exact ⟨rfl, hc, hk⟩
theorem bytes_short {w : World} {b : Nat} {s : ByteArray} {a : Int} (n : Int) (h : Cur w b s a 0) (hn0 : 0 ≤ n) (hn : s.size - a < n) : Calls Tryz.prog 149 #[ptr b, .int .i64 n] w fun e w' => e = .returned (.string ⟨#[]⟩) ∧ Cur w' b s a 2 ∧ Keep1 b w w' := by
  have hd : decide (0 ≤ n ∧ n ≤ s.size - a) = false := by simp; omega
  go_enter Tryz.func149, Tryz.ntmps149
  go_wp2_with (first | (go_at_call 80; refine (err_any h).mono ?_; rintro e w' ⟨rfl, rfl⟩) | (go_at_call 174; refine (upTo_left n h).mono ?_; rintro e w' ⟨rfl, m, rfl⟩; rw [hd]; have hk0 := (Keep.refl (fun k => k = b) w).drewN m; have h' := h.keep0 ((Keep.refl _ w).drewN m)) | (go_at_call 79; refine (fail_yes 2 h').mono ?_; rintro e w1 ⟨rfl, hc, hk⟩))
  go_ret
  exact ⟨rfl, hc, hk0.trans hk⟩
theorem bytes_some {w : World} {b : Nat} {s : ByteArray} {a : Int} (n : Int) (h : Cur w b s a 0) (hn0 : 0 ≤ n) (hn : n ≤ s.size - a) : Calls Tryz.prog 149 #[ptr b, .int .i64 n] w fun e w' => e = .returned (.string (cut s a (a + n))) ∧ Cur w' b s (a + n) 0 ∧ Keep1 b w w' := by
  have hd : decide (0 ≤ n ∧ n ≤ s.size - a) = true := by simp; omega
  have lo := h.lo
  have hi := h.hi
  have sz := h.sz
  unfold maxLen at sz
  obtain ⟨h0, h1, h2, h3, h4⟩ := h.cells
  go_enter Tryz.func149, Tryz.ntmps149
  go_wp2_with (first | (go_at_call 80; refine (err_any h).mono ?_; rintro e w' ⟨rfl, rfl⟩) | (go_at_call 174; refine (upTo_left n h).mono ?_; rintro e w' ⟨rfl, m, rfl⟩; rw [hd]))
  refine (since_yes (x := 0) a ((h.keep0 ((Keep.refl _ w).drewN m)).setAt (a' := a + n) (by omega) (by omega)) (by omega) (by omega)).mono ?_
  rintro e w' ⟨rfl, m', rfl⟩
  go_wp2
  go_ret
  exact ⟨rfl, ((h.keep0 ((Keep.refl _ w).drewN m)).setAt (by omega) (by omega)).keep0 ((Keep.refl _ _).drewN m'), (((Keep.refl _ w).drewN m).set1 _ _).drewN m'⟩
theorem bytes_any {w : World} {b : Nat} {s : ByteArray} {a x : Int} (n : Int) (h : Cur w b s a x) : Calls Tryz.prog 149 #[ptr b, .int .i64 n] w fun e w' => e = .returned (.string (cBytes s a x n)) ∧ Cur w' b s (cAt s a x n) (cErr s a x n) ∧ Keep1 b w w' := by
  unfold cBytes cAt cErr
  by_cases hx : x = 0
  · subst hx
    by_cases hn : n < 0
    · rw [if_neg (by omega), if_neg (by omega), if_neg (by omega), if_pos hn]
      exact bytes_neg n h hn
    · by_cases hl : n ≤ s.size - a
      · rw [if_pos ⟨rfl, by omega, hl⟩, if_pos ⟨rfl, by omega, hl⟩, if_neg (by omega), if_neg hn, if_pos hl]
        exact bytes_some n h (by omega) hl
      · rw [if_neg (by omega), if_neg (by omega), if_neg (by omega), if_neg hn, if_neg hl]
        exact bytes_short n h (by omega) (by omega)
  · rw [if_neg (by omega), if_neg (by omega), if_pos hx]
    refine (bytes_err n h hx).mono ?_
    rintro e w' ⟨rfl, rfl⟩
    exact ⟨rfl, h, Keep.refl _ _⟩
def byteAt (s : ByteArray) (i : Nat) : Nat := (s.data.toList.getD i 0).toNat
theorem byteAt_lt (s : ByteArray) (i : Nat) : byteAt s i < 256 := (s.data.toList.getD i 0).toNat_lt
theorem cut_one (s : ByteArray) (a : Int) (h0 : 0 ≤ a) (h : a < s.size) : ∃ c : UInt8, cut s a (a + 1) = ⟨#[c]⟩ ∧ byteAt s a.toNat = c.toNat := by
  obtain ⟨i, rfl⟩ := Int.eq_ofNat_of_zero_le h0
  have hi : i < s.data.size := by have : s.size = s.data.size := rfl; omega
  refine ⟨s.data[i], ?_, ?_⟩
  · unfold cut
    apply ByteArray.ext
    rw [ByteArray.data_extract]
    apply Array.ext
    · simp; omega
    · intro k h1 h2
      simp at h2
      subst h2
      simp
  · simp only [byteAt, Int.toNat_natCast, List.getD_eq_getElem?_getD, Array.getElem?_toList]
    rw [Array.getElem?_eq_getElem hi]
    rfl
def cByte (s : ByteArray) (a x : Int) : Int := if x = 0 ∧ a < s.size then byteAt s a.toNat else 0
theorem byte_any {w : World} {b : Nat} {s : ByteArray} {a x : Int} (h : Cur w b s a x) : Calls Tryz.prog 153 #[ptr b] w fun e w' => e = .returned (.int .u8 (cByte s a x)) ∧ Cur w' b s (cAt s a x 1) (cErr s a x 1) ∧ Keep1 b w w' := by
  have hi := h.hi
  have lo := h.lo
  by_cases hn : x = 0 ∧ a < s.size
  · obtain ⟨c, hc1, hc2⟩ := cut_one s a lo hn.2
    have e1 : cBytes s a x 1 = ⟨#[c]⟩ := (if_pos (by omega)).trans hc1
    have e2 : cByte s a x = c.toNat := by rw [cByte, if_pos hn, hc2]
    rw [e2]
    clear hc1 hc2 e2 hn
    go_enter Tryz.func153, Tryz.ntmps153
    go_wp2_with (go_at_call 149; refine (bytes_any 1 h).mono ?_; rintro e w' ⟨rfl, hc, hk⟩; rw [e1])
    go_ret
    exact ⟨rfl, hc, hk⟩
  · have e1 : cBytes s a x 1 = ⟨#[]⟩ := if_neg (by omega)
    have e2 : cByte s a x = 0 := if_neg hn
    rw [e2]
    clear e2 hn
    go_enter Tryz.func153, Tryz.ntmps153
    go_wp2_with (go_at_call 149; refine (bytes_any 1 h).mono ?_; rintro e w' ⟨rfl, hc, hk⟩; rw [e1])
    go_ret
    exact ⟨rfl, hc, hk⟩
def cFail (x y : Int) : Int := if x = 0 then y else x
def cEnd (s : ByteArray) (a x : Int) : Int := if a < s.size then cFail x 8 else x
theorem fail_any {w : World} {b : Nat} {s : ByteArray} {a x : Int} (y : Int) (h : Cur w b s a x) : Calls Tryz.prog 79 #[ptr b, .int .i64 y] w fun e w' => e = .returned (.tuple #[]) ∧ Cur w' b s a (cFail x y) ∧ Keep1 b w w' := by
  unfold cFail
  by_cases hx : x = 0
  · subst hx
    exact fail_yes y h
  · rw [if_neg hx]
    refine (fail_no y h hx).mono ?_
    rintro e w' ⟨rfl, rfl⟩
    exact ⟨rfl, h, Keep.refl _ _⟩
theorem end_any {w : World} {b : Nat} {s : ByteArray} {a x : Int} (h : Cur w b s a x) : Calls Tryz.prog 47 #[ptr b] w fun e w' => e = .returned (.int .i64 (cEnd s a x)) ∧ Cur w' b s a (cEnd s a x) ∧ Keep1 b w w' := by
  have hi := h.hi
  by_cases hl : a < s.size
  · have e1 : cEnd s a x = cFail x 8 := if_pos hl
    rw [e1]
    clear e1
    have hl' : 0 < s.size - a := by omega
    go_enter Tryz.func47, Tryz.ntmps47
    go_wp2_with (first | (go_at_call 81; refine (left_any h).mono ?_; rintro e w' ⟨rfl, m, rfl⟩; have h1 := h.keep0 ((Keep.refl _ w).drewN m)) | (go_at_call 79; refine (fail_any 8 h1).mono ?_; rintro e w2 ⟨rfl, h2, k2⟩) | (go_at_call 80; refine (err_any h2).mono ?_; rintro e w' ⟨rfl, rfl⟩))
    go_ret
    exact ⟨rfl, h2, ((Keep.refl _ w).drewN m).trans k2⟩
  · have e1 : cEnd s a x = x := if_neg hl
    rw [e1]
    clear e1
    have hl' : ¬ 0 < s.size - a := by omega
    go_enter Tryz.func47, Tryz.ntmps47
    go_wp2_with (first | (go_at_call 81; refine (left_any h).mono ?_; rintro e w' ⟨rfl, m, rfl⟩; have h1 := h.keep0 ((Keep.refl _ w).drewN m)) | (go_at_call 80; refine (err_any h1).mono ?_; rintro e w' ⟨rfl, rfl⟩))
    go_ret
    exact ⟨rfl, h1, (Keep.refl _ w).drewN m⟩
theorem new_any (w : World) (s : ByteArray) (hs : s.size ≤ maxLen) : Calls Tryz.prog 45 #[.string s] w fun e w' => e = .returned (ptr w.heap.size) ∧ Cur w' w.heap.size s 0 0 ∧ Keep0 w w' := by
  go_enter Tryz.func45, Tryz.ntmps45
  go_wp2
  go_ret
  exact ⟨rfl, Cur.new w s _ hs, (Keep.refl _ _).alloc _⟩
def cAhead (s : ByteArray) (a n : Int) : ByteArray := if n < 0 then ⟨#[]⟩ else if n ≤ s.size - a then cut s a (a + n) else cut s a s.size
theorem ahead_any {w : World} {b : Nat} {s : ByteArray} {a x : Int} (n : Int) (h : Cur w b s a x) : Calls Tryz.prog 177 #[ptr b, .int .i64 n] w fun e w' => e = .returned (.string (cAhead s a n)) ∧ ∃ n, w' = w.drewN n := by
  unfold cAhead
  by_cases hn : n < 0
  · rw [if_pos hn]
    refine (ahead_neg n hn).mono ?_
    rintro e w' ⟨rfl, rfl⟩
    exact ⟨rfl, 0, rfl⟩
  · rw [if_neg hn]
    by_cases hl : n ≤ s.size - a
    · rw [if_pos hl]
      exact ahead_some n h (by omega) hl
    · rw [if_neg hl]
      exact ahead_all n h (by omega) (by omega)
theorem cByte_bd (s : ByteArray) (a x : Int) : 0 ≤ cByte s a x ∧ cByte s a x ≤ 255 := by
  unfold cByte
  have := byteAt_lt s a.toNat
  split <;> omega
end Go.Proofs.YtoefibkhlhmlfaaGreat
namespace Go.Proofs.YtoefibkhlhmlfaaGreat
open Go.RowKit
theorem rfail_any {w : World} {b : Nat} {s : ByteArray} {a x : Int} (y : Int) (h : Cur w b s a x) : Calls Tryz.prog 127 #[ptr b, .int .i64 y] w fun e w' => e = .returned (.tuple #[]) ∧ Cur w' b s a (cFail x y) ∧ Keep1 b w w' := by
  obtain ⟨h0, h1, h2, h3, h4⟩ := h.cells
  unfold cFail
  by_cases hx : x = 0
  · subst hx
    rw [if_pos rfl]
    go_enter Tryz.func127, Tryz.ntmps127
    go_wp2
    go_end0
    exact ⟨rfl, h.setErr y, (Keep.refl _ _).set1 _ _⟩
  · rw [if_neg hx]
    have hx' : (x == 0) = false := by simpa using hx
    clear hx
    go_enter Tryz.func127, Tryz.ntmps127
    go_wp2
    go_end0
    exact ⟨rfl, h, Keep.refl _ _⟩
theorem rbytes_err {w : World} {b : Nat} {s : ByteArray} {a x : Int} (n : Int) (h : Cur w b s a x) (hx : x ≠ 0) : Calls Tryz.prog 124 #[ptr b, .int .i64 n] w fun e w' => e = .returned (.string ⟨#[]⟩) ∧ w = w' := by
  obtain ⟨h0, h1, h2, h3, h4⟩ := h.cells
  have hx' : (x != 0) = true := by simpa using hx
  go_enter Tryz.func124, Tryz.ntmps124
  go_wp2
  go_ret
  exact ⟨rfl, rfl⟩
theorem rbytes_neg {w : World} {b : Nat} {s : ByteArray} {a : Int} (n : Int) (h : Cur w b s a 0) (hn : n < 0) : Calls Tryz.prog 124 #[ptr b, .int .i64 n] w fun e w' => e = .returned (.string ⟨#[]⟩) ∧ Cur w' b s a 1 ∧ Keep1 b w w' := by
  obtain ⟨h0, h1, h2, h3, h4⟩ := h.cells
  go_enter Tryz.func124, Tryz.ntmps124
  go_wp2
  go_ret
  exact ⟨rfl, h.setErr 1, (Keep.refl _ _).set1 _ _⟩
theorem rbytes_short {w : World} {b : Nat} {s : ByteArray} {a : Int} (n : Int) (h : Cur w b s a 0) (hn0 : 0 ≤ n) (hn : s.size - a < n) : Calls Tryz.prog 124 #[ptr b, .int .i64 n] w fun e w' => e = .returned (.string ⟨#[]⟩) ∧ Cur w' b s a 2 ∧ Keep1 b w w' := by
  obtain ⟨h0, h1, h2, h3, h4⟩ := h.cells
  have lo := h.lo
  have hi := h.hi
  have sz := h.sz
  unfold maxLen at sz
  go_enter Tryz.func124, Tryz.ntmps124
  go_wp2
  all_goals go_quiet (fail)
  all_goals go_wp2
  all_goals go_ret
  all_goals exact ⟨rfl, (h.keep0 ((Keep.refl _ w).drewN _)).setErr 2, ((Keep.refl _ w).drewN _).set1 _ _⟩
theorem rbytes_some {w : World} {b : Nat} {s : ByteArray} {a : Int} (n : Int) (h : Cur w b s a 0) (hn0 : 0 ≤ n) (hn : n ≤ s.size - a) : Calls Tryz.prog 124 #[ptr b, .int .i64 n] w fun e w' => e = .returned (.string (cut s a (a + n))) ∧ Cur w' b s (a + n) 0 ∧ Keep1 b w w' := by
  have lo := h.lo
  have hi := h.hi
  have sz := h.sz
  unfold maxLen at sz
  have hd1 : decide (n < 0) = false := by simp; omega
  have hd2 : decide (s.size - a < n) = false := by simp; omega
  obtain ⟨h0, h1, h2, h3, h4⟩ := h.cells
  go_enter Tryz.func124, Tryz.ntmps124
  go_wp2
  go_quiet (fail)
  go_wp2
  clear h0 h1 h2 h3 h4
  go_loopw [5, 6] (fun g i wr => ∃ k : Nat, (k : Int) ≤ n ∧ i = .int .i64 k ∧ g = .string (s.extract a.toNat (a + k).toNat) ∧ Cur wr b s (a + k) 0 ∧ Keep1 b w wr) (fun _ i _ => (n - intOf i).toNat)
  case atStart =>
    refine ⟨0, by omega, rfl, ?_, ?_, (Keep.refl _ w).drewN _⟩
    · simp; rfl
    · rw [show (a + ((0 : Nat) : Int)) = a from by omega]; exact h.keep0 ((Keep.refl _ w).drewN _)
  case round =>
    obtain ⟨k, hk, rfl, rfl, hc, hkp⟩ := hrel
    by_cases hlt : (k : Int) < n
    · obtain ⟨h0, h1, h2, h3, h4⟩ := hc.cells
      have hb0 : 0 ≤ a + k := by omega
      have hb1 : a + k + 1 ≤ s.size := by omega
      go_wp2
      go_quiet (fail)
      go_wp2
      go_roundw
      case rel =>
        have e1 : a + ((k + 1 : Nat) : Int) = a + k + 1 := by omega
        refine ⟨k + 1, by omega, by go_num, ?_, ?_, (hkp.trans ((Keep.refl _ wr).drewN nq)).set1 _ _⟩
        · rw [e1, show min a.toNat (a + k).toNat = a.toNat from by omega, show max (a + k).toNat (a + k + 1).toNat = (a + k + 1).toNat from by omega]
        · rw [e1]; exact (hc.keep0 ((Keep.refl _ wr).drewN nq)).setAt (by omega) (by omega)
      case measure => simp [intOf]; omega
    · go_wp2
      go_ret
      obtain rfl : n = k := by omega
      exact ⟨rfl, hc, hkp⟩
theorem rbytes_any {w : World} {b : Nat} {s : ByteArray} {a x : Int} (n : Int) (h : Cur w b s a x) : Calls Tryz.prog 124 #[ptr b, .int .i64 n] w fun e w' => e = .returned (.string (cBytes s a x n)) ∧ Cur w' b s (cAt s a x n) (cErr s a x n) ∧ Keep1 b w w' := by
  unfold cBytes cAt cErr
  by_cases hx : x = 0
  · subst hx
    by_cases hn : n < 0
    · rw [if_neg (by omega), if_neg (by omega), if_neg (by omega), if_pos hn]
      exact rbytes_neg n h hn
    · by_cases hl : n ≤ s.size - a
      · rw [if_pos ⟨rfl, by omega, hl⟩, if_pos ⟨rfl, by omega, hl⟩, if_neg (by omega), if_neg hn, if_pos hl]
        exact rbytes_some n h (by omega) hl
      · rw [if_neg (by omega), if_neg (by omega), if_neg (by omega), if_neg hn, if_neg hl]
        exact rbytes_short n h (by omega) (by omega)
  · rw [if_neg (by omega), if_neg (by omega), if_pos hx]
    refine (rbytes_err n h hx).mono ?_
    rintro e w' ⟨rfl, rfl⟩
    exact ⟨rfl, h, Keep.refl _ _⟩
theorem rbyte_any {w : World} {b : Nat} {s : ByteArray} {a x : Int} (h : Cur w b s a x) : Calls Tryz.prog 126 #[ptr b] w fun e w' => e = .returned (.int .i64 (cByte s a x)) ∧ Cur w' b s (cAt s a x 1) (cErr s a x 1) ∧ Keep1 b w w' := by
  have hi := h.hi
  have lo := h.lo
  by_cases hn : x = 0 ∧ a < s.size
  · obtain ⟨c, hc1, hc2⟩ := cut_one s a lo hn.2
    have e1 : cBytes s a x 1 = ⟨#[c]⟩ := (if_pos (by omega)).trans hc1
    have e2 : cByte s a x = c.toNat := by rw [cByte, if_pos hn, hc2]
    have hlt := c.toNat_lt
    rw [e2]
    clear hc1 hc2 e2 hn
    go_enter Tryz.func126, Tryz.ntmps126
    go_wp2_with (go_at_call 124; refine (rbytes_any 1 h).mono ?_; rintro e w' ⟨rfl, hc, hk⟩; rw [e1])
    go_ret
    refine ⟨?_, hc, hk⟩
    show Ending.returned (.int .i64 (wrap64 (c.toNat : Int))) = _
    rw [wrap64_byte]
  · have e1 : cBytes s a x 1 = ⟨#[]⟩ := if_neg (by omega)
    have e2 : cByte s a x = 0 := if_neg hn
    rw [e2]
    clear e2 hn
    go_enter Tryz.func126, Tryz.ntmps126
    go_wp2_with (go_at_call 124; refine (rbytes_any 1 h).mono ?_; rintro e w' ⟨rfl, hc, hk⟩; rw [e1])
    go_ret
    exact ⟨rfl, hc, hk⟩
theorem rend_any {w : World} {b : Nat} {s : ByteArray} {a x : Int} (h : Cur w b s a x) : Calls Tryz.prog 90 #[ptr b] w fun e w' => e = .returned (.int .i64 (cEnd s a x)) ∧ Cur w' b s a (cEnd s a x) ∧ Keep1 b w w' := by
  obtain ⟨h0, h1, h2, h3, h4⟩ := h.cells
  have hi := h.hi
  unfold cEnd cFail
  by_cases hx : x = 0
  · subst hx
    by_cases hl : a < s.size
    · rw [if_pos hl, if_pos rfl]
      go_enter Tryz.func90, Tryz.ntmps90
      go_wp2
      go_quiet (fail)
      go_wp2
      go_ret
      exact ⟨rfl, (h.keep0 ((Keep.refl _ w).drewN _)).setErr 8, ((Keep.refl _ w).drewN _).set1 _ _⟩
    · rw [if_neg hl]
      have hl' : decide (a < s.size) = false := by simpa using hl
      go_enter Tryz.func90, Tryz.ntmps90
      go_wp2
      go_quiet (fail)
      go_wp2
      go_ret
      exact ⟨rfl, h.keep0 ((Keep.refl _ w).drewN _), (Keep.refl _ w).drewN _⟩
  · have e1 : (if a < s.size then if x = 0 then 8 else x else x) = x := by simp [hx]
    rw [e1]
    have hx' : (x == 0) = false := by simpa using hx
    clear hx e1
    go_enter Tryz.func90, Tryz.ntmps90
    go_wp2
    go_quiet (fail)
    go_wp2
    go_ret
    exact ⟨rfl, h.keep0 ((Keep.refl _ w).drewN _), (Keep.refl _ w).drewN _⟩
end Go.Proofs.YtoefibkhlhmlfaaGreat
