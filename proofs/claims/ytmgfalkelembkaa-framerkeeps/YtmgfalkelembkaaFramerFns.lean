/-
  Contracts of package framer's New, Err, Kept, Told and Push, and of what they call of the library (strings.Clone, an atomic number), each proved over this seat's translation.
  Conditions: all that the framer was given takes at most 1,000,000 bytes.
-/
import Derived.Test.YtmgfalkelembkaaFramer
import Derived.Test.YtmgfalkelembkaaL8
import Derived.Shelf.Pu.Clone
import Derived.Laws.LoneSync
namespace Go.Proofs.Ytmgfalkelembkaa
open Go.RowKit Go.Shelf

/-! ### strings.Clone -/
def cRen : Ren := ⟨fun | 25 => 31 | n => n, fun | 3 => 3 | 4 => 4 | 5 => 5 | 9 => 9 | 37 => 44 | 47 => 93 | n => n, fun n => n⟩
theorem cLays : LaysPu.n25 Try.prog cRen := {
  mixed := by kernel_rfl
  f25 := Try.func31.trans (congrArg some (by kernel_rfl))
  t0 := Try.underlying0
  a0 := Try.isAgg0
  z0 := Try.sizeOf0
  v0 := Try.zeroValue0
  i0 := by kernel_rfl
  t3 := Try.underlying3
  a3 := Try.isAgg3
  z3 := Try.sizeOf3
  v3 := Try.zeroValue3
  i3 := by kernel_rfl
  t4 := Try.underlying4
  a4 := Try.isAgg4
  z4 := Try.sizeOf4
  v4 := Try.zeroValue4
  i4 := by kernel_rfl
  t5 := Try.underlying5
  a5 := Try.isAgg5
  z5 := Try.sizeOf5
  v5 := Try.zeroValue5
  i5 := by kernel_rfl
  t9 := Try.underlying9
  a9 := Try.isAgg9
  z9 := Try.sizeOf9
  v9 := Try.zeroValue9
  i9 := by kernel_rfl
  t37 := Try.underlying44
  a37 := Try.isAgg44
  z37 := Try.sizeOf44
  v37 := Try.zeroValue44
  i37 := by kernel_rfl
  t47 := Try.underlying93
  a47 := Try.isAgg93
  z47 := Try.sizeOf93
  v47 := Try.zeroValue93
  i47 := by kernel_rfl }
set_option maxRecDepth 100000 in
theorem clone_any (w : World) (s : ByteArray) (hs : s.size ≤ 281474976710656) :
    Calls Try.prog 21 #[.string s] w fun e w' => e = .returned (.string s) ∧ Keep0 w w' := by
  have y : Calls Try.prog 31 #[.string s] w fun e w' => e = .returned (.string s) ∧ Below w.heap.size w w' := AnyPu.stringslite_Clone cLays s w hs
  go_enter Try.func21, Try.ntmps21
  go_wp2_with fail
  refine y.mono ?_
  rintro e w1 ⟨rfl, k1⟩
  have K1 : Keep0 w w1 := (Keep.ofBelow k1).mono (fun k hk h => absurd h (by show ¬ w.heap.size ≤ k; omega))
  clear y k1
  go_wp2
  go_ret
  exact ⟨rfl, K1⟩

/-! ### an atomic number -/
set_option maxRecDepth 100000 in
theorem aload_any {w : World} {a : Addr} {d : Int} (h : w.cell? a = some (.int .i64 d)) :
    Calls Try.prog 23 #[.pointer (some a)] w fun e w' => e = .returned (.int .i64 d) ∧ w = w' := by
  have hl := run_call_load (P := Try.prog) Try.func33 (by kernel_rfl) (by kernel_rfl) (by kernel_rfl) .i64 (by kernel_rfl) h
  go_enter Try.func23, Try.ntmps23
  go_wp2
  go_ret
  exact ⟨rfl, rfl⟩
set_option maxRecDepth 100000 in
theorem aadd_any {w : World} {a : Addr} {d y s : Int} (h : w.cell? a = some (.int .i64 d)) (hz : w.frozen? a = false) (hs : IntKind.i64.wrap (d + y) = s) :
    Calls Try.prog 22 #[.pointer (some a), .int .i64 y] w fun e w' => e = .returned (.int .i64 s) ∧ w' = w.setCell a (.int .i64 s) := by
  have hl := run_call_add (P := Try.prog) Try.func32 (by kernel_rfl) (by kernel_rfl) (by kernel_rfl) .i64 (by kernel_rfl) (y := y) (s := s) h hz (by rw [← hs]; rfl)
  go_enter Try.func22, Try.ntmps22
  go_wp2
  go_ret
  exact ⟨rfl, rfl⟩

/-! ### a framer -/
/-- A framer in block b, behind all that counts of what it was given. -/
def FmAt (w : World) (b : Nat) (S : ByteArray) : Prop := ∃ t, w.heap[b]? = some (.cells #[.string (kp S), .int .i64 (er S), .int .i64 ((fs S).length : Int)] t)
theorem FmAt.lt {w : World} {b : Nat} {S : ByteArray} (h : FmAt w b S) : b < w.heap.size := by
  obtain ⟨t, ht⟩ := h
  exact (Array.getElem?_eq_some_iff.mp ht).1
theorem FmAt.keep {R : Nat → Prop} {w w' : World} {b : Nat} {S : ByteArray} (h : FmAt w b S) (k : Keep R w w') (hn : ¬ R b) : FmAt w' b S := by
  obtain ⟨t, ht⟩ := h
  exact ⟨t, by rw [k.block b (Array.getElem?_eq_some_iff.mp ht).1 hn]; exact ht⟩
theorem FmAt.keep0 {w w' : World} {b : Nat} {S : ByteArray} (h : FmAt w b S) (k : Keep0 w w') : FmAt w' b S := h.keep k (fun f => f)
theorem three_cells {w : World} {b : Nat} {x y z : Value} {t : TypeId} (h : w.heap[b]? = some (.cells #[x, y, z] t)) :
    w.cell? ⟨b, 0, none⟩ = some x ∧ w.cell? ⟨b, 1, none⟩ = some y ∧ w.cell? ⟨b, 2, none⟩ = some z ∧ w.frozen? ⟨b, 0, none⟩ = false ∧ w.frozen? ⟨b, 1, none⟩ = false ∧ w.frozen? ⟨b, 2, none⟩ = false := by
  simp [World.cell?, World.frozen?, h]
set_option maxRecDepth 100000 in
theorem fnew_any (w : World) : Calls Try.prog 12 #[] w fun e w' => e = .returned (ptr w.heap.size) ∧ FmAt w' w.heap.size ⟨#[]⟩ ∧ Keep0 w w' := by
  have h1 : FmAt (w.alloc (.cells #[.string ⟨#[]⟩, .int .i64 0, .int .i64 0] 56)) w.heap.size ⟨#[]⟩ := by
    unfold FmAt
    rw [nil_kp, nil_er, nil_fs]
    exact ⟨_, (MapKept.heap_alloc w _).1⟩
  have k1 : Keep0 w (w.alloc (.cells #[.string ⟨#[]⟩, .int .i64 0, .int .i64 0] 56)) := (Keep.refl _ w).alloc _
  go_enter Try.func12, Try.ntmps12
  go_wp2
  go_ret
  exact ⟨rfl, h1, k1⟩
set_option maxRecDepth 100000 in
theorem ferr_any {w : World} {b : Nat} {S : ByteArray} (h : FmAt w b S) : Calls Try.prog 9 #[ptr b] w fun e w' => e = .returned (.int .i64 (er S)) ∧ w = w' := by
  obtain ⟨t, ht⟩ := h
  obtain ⟨c0, c1, c2, _, _, _⟩ := three_cells ht
  clear ht c0 c2
  generalize er S = E at *
  go_enter Try.func9, Try.ntmps9
  go_wp2
  go_ret
  exact ⟨rfl, rfl⟩
set_option maxRecDepth 100000 in
theorem fkept_any {w : World} {b : Nat} {S : ByteArray} (h : FmAt w b S) (hs : S.size ≤ 1000000) : Calls Try.prog 10 #[ptr b] w fun e w' => e = .returned (.int .i64 ((kp S).size : Int)) ∧ w = w' := by
  have hk := kp_le S
  obtain ⟨t, ht⟩ := h
  obtain ⟨c0, c1, c2, _, _, _⟩ := three_cells ht
  have i1 : ((kp S).size : Int) ≤ 9223372036854775807 := by omega
  clear ht c1 c2 hk
  generalize kp S = K at *
  go_enter Try.func10, Try.ntmps10
  go_wp2
  go_ret
  exact ⟨rfl, rfl⟩
set_option maxRecDepth 100000 in
theorem ftold_any {w : World} {b : Nat} {S : ByteArray} (h : FmAt w b S) (hs : S.size ≤ 1000000) : Calls Try.prog 11 #[ptr b] w fun e w' => e = .returned (.int .i64 ((fs S).length : Int)) ∧ w = w' := by
  have hk := fs_len S
  obtain ⟨t, ht⟩ := h
  obtain ⟨c0, c1, c2, _, _, _⟩ := three_cells ht
  have i1 : IntKind.i64.wrap ((fs S).length : Int) = ((fs S).length : Int) := by rw [IntKind.wrap_i64]; omega
  clear ht c0 c1 hk
  generalize ((fs S).length : Int) = N at *
  go_enter Try.func11, Try.ntmps11
  go_wp2_with fail
  refine (aload_any c2).mono ?_
  rintro e w1 ⟨rfl, rfl⟩
  go_wp2
  go_ret
  exact ⟨rfl, rfl⟩
set_option maxRecDepth 100000 in
theorem ferr_nil (w : World) : Calls Try.prog 9 #[.pointer none] w fun e w' => e = .returned (.int .i64 1) ∧ w = w' := by
  go_enter Try.func9, Try.ntmps9
  go_wp2
  go_ret
  exact ⟨rfl, rfl⟩
set_option maxRecDepth 100000 in
theorem fkept_nil (w : World) : Calls Try.prog 10 #[.pointer none] w fun e w' => e = .returned (.int .i64 0) ∧ w = w' := by
  go_enter Try.func10, Try.ntmps10
  go_wp2
  go_ret
  exact ⟨rfl, rfl⟩
set_option maxRecDepth 100000 in
theorem ftold_nil (w : World) : Calls Try.prog 11 #[.pointer none] w fun e w' => e = .returned (.int .i64 0) ∧ w = w' := by
  go_enter Try.func11, Try.ntmps11
  go_wp2
  go_ret
  exact ⟨rfl, rfl⟩
set_option maxRecDepth 100000 in
theorem fpush_nil (w : World) (c : ByteArray) : Calls Try.prog 8 #[.pointer none, .string c] w fun e w' => e = .returned (.slice none 0 0) ∧ w = w' := by
  go_enter Try.func8, Try.ntmps8
  go_wp2_with fail
  refine (ferr_nil _).mono ?_
  rintro e w1 ⟨rfl, rfl⟩
  go_wp2
  go_ret
  exact ⟨rfl, rfl⟩

/-! ### Push -/
theorem none_frames (w : World) : FramesAt w none [] := fun i hi => absurd hi (Nat.not_lt_zero i)
set_option maxRecDepth 100000 in
theorem fpush_bad {w : World} {b : Nat} {S : ByteArray} (h : FmAt w b S) (h0 : er S ≠ 0) (c : ByteArray) :
    Calls Try.prog 8 #[ptr b, .string c] w fun e w' => e = .returned (.slice none 0 0) ∧ w = w' := by
  have y := ferr_any h
  have e0 : (er S != 0) = true := by simpa using h0
  clear h h0
  generalize er S = E at *
  go_enter Try.func8, Try.ntmps8
  go_wp2_with fail
  refine y.mono ?_
  rintro e w1 ⟨rfl, rfl⟩
  clear y
  go_wp2
  go_ret
  exact ⟨rfl, rfl⟩
set_option maxRecDepth 100000 in
set_option maxHeartbeats 4000000 in
theorem fpush_good {w : World} {b : Nat} {S : ByteArray} (h : FmAt w b S) (h0 : er S = 0) (c : ByteArray) (hs : S.size + c.size ≤ 1000000) :
    Calls Try.prog 8 #[ptr b, .string c] w fun e w' => ∃ ao cap, e = .returned (.slice ao (told9 S c).length cap) ∧ FramesAt w' ao (told9 S c) ∧ (∀ g off m, ao = some ⟨g, off, m⟩ → w.heap.size ≤ g) ∧ FmAt w' b (push9 S c) ∧ Keep1 b w w' := by
  have HB : b < w.heap.size := h.lt
  have y := ferr_any h
  rw [h0] at y
  obtain ⟨p1, p2, p3, p4⟩ := push_more h0 c
  have hk := kp_le S
  have hT : (kp S ++ c).size = (kp S).size + c.size := ByteArray.size_append
  have hl := lf_le (kp S ++ c)
  have hn := fs_len (kp S ++ c)
  have hm := fs_len S
  have HF : Hid (∀ (W : World) (t : TypeId), W.heap[b]? = some (.cells #[.string (kp (kp S ++ c)), .int .i64 (er (kp S ++ c)), .int .i64 (((fs S).length + (fs (kp S ++ c)).length : Nat) : Int)] t) → FmAt W b (push9 S c)) := by
    intro W t hW
    unfold FmAt
    rw [p2, p3, p4]
    exact ⟨t, hW⟩
  have ya : ∀ W, Calls Try.prog 20 #[.string (kp S ++ c)] W fun e w' => ∃ ao cap, e = .returned (.tuple #[.slice ao (fs (kp S ++ c)).length cap, .int .i64 (lf (kp S ++ c) : Int), .int .i64 (er (kp S ++ c))]) ∧
      FramesAt w' ao (fs (kp S ++ c)) ∧ (∀ b off m, ao = some ⟨b, off, m⟩ → W.heap.size ≤ b) ∧ Keep0 W w' := fun W => all8_any W (kp S ++ c) (by omega)
  rw [p1]
  obtain ⟨t, ht⟩ := h
  obtain ⟨c0, c1, c2, f0, f1, f2⟩ := three_cells ht
  have i1 : ¬ 9223372036854775807 < (kp S).size + c.size := by omega
  have HN : Hid ((fs S).length + (fs (kp S ++ c)).length ≤ 2000000) := by show _ ≤ _; omega
  obtain ⟨p, hp⟩ : ∃ p : Nat, p + lf (kp S ++ c) = (kp S ++ c).size := ⟨(kp S ++ c).size - lf (kp S ++ c), by omega⟩
  have i2 : ((kp S ++ c).size : Int) - (lf (kp S ++ c) : Int) = (p : Int) := by omega
  have i3 : IntKind.i64.wrap (p : Int) = p := by rw [IntKind.wrap_i64]; omega
  have i4 : p ≤ (kp S ++ c).size := by omega
  have i5 : ((kp S ++ c).size : Int) ≤ 9223372036854775807 := by omega
  have i6 : (p : Int) ≤ ((kp S ++ c).size : Int) := by omega
  have HK : Hid (er (kp S ++ c) = 0 → (kp S ++ c).extract p (kp S ++ c).size = kp (kp S ++ c)) := by
    intro e
    rw [kp_yes e]
    unfold tail
    rw [show (kp S ++ c).size - lf (kp S ++ c) = p from by omega]
  have HK' : Hid (er (kp S ++ c) ≠ 0 → kp (kp S ++ c) = ⟨#[]⟩) := kp_no
  have hZ : (kp S ++ c).extract (kp S ++ c).size (kp S ++ c).size = ⟨#[]⟩ := by
    apply ByteArray.ext
    apply Array.eq_empty_of_size_eq_zero
    show ((kp S ++ c).extract (kp S ++ c).size (kp S ++ c).size).size = 0
    rw [ByteArray.size_extract]
    omega
  have HZ : Hid ((kp (kp S ++ c)).size ≤ 1000000) := by
    have := kp_le (kp S ++ c)
    show _ ≤ _
    omega
  have i7 : ((fs (kp S ++ c)).length : Int) ≤ 9223372036854775807 := by omega
  have i8 : (fs (kp S ++ c)).length ≤ maxLen := by unfold maxLen; omega
  have HC : (kp S ++ c).size ≤ 1000000 := by omega
  generalize er S = E0 at *
  subst h0
  generalize hTT : kp S ++ c = T at *
  generalize kp S = K at *
  generalize fs T = FT at *
  generalize lf T = LT at *
  generalize hET : er T = ET at *
  generalize (fs S).length = N at *
  generalize kp T = KT at *
  clear p1 p2 p3 p4 hk hT hl hn hm hs hET hp
  go_enter Try.func8, Try.ntmps8
  go_wp2_with fail
  refine y.mono ?_
  rintro e w1 ⟨rfl, rfl⟩
  clear y
  go_wp2_with fail
  refine (ya _).mono ?_
  rintro e w2 ⟨ao, cap, rfl, fa, na, k2⟩
  have ht2 := (k2.block b HB (fun f => f)).trans ht
  obtain ⟨c0, c1, c2, f0, f1, f2⟩ := three_cells ht2
  clear ya hTT
  by_cases hE : ET = 0
  · have e0 : (ET != 0) = false := by simpa using hE
    have hx := HK.out hE
    clear HK HK' hZ hE
    go_wp2_with fail
    refine (clone_any _ _ (by have := HZ.out; omega)).mono ?_
    rintro e w3 ⟨rfl, k3⟩
    have ht3 := (k3.block b (Array.getElem?_eq_some_iff.mp ht2).1 (fun f => f)).trans ht2
    have K3 : Keep1 b w w3 := (k2.trans k3).any
    have fa3 := fa.keep0 k3
    have hA := heap_setCell_at (o := 0) ht3 (.string KT)
    have hB := heap_setCell_at (o := 1) hA (.int .i64 ET)
    obtain ⟨_, _, x2, _, _, y2⟩ := three_cells hB
    have hC := heap_setCell_at (o := 2) hB (.int .i64 ((N + FT.length : Nat) : Int))
    have hR := HF.out _ _ hC
    have hw : IntKind.i64.wrap ((N : Int) + (FT.length : Int)) = ((N + FT.length : Nat) : Int) := by
      have := HN.out
      rw [IntKind.wrap_i64]
      omega
    have HW : Hid (IntKind.i64.wrap ((N : Int) + (FT.length : Int)) = ((N + FT.length : Nat) : Int)) := hw
    have KC := ((K3.set1 0 (.string KT)).set1 1 (.int .i64 ET)).set1 2 (.int .i64 ((N + FT.length : Nat) : Int))
    have hap : Apart (fun k => k = b) ao := by
      intro g off m e hh
      have := na g off m e
      omega
    have ks : Keep1 b w3 _ := (((Keep.refl (fun k => k = b) w3).set1 0 (.string KT)).set1 1 (.int .i64 ET)).set1 2 (.int .i64 ((N + FT.length : Nat) : Int))
    have fC := fa3.keep ks hap
    obtain ⟨d0, d1, d2, g0, g1, g2⟩ := three_cells ht3
    clear hA hB hC fa3 ks hw ht3 k3 k2 ht2 fa hap K3
    go_wp2_with fail
    refine (aadd_any x2 y2 HW.out).mono ?_
    rintro e w4 ⟨rfl, rfl⟩
    go_wp2
    go_ret
    exact ⟨ao, cap, rfl, fC, na, hR, KC⟩
  · have e0 : (ET != 0) = true := by simpa using hE
    have hx := HK'.out hE
    subst hx
    clear HK HK' hE
    go_wp2_with fail
    refine (clone_any _ ⟨#[]⟩ (by decide)).mono ?_
    rintro e w3 ⟨rfl, k3⟩
    have ht3 := (k3.block b (Array.getElem?_eq_some_iff.mp ht2).1 (fun f => f)).trans ht2
    have K3 : Keep1 b w w3 := (k2.trans k3).any
    have fa3 := fa.keep0 k3
    have hA := heap_setCell_at (o := 0) ht3 (.string ⟨#[]⟩)
    have hB := heap_setCell_at (o := 1) hA (.int .i64 ET)
    obtain ⟨_, _, x2, _, _, y2⟩ := three_cells hB
    have hC := heap_setCell_at (o := 2) hB (.int .i64 ((N + FT.length : Nat) : Int))
    have hR := HF.out _ _ hC
    have hw : IntKind.i64.wrap ((N : Int) + (FT.length : Int)) = ((N + FT.length : Nat) : Int) := by
      have := HN.out
      rw [IntKind.wrap_i64]
      omega
    have HW : Hid (IntKind.i64.wrap ((N : Int) + (FT.length : Int)) = ((N + FT.length : Nat) : Int)) := hw
    have KC := ((K3.set1 0 (.string ⟨#[]⟩)).set1 1 (.int .i64 ET)).set1 2 (.int .i64 ((N + FT.length : Nat) : Int))
    have hap : Apart (fun k => k = b) ao := by
      intro g off m e hh
      have := na g off m e
      omega
    have ks : Keep1 b w3 _ := (((Keep.refl (fun k => k = b) w3).set1 0 (.string ⟨#[]⟩)).set1 1 (.int .i64 ET)).set1 2 (.int .i64 ((N + FT.length : Nat) : Int))
    have fC := fa3.keep ks hap
    obtain ⟨d0, d1, d2, g0, g1, g2⟩ := three_cells ht3
    clear hA hB hC fa3 ks hw ht3 k3 k2 ht2 fa hap K3
    go_wp2_with fail
    refine (aadd_any x2 y2 HW.out).mono ?_
    rintro e w4 ⟨rfl, rfl⟩
    go_wp2
    go_ret
    exact ⟨ao, cap, rfl, fC, na, hR, KC⟩
theorem fpush_any {w : World} {b : Nat} {S : ByteArray} (h : FmAt w b S) (c : ByteArray) (hs : S.size + c.size ≤ 1000000) :
    Calls Try.prog 8 #[ptr b, .string c] w fun e w' => ∃ ao cap, e = .returned (.slice ao (told9 S c).length cap) ∧ FramesAt w' ao (told9 S c) ∧ (∀ g off m, ao = some ⟨g, off, m⟩ → w.heap.size ≤ g) ∧ FmAt w' b (push9 S c) ∧ Keep1 b w w' := by
  by_cases h0 : er S = 0
  · exact fpush_good h h0 c hs
  · refine (fpush_bad h h0 c).mono ?_
    rintro e w' ⟨rfl, rfl⟩
    rw [told_no h0, push_no h0]
    exact ⟨none, 0, rfl, none_frames _, (fun _ _ _ e => by cases e), h, Keep.refl _ _⟩
end Go.Proofs.Ytmgfalkelembkaa
