/-
  Contracts of the document's own framer (Push, Err, Kept), each proved over this seat's translation.
  Conditions: all that it was given takes at most 1,000,000 bytes.
-/
import Derived.Test.YtmgfalkelembkaaFramerRun
namespace Go.Proofs.Ytmgfalkelembkaa
open Go.RowKit

/-- The document's framer in block b, behind all that counts of what it was given. -/
def RmAt (w : World) (b : Nat) (S : ByteArray) : Prop := ∃ t, w.heap[b]? = some (.cells #[.string S, .int .i64 ((fs S).length : Int), .bool (er S != 0)] t)
theorem RmAt.lt {w : World} {b : Nat} {S : ByteArray} (h : RmAt w b S) : b < w.heap.size := by
  obtain ⟨t, ht⟩ := h
  exact (Array.getElem?_eq_some_iff.mp ht).1
theorem RmAt.keep {R : Nat → Prop} {w w' : World} {b : Nat} {S : ByteArray} (h : RmAt w b S) (k : Keep R w w') (hn : ¬ R b) : RmAt w' b S := by
  obtain ⟨t, ht⟩ := h
  exact ⟨t, by rw [k.block b (Array.getElem?_eq_some_iff.mp ht).1 hn]; exact ht⟩
theorem RmAt.keep0 {w w' : World} {b : Nat} {S : ByteArray} (h : RmAt w b S) (k : Keep0 w w') : RmAt w' b S := h.keep k (fun f => f)
theorem RmAt.new (w : World) (t : TypeId) : RmAt (w.alloc (.cells #[.string ⟨#[]⟩, .int .i64 0, .bool false] t)) w.heap.size ⟨#[]⟩ := by
  unfold RmAt
  rw [nil_er, nil_fs]
  exact ⟨t, (MapKept.heap_alloc w _).1⟩
theorem frames_drop {w : World} {ao : Option Addr} {l : List Fr} {N ca : Nat} (h : FramesAt w ao l) (hc : l.length ≤ ca) : FramesAt w (if ca = N then ao else ao.map (fun a => a.add (N * 3))) (l.drop N) := by
  intro i hi
  rw [List.length_drop] at hi
  rw [if_neg (by omega)]
  obtain ⟨b, off, rfl, h0, h1, h2⟩ := h (N + i) (by omega)
  refine ⟨b, off + N * 3, by rw [Option.map_some, add_plain], ?_⟩
  rw [List.getElem_drop]
  rw [Nat.add_mul, ← Nat.add_assoc] at h0 h1 h2
  exact ⟨h0, h1, h2⟩
set_option maxRecDepth 100000 in
theorem rerr_any {w : World} {b : Nat} {S : ByteArray} (h : RmAt w b S) (hs : S.size ≤ 1000000) : Calls Try.prog 15 #[ptr b] w fun e w' => e = .returned (.int .i64 (er S)) ∧ Keep0 w w' := by
  have ya := fun W => rall8_any W S hs
  obtain ⟨t, ht⟩ := h
  obtain ⟨c0, c1, c2, _, _, _⟩ := three_cells ht
  have he : (sAll S).2.2 = er S := rfl
  rw [he] at ya
  generalize er S = E at *
  generalize (sAll S).1 = A at *
  generalize (sAll S).2.1 = L at *
  clear ht c1 c2 he
  go_enter Try.func15, Try.ntmps15
  go_wp2_with fail
  refine (ya _).mono ?_
  rintro e w2 ⟨ao, ca, bo, cb, rfl, x1, x2, k2, x3⟩
  clear ya x1 x2 x3
  go_wp2
  go_ret
  exact ⟨rfl, k2⟩
set_option maxRecDepth 100000 in
theorem rkept_any {w : World} {b : Nat} {S : ByteArray} (h : RmAt w b S) (hs : S.size ≤ 1000000) : Calls Try.prog 16 #[ptr b] w fun e w' => e = .returned (.int .i64 ((kp S).size : Int)) ∧ Keep0 w w' := by
  have ya := fun W => rall8_any W S hs
  obtain ⟨t, ht⟩ := h
  obtain ⟨c0, c1, c2, _, _, _⟩ := three_cells ht
  rw [kp_size]
  have he : (sAll S).2.1 = lf S := rfl
  rw [he] at ya
  by_cases h0 : er S = 0
  · rw [if_pos h0]
    have e0 : (er S != 0) = false := by simpa using h0
    rw [e0] at c2
    generalize lf S = L at *
    generalize (sAll S).1 = A at *
    generalize (sAll S).2.2 = E at *
    clear ht c1 he h0 e0
    go_enter Try.func16, Try.ntmps16
    go_wp2_with fail
    refine (ya _).mono ?_
    rintro e w2 ⟨ao, ca, bo, cb, rfl, x1, x2, k2, x3⟩
    clear ya x1 x2 x3
    go_wp2
    go_ret
    exact ⟨rfl, k2⟩
  · rw [if_neg h0]
    have e0 : (er S != 0) = true := by simpa using h0
    rw [e0] at c2
    clear ht c1 he h0 e0 ya
    go_enter Try.func16, Try.ntmps16
    go_wp2
    go_ret
    exact ⟨rfl, Keep.refl _ _⟩
set_option maxRecDepth 100000 in
theorem rpush_bad {w : World} {b : Nat} {S : ByteArray} (h : RmAt w b S) (h0 : er S ≠ 0) (c : ByteArray) :
    Calls Try.prog 14 #[ptr b, .string c] w fun e w' => e = .returned (.slice none 0 0) ∧ w = w' := by
  obtain ⟨t, ht⟩ := h
  obtain ⟨c0, c1, c2, _, _, _⟩ := three_cells ht
  have e0 : (er S != 0) = true := by simpa using h0
  rw [e0] at c2
  clear ht c1 c0 h0 e0
  go_enter Try.func14, Try.ntmps14
  go_wp2
  go_ret
  exact ⟨rfl, rfl⟩
set_option maxRecDepth 100000 in
set_option maxHeartbeats 4000000 in
theorem rpush_good {w : World} {b : Nat} {S : ByteArray} (h : RmAt w b S) (h0 : er S = 0) (c : ByteArray) (hs : S.size + c.size ≤ 1000000) :
    Calls Try.prog 14 #[ptr b, .string c] w fun e w' => ∃ ao cap, e = .returned (.slice ao (told9 S c).length cap) ∧ FramesAt w' ao (told9 S c) ∧ (∀ g off m, ao = some ⟨g, off, m⟩ → w.heap.size ≤ g) ∧ RmAt w' b (push9 S c) ∧ Keep1 b w w' := by
  have HB : b < w.heap.size := h.lt
  obtain ⟨t, ht⟩ := h
  obtain ⟨c0, c1, c2, f0, f1, f2⟩ := three_cells ht
  have e0 : (er S != 0) = false := by simpa using h0
  rw [e0] at c2 ht
  have hsz : (S ++ c).size = S.size + c.size := ByteArray.size_append
  have ya : ∀ W, Calls Try.prog 17 #[.string (S ++ c)] W (RAll (sAll (S ++ c)).1 (sAll (S ++ c)).2.1 (er (S ++ c)) W) := fun W => rall8_any W (S ++ c) (by omega)
  have HS0 : Hid ((S ++ c).size ≤ 1000000) := by show _ ≤ _; omega
  have hp : push9 S c = S ++ c := push_yes h0 c
  have hf := push_fs S c
  have hn := fs_len (S ++ c)
  have hd : told9 S c = (fs (S ++ c)).drop (fs S).length := by unfold told9; rw [hp]
  rw [hp] at hf
  have hlen : (fs S).length + (told9 S c).length = (fs (S ++ c)).length := by rw [hf, List.length_append]
  have HF : Hid (∀ (W : World) (t : TypeId), W.heap[b]? = some (.cells #[.string (S ++ c), .int .i64 ((fs (S ++ c)).length : Int), .bool (er (S ++ c) != 0)] t) → RmAt W b (push9 S c)) := by
    intro W t hW
    unfold RmAt
    rw [hp]
    exact ⟨t, hW⟩
  have hA := heap_setCell_at (o := 0) ht (.string (S ++ c))
  have KA : Keep1 b w _ := (Keep.refl (fun k => k = b) w).set1 0 (.string (S ++ c))
  obtain ⟨a0, a1, a2, _, _, _⟩ := three_cells hA
  have i1 : ¬ 9223372036854775807 < S.size + c.size := by omega
  have HD : Hid (told9 S c = (fs (S ++ c)).drop (fs S).length) := hd
  have hfr : frsOf (sAll (S ++ c)).1 = fs (S ++ c) := rfl
  have HR : Hid (frsOf (sAll (S ++ c)).1 = fs (S ++ c)) := hfr
  generalize told9 S c = TD at *
  generalize push9 S c = PS at *
  generalize hT : S ++ c = T at *
  generalize fs T = FT at *
  generalize er T = ET at *
  generalize fs S = FS at *
  generalize (sAll T).1 = AT at *
  generalize (sAll T).2.1 = LT at *
  clear h0 e0 hp hf hd hfr hs
  go_enter Try.func14, Try.ntmps14
  go_wp2_with fail
  refine (ya _).mono ?_
  rintro e w2 ⟨ao, ca, bo, cb, rfl, x1, x2, k2, x3⟩
  have hR := HR.out
  subst hR
  have hlt2 : b < (w.setCell ⟨b, 0, none⟩ (.string T)).heap.size := (Array.getElem?_eq_some_iff.mp hA).1
  have ht2 := (k2.block b hlt2 (fun f => f)).trans hA
  have K2 : Keep1 b w w2 := KA.step0 k2
  have kW : Keep0 w2 (w2.alloc (.cells #[] 46)) := (Keep.refl _ w2).alloc _
  have hoW : (w2.alloc (.cells #[] 46)).ownsRow w2.heap.size 46 3 (.slice (some ⟨w2.heap.size, 0, none⟩) 0 0) ([] : List Fr).length (frCells []) := by
    refine ⟨rfl, .inr ⟨w2.heap.size, 0, #[], rfl, Nat.le_refl _, (MapKept.heap_alloc w2 _).1, Nat.le_refl _, Nat.zero_le _, rfl, rfl⟩⟩
  have xW := frames_drop (N := FS.length) (x1.keep0 kW) x3
  rw [← HD.out] at xW
  have htW := (kW.block b (Array.getElem?_eq_some_iff.mp ht2).1 (fun f => f)).trans ht2
  obtain ⟨d0, d1, d2, g0, g1, g2⟩ := three_cells htW
  have i3 : (FS.length : Int) ≤ (frsOf AT).length := by omega
  have i4 : (frsOf AT).length - FS.length = TD.length := by omega
  have zW : w2.heap.size ≤ (w2.alloc (.cells #[] 46)).heap.size := kW.size
  have HL : Hid (([] : List Fr).length + TD.length ≤ 1000000) := by have := HS0.out; show 0 + TD.length ≤ _; omega
  clear ya x1 x2 x3 hA a0 a1 a2 c0 c1 c2 f0 f1 f2
  go_wp2_with (at_builtin; refine wpList_append_frames rfl _ _ rfl rfl rfl hoW xW zW HL.out ?_)
  all_goals
    intro v' w3 ho3 hg
    have K23 : Keep0 w2 w3 := kW.grow0 hg (fun k hk => by cases hk; exact Nat.le_refl _)
    have K3 : Keep1 b w w3 := K2.step0 K23
    have ht3 := (K23.block b (Array.getElem?_eq_some_iff.mp ht2).1 (fun f => f)).trans ht2
    have z2 := K2.size
    obtain ⟨po, pc, rfl, fp, np⟩ := frames_of_row ho3
    have hS1 := heap_setCell_at (o := 1) ht3 (.int .i64 ((frsOf AT).length : Int))
    have hS2 := heap_setCell_at (o := 2) hS1 (.bool (ET != 0))
    have hRm := HF.out _ _ hS2
    have KS := (K3.set1 1 (.int .i64 ((frsOf AT).length : Int))).set1 2 (.bool (ET != 0))
    have ks := ((Keep.refl (fun k => k = b) w3).set1 1 (.int .i64 ((frsOf AT).length : Int))).set1 2 (.bool (ET != 0))
    have fS := fp.keep ks (fun g off m e hh => by have := np g off m e; omega)
    obtain ⟨q0, q1, q2, r0, r1, r2⟩ := three_cells ht3
    clear hS1 hS2 ks fp ho3 hg hoW xW htW d0 d1 d2 g0 g1 g2 kW K23 ht2 k2 K2 KA
    go_wp2
    go_ret
    exact ⟨po, pc, rfl, fS, fun g off m e => by have := np g off m e; omega, hRm, KS⟩
theorem rpush_any {w : World} {b : Nat} {S : ByteArray} (h : RmAt w b S) (c : ByteArray) (hs : S.size + c.size ≤ 1000000) :
    Calls Try.prog 14 #[ptr b, .string c] w fun e w' => ∃ ao cap, e = .returned (.slice ao (told9 S c).length cap) ∧ FramesAt w' ao (told9 S c) ∧ (∀ g off m, ao = some ⟨g, off, m⟩ → w.heap.size ≤ g) ∧ RmAt w' b (push9 S c) ∧ Keep1 b w w' := by
  by_cases h0 : er S = 0
  · exact rpush_good h h0 c hs
  · refine (rpush_bad h h0 c).mono ?_
    rintro e w' ⟨rfl, rfl⟩
    rw [told_no h0, push_no h0]
    exact ⟨none, 0, rfl, none_frames _, (fun _ _ _ e => by cases e), h, Keep.refl _ _⟩
end Go.Proofs.Ytmgfalkelembkaa
