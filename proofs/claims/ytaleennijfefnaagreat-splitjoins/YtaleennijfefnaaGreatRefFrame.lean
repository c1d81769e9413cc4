/-
  Contracts of the document's own frames (the statements' reference of layer 7), each proved over this seat's translation.
  Conditions: a text takes at most the greatest length that a string may have.
-/
import Derived.Test.YtaleennijfefnaaGreatFrame
import Derived.Test.YtaleennijfefnaaGreatFixPut
import Derived.Test.YtaleennijfefnaaGreatRefBlob
import Derived.Test.YtaleennijfefnaaGreatRefCrc
import Derived.Deep.RegionWith
import Derived.Laws.Rows
namespace Go.Proofs.YtaleennijfefnaaGreat
open Go.RowKit

/-- A frame in memory. -/
structure FrAt (w : World) (g : Nat) (v k : Int) (t : ByteArray) : Prop where
  blk : ∃ ty, w.heap[g]? = some (.cells #[.int .u8 v, .int .u8 k, .string t] ty)
theorem FrAt.lt {w : World} {g : Nat} {v k : Int} {t : ByteArray} (h : FrAt w g v k t) : g < w.heap.size := by
  obtain ⟨ty, hk⟩ := h.blk
  exact (Array.getElem?_eq_some_iff.mp hk).1
theorem FrAt.cells {w : World} {g : Nat} {v k : Int} {t : ByteArray} (h : FrAt w g v k t) :
    w.cell? ⟨g, 0, none⟩ = some (.int .u8 v) ∧ w.cell? ⟨g, 1, none⟩ = some (.int .u8 k) ∧ w.cell? ⟨g, 2, none⟩ = some (.string t) ∧ w.frozen? ⟨g, 0, none⟩ = false ∧ w.frozen? ⟨g, 1, none⟩ = false ∧ w.frozen? ⟨g, 2, none⟩ = false := by
  obtain ⟨ty, hk⟩ := h.blk
  simp [World.cell?, World.frozen?, hk]
theorem FrAt.keep {R : Nat → Prop} {w w' : World} {g : Nat} {v k : Int} {t : ByteArray} (h : FrAt w g v k t) (K : Keep R w w') (hn : ¬ R g) : FrAt w' g v k t := by
  obtain ⟨ty, hk⟩ := h.blk
  exact ⟨ty, by rw [K.block g h.lt hn]; exact hk⟩
theorem FrAt.keep0 {w w' : World} {g : Nat} {v k : Int} {t : ByteArray} (h : FrAt w g v k t) (K : Keep0 w w') : FrAt w' g v k t := h.keep K (fun f => f)
theorem FrAt.new (w : World) (v k : Int) (t : ByteArray) (ty : TypeId) : FrAt (w.alloc (.cells #[.int .u8 v, .int .u8 k, .string t] ty)) w.heap.size v k t := ⟨ty, (MapKept.heap_alloc w _).1⟩
theorem FrAt.put {w : World} {g : Nat} {v k : Int} {t : ByteArray} (h : FrAt w g v k t) (v' k' : Int) (t' : ByteArray) :
    FrAt (((w.setCell ⟨g, 0, none⟩ (.int .u8 v')).setCell ⟨g, 1, none⟩ (.int .u8 k')).setCell ⟨g, 2, none⟩ (.string t')) g v' k' t' := by
  obtain ⟨ty, hk⟩ := h.blk
  exact ⟨ty, by rw [heap_setCell_at (heap_setCell_at (heap_setCell_at hk _) _)]; rfl⟩
theorem FrAt.put_keep (w : World) (g : Nat) (v' k' : Int) (t' : ByteArray) : Keep1 g w (((w.setCell ⟨g, 0, none⟩ (.int .u8 v')).setCell ⟨g, 1, none⟩ (.int .u8 k')).setCell ⟨g, 2, none⟩ (.string t')) :=
  (((Keep.refl _ w).set1 _ _).set1 _ _).set1 _ _
/-- A frame that is answered alone. -/
theorem retFr {fn : Func} {p : Tmp} (h : fn.results = #[.cell p 31]) (tmps : Array Value) (w : World) (g : Nat) {v k : Int} {t : ByteArray}
    (hp : tmps.getD p undef = .pointer (some ⟨g, 0, none⟩)) (hg : FrAt w g v k t) : (results fn tmps).run Tryz.prog w = .ok (fr v k t) w := by
  obtain ⟨ty, hk⟩ := hg.blk
  exact results_cell_row h tmps w g ty _ _ _ hp hk Tryz.underlying31 rfl (by kernel_rfl)
/-- A frame that is answered with two others. -/
theorem retFr3 {fn : Func} {p u z : Tmp} (h : fn.results = #[.cell p 31, .tmp u, .tmp z]) (tmps : Array Value) (w : World) (g : Nat) {v k : Int} {t : ByteArray}
    (hp : tmps.getD p undef = .pointer (some ⟨g, 0, none⟩)) (hg : FrAt w g v k t) : (results fn tmps).run Tryz.prog w = .ok (.tuple #[fr v k t, tmps.getD u undef, tmps.getD z undef]) w := by
  obtain ⟨ty, hk⟩ := hg.blk
  have hp' : tmps[p]?.getD undef = .pointer (some ⟨g, 0, none⟩) := by simpa using hp
  have hl := run_loadVar_row w g ty 31 _ _ _ hk Tryz.underlying31 rfl (by kernel_rfl)
  simp [results, h, hp', asAddr, hl]
  rfl

/-! ### readings with an error -/
theorem cAt_ge (s : ByteArray) (a x n : Int) : a ≤ cAt s a x n := by unfold cAt; split <;> omega
theorem tAt_ge (s : ByteArray) (a x : Int) : a ≤ tAt s a x := by unfold tAt; split <;> omega
theorem q5A_ge (s : ByteArray) (a : Int) : a ≤ q5A s a := by
  have h1 := cAt_ge s a 0 1
  have h2 := tAt_ge s (q4A s a) (q4E s a)
  have h3 := cAt_ge s (tAt s (q4A s a) (q4E s a)) (kErr s (q4A s a) (q4E s a) 65536) (kNum s (q4A s a) (q4E s a) 65536)
  exact Int.le_trans h1 (Int.le_trans h2 h3)
theorem rbyte_bad {w : World} {b : Nat} {s : ByteArray} {a x : Int} (h : Cur w b s a x) (hx : x ≠ 0) : Calls Tryz.prog 30 #[ptr b] w fun e w' => e = .returned (.int .i64 0) ∧ Cur w' b s a x ∧ Keep1 b w w' := by
  have := rbyte_any h
  rwa [cByte_bad hx, cAt_bad _ hx, cErr_bad _ hx] at this
theorem rblob_bad {w : World} {b : Nat} {s : ByteArray} {a x : Int} (h : Cur w b s a x) (hx : x ≠ 0) : Calls Tryz.prog 31 #[ptr b, .int .i64 65536] w fun e w' => e = .returned (.string ⟨#[]⟩) ∧ Cur w' b s a x ∧ Keep1 b w w' := by
  have := rblob_any 65536 (by decide) h
  obtain ⟨e1, e2, e3⟩ := b_bad (s := s) (a := a) 65536 hx
  rwa [e1, e2, e3] at this
theorem rtake4_bad {w : World} {b : Nat} {s : ByteArray} {a x : Int} (h : Cur w b s a x) (hx : x ≠ 0) : Calls Tryz.prog 32 #[ptr b, .int .i64 4] w fun e w' => e = .returned (.int .u64 0) ∧ Cur w' b s a x ∧ Keep1 b w w' := by
  have := rtake4_any 4 h
  obtain ⟨e1, e2, e3⟩ := f_bad (s := s) (a := a) hx
  rwa [e1, e2, e3] at this
set_option maxRecDepth 100000 in
set_option maxHeartbeats 4000000 in
theorem rtake7_A1 {w : World} {b : Nat} {s : ByteArray} {a x : Int} (h : Cur w b s a x) (gb : mE s a x 215 ≠ 0) (gc : cErr s a x 1 ≠ 0) (ge : mE s a x 215 = cErr s a x 1) (gz : cByte s a x = 0) :
    Calls Tryz.prog 19 #[ptr b] w fun e w' => e = .returned (qFr s a x) ∧ Cur w' b s (qAt s a x) (qErr s a x) ∧ Keep1 b w w' := by
  have hlt := h.lt
  have r0 := FrAt.new w 0 0 ⟨#[]⟩ 31
  have k0 : Keep0 w (w.alloc (.cells #[.int .u8 0, .int .u8 0, .string ⟨#[]⟩] 31)) := (Keep.refl _ w).alloc _
  have h0 := h.keep0 k0
  have K0 : Keep1 b w _ := k0.any
  clear h k0
  obtain ⟨q1, q2⟩ := q_A gb
  rw [qFr_no (by rw [q1]; exact gb), q1, q2, ge]
  clear q1 q2 gb ge
  have y0 := fun W (h : Cur W b s a x) => rbyte_any h
  rw [gz] at y0
  clear gz
  generalize cErr s a x 1 = E at *
  generalize cAt s a x 1 = A at *
  have e1 : (E == 0) = false := by simpa using gc
  have e2 : (E != 0) = true := by simpa using gc
  go_enter Tryz.func19, Tryz.ntmps19
  go_wp2_with fail
  generalize hW0 : w.alloc (.cells #[.int .u8 0, .int .u8 0, .string ⟨#[]⟩] 31) = W0 at *
  clear hW0
  refine (y0 _ h0).mono ?_
  rintro e w1 ⟨rfl, h1, k1⟩
  have K1 := K0.trans k1
  have r1 := r0.keep k1 (by omega)
  obtain ⟨c0, c1, c2, c3, c4⟩ := h1.cells
  go_wp2_with fail
  clear c0 c1 c2 c3 c4
  refine (rbyte_bad h1 gc).mono ?_
  rintro e w2 ⟨rfl, h2, k2⟩
  have K2 := K1.trans k2
  have r2 := r1.keep k2 (by omega)
  obtain ⟨c0, c1, c2, c3, c4⟩ := h2.cells
  go_wp2_with fail
  clear c0 c1 c2 c3 c4
  refine (rbyte_bad h2 gc).mono ?_
  rintro e w3 ⟨rfl, h3, k3⟩
  have K3 := K2.trans k3
  have r3 := r2.keep k3 (by omega)
  obtain ⟨c0, c1, c2, c3, c4⟩ := h3.cells
  go_wp2_with fail
  clear c0 c1 c2 c3 c4
  refine (rbyte_bad h3 gc).mono ?_
  rintro e w4 ⟨rfl, h4, k4⟩
  have K4 := K3.trans k4
  have r4 := r3.keep k4 (by omega)
  go_wp2_with fail
  refine (rblob_bad h4 gc).mono ?_
  rintro e w5 ⟨rfl, h5, k5⟩
  have K5 := K4.trans k5
  have r5 := r4.keep k5 (by omega)
  obtain ⟨c0, c1, c2, c3, c4⟩ := h5.cells
  go_wp2_with fail
  clear c0 c1 c2 c3 c4
  refine (rtake4_bad h5 gc).mono ?_
  rintro e w6 ⟨rfl, h6, k6⟩
  have K6 := K5.trans k6
  have r6 := r5.keep k6 (by omega)
  obtain ⟨c0, c1, c2, c3, c4⟩ := h6.cells
  obtain ⟨d0, d1, d2, d3, d4, d5⟩ := r6.cells
  go_wp2
  refine bodyPost_ret (retFr rfl _ _ _ rfl (r6.put 0 0 ⟨#[]⟩)) rfl ?_
  exact ⟨rfl, h6.keep (FrAt.put_keep _ _ 0 0 ⟨#[]⟩) (by omega), K6.step1 (FrAt.put_keep _ _ 0 0 ⟨#[]⟩) (Nat.le_refl _)⟩
set_option maxRecDepth 100000 in
set_option maxHeartbeats 4000000 in
theorem rtake7_A2 {w : World} {b : Nat} {s : ByteArray} {a x : Int} (h : Cur w b s a x) (gb : mE s a x 215 ≠ 0) (gc : cErr s a x 1 = 0) (gn : cByte s a x ≠ 215) (ge : mE s a x 215 = 9) :
    Calls Tryz.prog 19 #[ptr b] w fun e w' => e = .returned (qFr s a x) ∧ Cur w' b s (qAt s a x) (qErr s a x) ∧ Keep1 b w w' := by
  have hlt := h.lt
  have r0 := FrAt.new w 0 0 ⟨#[]⟩ 31
  have k0 : Keep0 w (w.alloc (.cells #[.int .u8 0, .int .u8 0, .string ⟨#[]⟩] 31)) := (Keep.refl _ w).alloc _
  have h0 := h.keep0 k0
  have K0 : Keep1 b w _ := k0.any
  clear h k0
  obtain ⟨q1, q2⟩ := q_A gb
  rw [qFr_no (by rw [q1]; exact gb), q1, q2, ge]
  clear q1 q2 gb ge
  have y0 := fun W (h : Cur W b s a x) => rbyte_any h
  rw [gc] at y0
  clear gc
  generalize cByte s a x = B at *
  generalize cAt s a x 1 = A at *
  have e1 : (B != 215) = true := by simpa using gn
  clear gn
  go_enter Tryz.func19, Tryz.ntmps19
  go_wp2_with fail
  generalize hW0 : w.alloc (.cells #[.int .u8 0, .int .u8 0, .string ⟨#[]⟩] 31) = W0 at *
  clear hW0
  refine (y0 _ h0).mono ?_
  rintro e w1 ⟨rfl, h1, k1⟩
  have K1 := K0.trans k1
  have r1 := r0.keep k1 (by omega)
  obtain ⟨c0, c1, c2, c3, c4⟩ := h1.cells
  go_wp2_with fail
  clear c0 c1 c2 c3 c4
  have h2 := h1.setErr 9
  have K2 := K1.set1 2 (.int .i64 9)
  have r2 := r1.keep ((Keep.refl (fun k => k = b) w1).set1 2 (.int .i64 9)) (by omega)
  generalize w1.setCell ⟨b, 2, none⟩ (.int .i64 9) = w2 at *
  refine (rbyte_bad h2 (by decide)).mono ?_
  rintro e w3 ⟨rfl, h3, k3⟩
  have K3 := K2.trans k3
  have r3 := r2.keep k3 (by omega)
  obtain ⟨c0, c1, c2, c3, c4⟩ := h3.cells
  go_wp2_with fail
  clear c0 c1 c2 c3 c4
  refine (rbyte_bad h3 (by decide)).mono ?_
  rintro e w4 ⟨rfl, h4, k4⟩
  have K4 := K3.trans k4
  have r4 := r3.keep k4 (by omega)
  obtain ⟨c0, c1, c2, c3, c4⟩ := h4.cells
  go_wp2_with fail
  clear c0 c1 c2 c3 c4
  refine (rbyte_bad h4 (by decide)).mono ?_
  rintro e w5 ⟨rfl, h5, k5⟩
  have K5 := K4.trans k5
  have r5 := r4.keep k5 (by omega)
  go_wp2_with fail
  refine (rblob_bad h5 (by decide)).mono ?_
  rintro e w6 ⟨rfl, h6, k6⟩
  have K6 := K5.trans k6
  have r6 := r5.keep k6 (by omega)
  obtain ⟨c0, c1, c2, c3, c4⟩ := h6.cells
  go_wp2_with fail
  clear c0 c1 c2 c3 c4
  refine (rtake4_bad h6 (by decide)).mono ?_
  rintro e w7 ⟨rfl, h7, k7⟩
  have K7 := K6.trans k7
  have r7 := r6.keep k7 (by omega)
  obtain ⟨c0, c1, c2, c3, c4⟩ := h7.cells
  obtain ⟨d0, d1, d2, d3, d4, d5⟩ := r7.cells
  go_wp2
  refine bodyPost_ret (retFr rfl _ _ _ rfl (r7.put 0 0 ⟨#[]⟩)) rfl ?_
  exact ⟨rfl, h7.keep (FrAt.put_keep _ _ 0 0 ⟨#[]⟩) (by omega), K7.step1 (FrAt.put_keep _ _ 0 0 ⟨#[]⟩) (Nat.le_refl _)⟩
set_option maxRecDepth 100000 in
set_option maxHeartbeats 4000000 in
theorem rtake7_B1 {w : World} {b : Nat} {s : ByteArray} {a x : Int} (h : Cur w b s a x) (g0 : mE s a x 215 = 0) (gb : mE s (a + 1) 0 78 ≠ 0) (gc : cErr s (a + 1) 0 1 ≠ 0) (ge : mE s (a + 1) 0 78 = cErr s (a + 1) 0 1) (gz : cByte s (a + 1) 0 = 0) :
    Calls Tryz.prog 19 #[ptr b] w fun e w' => e = .returned (qFr s a x) ∧ Cur w' b s (qAt s a x) (qErr s a x) ∧ Keep1 b w w' := by
  have hlt := h.lt
  have r0 := FrAt.new w 0 0 ⟨#[]⟩ 31
  have k0 : Keep0 w (w.alloc (.cells #[.int .u8 0, .int .u8 0, .string ⟨#[]⟩] 31)) := (Keep.refl _ w).alloc _
  have h0 := h.keep0 k0
  have K0 : Keep1 b w _ := k0.any
  clear h k0
  obtain ⟨q1, q2⟩ := q_B g0 gb
  rw [qFr_no (by rw [q1]; exact gb), q1, q2, ge]
  clear q1 q2 gb ge
  obtain ⟨rfl, z1, z2, z3⟩ := mE_zero g0
  have y0 := fun W (h : Cur W b s a 0) => rbyte_any h
  rw [z2, z1, z3] at y0
  clear z1 z2 z3
  have y1 := fun W (h : Cur W b s (a + 1) 0) => rbyte_any h
  rw [gz] at y1
  clear gz
  generalize cErr s (a + 1) 0 1 = E at *
  generalize cAt s (a + 1) 0 1 = A at *
  have e1 : (E == 0) = false := by simpa using gc
  have e2 : (E != 0) = true := by simpa using gc
  go_enter Tryz.func19, Tryz.ntmps19
  go_wp2_with fail
  generalize hW0 : w.alloc (.cells #[.int .u8 0, .int .u8 0, .string ⟨#[]⟩] 31) = W0 at *
  clear hW0
  refine (y0 _ h0).mono ?_
  rintro e w1 ⟨rfl, h1, k1⟩
  have K1 := K0.trans k1
  have r1 := r0.keep k1 (by omega)
  obtain ⟨c0, c1, c2, c3, c4⟩ := h1.cells
  go_wp2_with fail
  clear c0 c1 c2 c3 c4
  refine (y1 _ h1).mono ?_
  rintro e w2 ⟨rfl, h2, k2⟩
  have K2 := K1.trans k2
  have r2 := r1.keep k2 (by omega)
  obtain ⟨c0, c1, c2, c3, c4⟩ := h2.cells
  go_wp2_with fail
  clear c0 c1 c2 c3 c4
  refine (rbyte_bad h2 gc).mono ?_
  rintro e w3 ⟨rfl, h3, k3⟩
  have K3 := K2.trans k3
  have r3 := r2.keep k3 (by omega)
  obtain ⟨c0, c1, c2, c3, c4⟩ := h3.cells
  go_wp2_with fail
  clear c0 c1 c2 c3 c4
  refine (rbyte_bad h3 gc).mono ?_
  rintro e w4 ⟨rfl, h4, k4⟩
  have K4 := K3.trans k4
  have r4 := r3.keep k4 (by omega)
  go_wp2_with fail
  refine (rblob_bad h4 gc).mono ?_
  rintro e w5 ⟨rfl, h5, k5⟩
  have K5 := K4.trans k5
  have r5 := r4.keep k5 (by omega)
  obtain ⟨c0, c1, c2, c3, c4⟩ := h5.cells
  go_wp2_with fail
  clear c0 c1 c2 c3 c4
  refine (rtake4_bad h5 gc).mono ?_
  rintro e w6 ⟨rfl, h6, k6⟩
  have K6 := K5.trans k6
  have r6 := r5.keep k6 (by omega)
  obtain ⟨c0, c1, c2, c3, c4⟩ := h6.cells
  obtain ⟨d0, d1, d2, d3, d4, d5⟩ := r6.cells
  go_wp2
  refine bodyPost_ret (retFr rfl _ _ _ rfl (r6.put 0 0 ⟨#[]⟩)) rfl ?_
  exact ⟨rfl, h6.keep (FrAt.put_keep _ _ 0 0 ⟨#[]⟩) (by omega), K6.step1 (FrAt.put_keep _ _ 0 0 ⟨#[]⟩) (Nat.le_refl _)⟩
set_option maxRecDepth 100000 in
set_option maxHeartbeats 4000000 in
theorem rtake7_B2 {w : World} {b : Nat} {s : ByteArray} {a x : Int} (h : Cur w b s a x) (g0 : mE s a x 215 = 0) (gb : mE s (a + 1) 0 78 ≠ 0) (gc : cErr s (a + 1) 0 1 = 0) (gn : cByte s (a + 1) 0 ≠ 78) (ge : mE s (a + 1) 0 78 = 9) :
    Calls Tryz.prog 19 #[ptr b] w fun e w' => e = .returned (qFr s a x) ∧ Cur w' b s (qAt s a x) (qErr s a x) ∧ Keep1 b w w' := by
  have hlt := h.lt
  have r0 := FrAt.new w 0 0 ⟨#[]⟩ 31
  have k0 : Keep0 w (w.alloc (.cells #[.int .u8 0, .int .u8 0, .string ⟨#[]⟩] 31)) := (Keep.refl _ w).alloc _
  have h0 := h.keep0 k0
  have K0 : Keep1 b w _ := k0.any
  clear h k0
  obtain ⟨q1, q2⟩ := q_B g0 gb
  rw [qFr_no (by rw [q1]; exact gb), q1, q2, ge]
  clear q1 q2 gb ge
  obtain ⟨rfl, z1, z2, z3⟩ := mE_zero g0
  have y0 := fun W (h : Cur W b s a 0) => rbyte_any h
  rw [z2, z1, z3] at y0
  clear z1 z2 z3
  have y1 := fun W (h : Cur W b s (a + 1) 0) => rbyte_any h
  rw [gc] at y1
  clear gc
  generalize cByte s (a + 1) 0 = B at *
  generalize cAt s (a + 1) 0 1 = A at *
  have e1 : (B != 78) = true := by simpa using gn
  clear gn
  go_enter Tryz.func19, Tryz.ntmps19
  go_wp2_with fail
  generalize hW0 : w.alloc (.cells #[.int .u8 0, .int .u8 0, .string ⟨#[]⟩] 31) = W0 at *
  clear hW0
  refine (y0 _ h0).mono ?_
  rintro e w1 ⟨rfl, h1, k1⟩
  have K1 := K0.trans k1
  have r1 := r0.keep k1 (by omega)
  obtain ⟨c0, c1, c2, c3, c4⟩ := h1.cells
  go_wp2_with fail
  clear c0 c1 c2 c3 c4
  refine (y1 _ h1).mono ?_
  rintro e w2 ⟨rfl, h2, k2⟩
  have K2 := K1.trans k2
  have r2 := r1.keep k2 (by omega)
  obtain ⟨c0, c1, c2, c3, c4⟩ := h2.cells
  go_wp2_with fail
  clear c0 c1 c2 c3 c4
  have h3 := h2.setErr 9
  have K3 := K2.set1 2 (.int .i64 9)
  have r3 := r2.keep ((Keep.refl (fun k => k = b) w2).set1 2 (.int .i64 9)) (by omega)
  generalize w2.setCell ⟨b, 2, none⟩ (.int .i64 9) = w3 at *
  refine (rbyte_bad h3 (by decide)).mono ?_
  rintro e w4 ⟨rfl, h4, k4⟩
  have K4 := K3.trans k4
  have r4 := r3.keep k4 (by omega)
  obtain ⟨c0, c1, c2, c3, c4⟩ := h4.cells
  go_wp2_with fail
  clear c0 c1 c2 c3 c4
  refine (rbyte_bad h4 (by decide)).mono ?_
  rintro e w5 ⟨rfl, h5, k5⟩
  have K5 := K4.trans k5
  have r5 := r4.keep k5 (by omega)
  go_wp2_with fail
  refine (rblob_bad h5 (by decide)).mono ?_
  rintro e w6 ⟨rfl, h6, k6⟩
  have K6 := K5.trans k6
  have r6 := r5.keep k6 (by omega)
  obtain ⟨c0, c1, c2, c3, c4⟩ := h6.cells
  go_wp2_with fail
  clear c0 c1 c2 c3 c4
  refine (rtake4_bad h6 (by decide)).mono ?_
  rintro e w7 ⟨rfl, h7, k7⟩
  have K7 := K6.trans k7
  have r7 := r6.keep k7 (by omega)
  obtain ⟨c0, c1, c2, c3, c4⟩ := h7.cells
  obtain ⟨d0, d1, d2, d3, d4, d5⟩ := r7.cells
  go_wp2
  refine bodyPost_ret (retFr rfl _ _ _ rfl (r7.put 0 0 ⟨#[]⟩)) rfl ?_
  exact ⟨rfl, h7.keep (FrAt.put_keep _ _ 0 0 ⟨#[]⟩) (by omega), K7.step1 (FrAt.put_keep _ _ 0 0 ⟨#[]⟩) (Nat.le_refl _)⟩
set_option maxRecDepth 100000 in
set_option maxHeartbeats 4000000 in
theorem rtake7_C1 {w : World} {b : Nat} {s : ByteArray} {a x : Int} (h : Cur w b s a x) (g0 : mE s a x 215 = 0) (g1 : mE s (a + 1) 0 78 = 0) (gb : vE s (a + 2) ≠ 0) (gc : cErr s (a + 2) 0 1 ≠ 0) (ge : vE s (a + 2) = cErr s (a + 2) 0 1) (gz : cByte s (a + 2) 0 = 0) :
    Calls Tryz.prog 19 #[ptr b] w fun e w' => e = .returned (qFr s a x) ∧ Cur w' b s (qAt s a x) (qErr s a x) ∧ Keep1 b w w' := by
  have hlt := h.lt
  have r0 := FrAt.new w 0 0 ⟨#[]⟩ 31
  have k0 : Keep0 w (w.alloc (.cells #[.int .u8 0, .int .u8 0, .string ⟨#[]⟩] 31)) := (Keep.refl _ w).alloc _
  have h0 := h.keep0 k0
  have K0 : Keep1 b w _ := k0.any
  clear h k0
  obtain ⟨q1, q2⟩ := q_C g0 g1 gb
  rw [qFr_no (by rw [q1]; exact gb), q1, q2, ge]
  clear q1 q2 gb ge
  obtain ⟨rfl, z1, z2, z3⟩ := mE_zero g0
  have y0 := fun W (h : Cur W b s a 0) => rbyte_any h
  rw [z2, z1, z3] at y0
  clear z1 z2 z3
  obtain ⟨_, z1, z2, z3⟩ := mE_zero g1
  rw [show a + 1 + 1 = a + 2 from by omega] at z3
  have y1 := fun W (h : Cur W b s (a + 1) 0) => rbyte_any h
  rw [z2, z1, z3] at y1
  clear z1 z2 z3
  have y2 := fun W (h : Cur W b s (a + 2) 0) => rbyte_any h
  rw [gz] at y2
  clear gz
  generalize cErr s (a + 2) 0 1 = E at *
  generalize cAt s (a + 2) 0 1 = A at *
  have e1 : (E == 0) = false := by simpa using gc
  have e2 : (E != 0) = true := by simpa using gc
  go_enter Tryz.func19, Tryz.ntmps19
  go_wp2_with fail
  generalize hW0 : w.alloc (.cells #[.int .u8 0, .int .u8 0, .string ⟨#[]⟩] 31) = W0 at *
  clear hW0
  refine (y0 _ h0).mono ?_
  rintro e w1 ⟨rfl, h1, k1⟩
  have K1 := K0.trans k1
  have r1 := r0.keep k1 (by omega)
  obtain ⟨c0, c1, c2, c3, c4⟩ := h1.cells
  go_wp2_with fail
  clear c0 c1 c2 c3 c4
  refine (y1 _ h1).mono ?_
  rintro e w2 ⟨rfl, h2, k2⟩
  have K2 := K1.trans k2
  have r2 := r1.keep k2 (by omega)
  obtain ⟨c0, c1, c2, c3, c4⟩ := h2.cells
  go_wp2_with fail
  clear c0 c1 c2 c3 c4
  refine (y2 _ h2).mono ?_
  rintro e w3 ⟨rfl, h3, k3⟩
  have K3 := K2.trans k3
  have r3 := r2.keep k3 (by omega)
  obtain ⟨c0, c1, c2, c3, c4⟩ := h3.cells
  go_wp2_with fail
  clear c0 c1 c2 c3 c4
  refine (rbyte_bad h3 gc).mono ?_
  rintro e w4 ⟨rfl, h4, k4⟩
  have K4 := K3.trans k4
  have r4 := r3.keep k4 (by omega)
  go_wp2_with fail
  refine (rblob_bad h4 gc).mono ?_
  rintro e w5 ⟨rfl, h5, k5⟩
  have K5 := K4.trans k5
  have r5 := r4.keep k5 (by omega)
  obtain ⟨c0, c1, c2, c3, c4⟩ := h5.cells
  go_wp2_with fail
  clear c0 c1 c2 c3 c4
  refine (rtake4_bad h5 gc).mono ?_
  rintro e w6 ⟨rfl, h6, k6⟩
  have K6 := K5.trans k6
  have r6 := r5.keep k6 (by omega)
  obtain ⟨c0, c1, c2, c3, c4⟩ := h6.cells
  obtain ⟨d0, d1, d2, d3, d4, d5⟩ := r6.cells
  go_wp2
  refine bodyPost_ret (retFr rfl _ _ _ rfl (r6.put 0 0 ⟨#[]⟩)) rfl ?_
  exact ⟨rfl, h6.keep (FrAt.put_keep _ _ 0 0 ⟨#[]⟩) (by omega), K6.step1 (FrAt.put_keep _ _ 0 0 ⟨#[]⟩) (Nat.le_refl _)⟩
set_option maxRecDepth 100000 in
set_option maxHeartbeats 4000000 in
theorem rtake7_C2 {w : World} {b : Nat} {s : ByteArray} {a x : Int} (h : Cur w b s a x) (g0 : mE s a x 215 = 0) (g1 : mE s (a + 1) 0 78 = 0) (gb : vE s (a + 2) ≠ 0) (gn : qV (cByte s (a + 2) 0) = false) (gc : cErr s (a + 2) 0 1 = 0) (ge : vE s (a + 2) = 10) :
    Calls Tryz.prog 19 #[ptr b] w fun e w' => e = .returned (qFr s a x) ∧ Cur w' b s (qAt s a x) (qErr s a x) ∧ Keep1 b w w' := by
  have hlt := h.lt
  have r0 := FrAt.new w 0 0 ⟨#[]⟩ 31
  have k0 : Keep0 w (w.alloc (.cells #[.int .u8 0, .int .u8 0, .string ⟨#[]⟩] 31)) := (Keep.refl _ w).alloc _
  have h0 := h.keep0 k0
  have K0 : Keep1 b w _ := k0.any
  clear h k0
  obtain ⟨q1, q2⟩ := q_C g0 g1 gb
  rw [qFr_no (by rw [q1]; exact gb), q1, q2, ge]
  clear q1 q2 gb ge
  obtain ⟨rfl, z1, z2, z3⟩ := mE_zero g0
  have y0 := fun W (h : Cur W b s a 0) => rbyte_any h
  rw [z2, z1, z3] at y0
  clear z1 z2 z3
  obtain ⟨_, z1, z2, z3⟩ := mE_zero g1
  rw [show a + 1 + 1 = a + 2 from by omega] at z3
  have y1 := fun W (h : Cur W b s (a + 1) 0) => rbyte_any h
  rw [z2, z1, z3] at y1
  clear z1 z2 z3
  have y2 := fun W (h : Cur W b s (a + 2) 0) => rbyte_any h
  rw [gc] at y2
  clear gc
  generalize cByte s (a + 2) 0 = B at *
  generalize cAt s (a + 2) 0 1 = A at *
  have gn := of_decide_eq_false gn
  have e1 : (B != 1) = true := by simp; omega
  have e2 : (B != 2) = true := by simp; omega
  clear gn
  go_enter Tryz.func19, Tryz.ntmps19
  go_wp2_with fail
  generalize hW0 : w.alloc (.cells #[.int .u8 0, .int .u8 0, .string ⟨#[]⟩] 31) = W0 at *
  clear hW0
  refine (y0 _ h0).mono ?_
  rintro e w1 ⟨rfl, h1, k1⟩
  have K1 := K0.trans k1
  have r1 := r0.keep k1 (by omega)
  obtain ⟨c0, c1, c2, c3, c4⟩ := h1.cells
  go_wp2_with fail
  clear c0 c1 c2 c3 c4
  refine (y1 _ h1).mono ?_
  rintro e w2 ⟨rfl, h2, k2⟩
  have K2 := K1.trans k2
  have r2 := r1.keep k2 (by omega)
  obtain ⟨c0, c1, c2, c3, c4⟩ := h2.cells
  go_wp2_with fail
  clear c0 c1 c2 c3 c4
  refine (y2 _ h2).mono ?_
  rintro e w3 ⟨rfl, h3, k3⟩
  have K3 := K2.trans k3
  have r3 := r2.keep k3 (by omega)
  obtain ⟨c0, c1, c2, c3, c4⟩ := h3.cells
  go_wp2_with fail
  clear c0 c1 c2 c3 c4
  have h4 := h3.setErr 10
  have K4 := K3.set1 2 (.int .i64 10)
  have r4 := r3.keep ((Keep.refl (fun k => k = b) w3).set1 2 (.int .i64 10)) (by omega)
  generalize w3.setCell ⟨b, 2, none⟩ (.int .i64 10) = w4 at *
  refine (rbyte_bad h4 (by decide)).mono ?_
  rintro e w5 ⟨rfl, h5, k5⟩
  have K5 := K4.trans k5
  have r5 := r4.keep k5 (by omega)
  go_wp2_with fail
  refine (rblob_bad h5 (by decide)).mono ?_
  rintro e w6 ⟨rfl, h6, k6⟩
  have K6 := K5.trans k6
  have r6 := r5.keep k6 (by omega)
  obtain ⟨c0, c1, c2, c3, c4⟩ := h6.cells
  go_wp2_with fail
  clear c0 c1 c2 c3 c4
  refine (rtake4_bad h6 (by decide)).mono ?_
  rintro e w7 ⟨rfl, h7, k7⟩
  have K7 := K6.trans k7
  have r7 := r6.keep k7 (by omega)
  obtain ⟨c0, c1, c2, c3, c4⟩ := h7.cells
  obtain ⟨d0, d1, d2, d3, d4, d5⟩ := r7.cells
  go_wp2
  refine bodyPost_ret (retFr rfl _ _ _ rfl (r7.put 0 0 ⟨#[]⟩)) rfl ?_
  exact ⟨rfl, h7.keep (FrAt.put_keep _ _ 0 0 ⟨#[]⟩) (by omega), K7.step1 (FrAt.put_keep _ _ 0 0 ⟨#[]⟩) (Nat.le_refl _)⟩
set_option maxRecDepth 100000 in
set_option maxHeartbeats 4000000 in
theorem rtake7_D1 {w : World} {b : Nat} {s : ByteArray} {a x : Int} (h : Cur w b s a x) (g0 : mE s a x 215 = 0) (g1 : mE s (a + 1) 0 78 = 0) (g2 : vE s (a + 2) = 0) (hv : cByte s (a + 2) 0 = 1) (g3 : q6E s (a + 3) ≠ 0) :
    Calls Tryz.prog 19 #[ptr b] w fun e w' => e = .returned (qFr s a x) ∧ Cur w' b s (qAt s a x) (qErr s a x) ∧ Keep1 b w w' := by
  have hlt := h.lt
  have r0 := FrAt.new w 0 0 ⟨#[]⟩ 31
  have k0 : Keep0 w (w.alloc (.cells #[.int .u8 0, .int .u8 0, .string ⟨#[]⟩] 31)) := (Keep.refl _ w).alloc _
  have h0 := h.keep0 k0
  have K0 : Keep1 b w _ := k0.any
  clear h k0
  have q1 := q_D g0 g1 g2 g3
  rw [qFr_no (by rw [q1]; exact g3), q1, q_at g0 g1 g2]
  clear q1
  obtain ⟨rfl, z1, z2, z3⟩ := mE_zero g0
  have y0 := fun W (h : Cur W b s a 0) => rbyte_any h
  rw [z2, z1, z3] at y0
  clear z1 z2 z3
  obtain ⟨_, z1, z2, z3⟩ := mE_zero g1
  rw [show a + 1 + 1 = a + 2 from by omega] at z3
  have y1 := fun W (h : Cur W b s (a + 1) 0) => rbyte_any h
  rw [z2, z1, z3] at y1
  clear z1 z2 z3
  obtain ⟨z1, z2, z3⟩ := vE_zero g2
  rw [show a + 2 + 1 = a + 3 from by omega] at z3
  have y2 := fun W (h : Cur W b s (a + 2) 0) => rbyte_any h
  rw [hv, z1, z3] at y2
  clear z1 z2 z3
  clear hv
  have y3 : ∀ W, Cur W b s (a + 3) 0 → Calls Tryz.prog 30 #[ptr b] W fun e w' => e = .returned (.int .i64 (cByte s (a + 3) 0)) ∧ Cur w' b s (q4A s (a + 3)) (q4E s (a + 3)) ∧ Keep1 b W w' := fun W h => rbyte_any h
  have y4 : ∀ W, Cur W b s (q4A s (a + 3)) (q4E s (a + 3)) → Calls Tryz.prog 31 #[ptr b, .int .i64 65536] W fun e w' => e = .returned (.string (q5T s (a + 3))) ∧ Cur w' b s (q5A s (a + 3)) (q5E s (a + 3)) ∧ Keep1 b W w' := fun W h => rblob_any 65536 (by decide) h
  have y5 : ∀ W, Cur W b s (q5A s (a + 3)) (q5E s (a + 3)) → Calls Tryz.prog 32 #[ptr b, .int .i64 4] W fun e w' => e = .returned (.int .u64 (q6N s (a + 3))) ∧ Cur w' b s (q6A s (a + 3)) (q6E s (a + 3)) ∧ Keep1 b W w' := fun W h => rtake4_any 4 h
  have ge := q5A_ge s (a + 3)
  have bk := cByte_bd s (a + 3) 0
  have lo := h0.lo
  have ssz := h0.sz
  have e1 : (q6E s (a + 3) == 0) = false := by simpa using g3
  have e2 : (q6E s (a + 3) != 0) = true := by simpa using g3
  clear g3
  generalize cByte s (a + 3) 0 = KD at *
  generalize q4A s (a + 3) = A4 at *
  generalize q4E s (a + 3) = E4 at *
  generalize q5T s (a + 3) = T5 at *
  generalize q5A s (a + 3) = A5 at *
  generalize q5E s (a + 3) = E5 at *
  generalize q6N s (a + 3) = N6 at *
  generalize q6A s (a + 3) = A6 at *
  generalize q6E s (a + 3) = E6 at *
  go_enter Tryz.func19, Tryz.ntmps19
  go_wp2_with fail
  generalize hW0 : w.alloc (.cells #[.int .u8 0, .int .u8 0, .string ⟨#[]⟩] 31) = W0 at *
  clear hW0
  refine (y0 _ h0).mono ?_
  rintro e w1 ⟨rfl, h1, k1⟩
  have K1 := K0.trans k1
  have r1 := r0.keep k1 (by omega)
  obtain ⟨c0, c1, c2, c3, c4⟩ := h1.cells
  go_wp2_with fail
  clear c0 c1 c2 c3 c4
  refine (y1 _ h1).mono ?_
  rintro e w2 ⟨rfl, h2, k2⟩
  have K2 := K1.trans k2
  have r2 := r1.keep k2 (by omega)
  obtain ⟨c0, c1, c2, c3, c4⟩ := h2.cells
  go_wp2_with fail
  clear c0 c1 c2 c3 c4
  refine (y2 _ h2).mono ?_
  rintro e w3 ⟨rfl, h3, k3⟩
  have K3 := K2.trans k3
  have r3 := r2.keep k3 (by omega)
  obtain ⟨c0, c1, c2, c3, c4⟩ := h3.cells
  go_wp2_with fail
  clear c0 c1 c2 c3 c4
  refine (y3 _ h3).mono ?_
  rintro e w4 ⟨rfl, h4, k4⟩
  have K4 := K3.trans k4
  have r4 := r3.keep k4 (by omega)
  go_wp2_with fail
  refine (y4 _ h4).mono ?_
  rintro e w5 ⟨rfl, h5, k5⟩
  have K5 := K4.trans k5
  have r5 := r4.keep k5 (by omega)
  obtain ⟨c0, c1, c2, c3, c4⟩ := h5.cells
  go_wp2_with fail
  clear c0 c1 c2 c3 c4
  refine (y5 _ h5).mono ?_
  rintro e w6 ⟨rfl, h6, k6⟩
  have K6 := K5.trans k6
  have r6 := r5.keep k6 (by omega)
  obtain ⟨c0, c1, c2, c3, c4⟩ := h6.cells
  obtain ⟨d0, d1, d2, d3, d4, d5⟩ := r6.cells
  go_wp2
  refine bodyPost_ret (retFr rfl _ _ _ rfl (r6.put 0 0 ⟨#[]⟩)) rfl ?_
  exact ⟨rfl, h6.keep (FrAt.put_keep _ _ 0 0 ⟨#[]⟩) (by omega), K6.step1 (FrAt.put_keep _ _ 0 0 ⟨#[]⟩) (Nat.le_refl _)⟩
set_option maxRecDepth 100000 in
set_option maxHeartbeats 4000000 in
theorem rtake7_D2 {w : World} {b : Nat} {s : ByteArray} {a x : Int} (h : Cur w b s a x) (g0 : mE s a x 215 = 0) (g1 : mE s (a + 1) 0 78 = 0) (g2 : vE s (a + 2) = 0) (hv : cByte s (a + 2) 0 = 2) (g3 : q6E s (a + 3) ≠ 0) :
    Calls Tryz.prog 19 #[ptr b] w fun e w' => e = .returned (qFr s a x) ∧ Cur w' b s (qAt s a x) (qErr s a x) ∧ Keep1 b w w' := by
  have hlt := h.lt
  have r0 := FrAt.new w 0 0 ⟨#[]⟩ 31
  have k0 : Keep0 w (w.alloc (.cells #[.int .u8 0, .int .u8 0, .string ⟨#[]⟩] 31)) := (Keep.refl _ w).alloc _
  have h0 := h.keep0 k0
  have K0 : Keep1 b w _ := k0.any
  clear h k0
  have q1 := q_D g0 g1 g2 g3
  rw [qFr_no (by rw [q1]; exact g3), q1, q_at g0 g1 g2]
  clear q1
  obtain ⟨rfl, z1, z2, z3⟩ := mE_zero g0
  have y0 := fun W (h : Cur W b s a 0) => rbyte_any h
  rw [z2, z1, z3] at y0
  clear z1 z2 z3
  obtain ⟨_, z1, z2, z3⟩ := mE_zero g1
  rw [show a + 1 + 1 = a + 2 from by omega] at z3
  have y1 := fun W (h : Cur W b s (a + 1) 0) => rbyte_any h
  rw [z2, z1, z3] at y1
  clear z1 z2 z3
  obtain ⟨z1, z2, z3⟩ := vE_zero g2
  rw [show a + 2 + 1 = a + 3 from by omega] at z3
  have y2 := fun W (h : Cur W b s (a + 2) 0) => rbyte_any h
  rw [hv, z1, z3] at y2
  clear z1 z2 z3
  clear hv
  have y3 : ∀ W, Cur W b s (a + 3) 0 → Calls Tryz.prog 30 #[ptr b] W fun e w' => e = .returned (.int .i64 (cByte s (a + 3) 0)) ∧ Cur w' b s (q4A s (a + 3)) (q4E s (a + 3)) ∧ Keep1 b W w' := fun W h => rbyte_any h
  have y4 : ∀ W, Cur W b s (q4A s (a + 3)) (q4E s (a + 3)) → Calls Tryz.prog 31 #[ptr b, .int .i64 65536] W fun e w' => e = .returned (.string (q5T s (a + 3))) ∧ Cur w' b s (q5A s (a + 3)) (q5E s (a + 3)) ∧ Keep1 b W w' := fun W h => rblob_any 65536 (by decide) h
  have y5 : ∀ W, Cur W b s (q5A s (a + 3)) (q5E s (a + 3)) → Calls Tryz.prog 32 #[ptr b, .int .i64 4] W fun e w' => e = .returned (.int .u64 (q6N s (a + 3))) ∧ Cur w' b s (q6A s (a + 3)) (q6E s (a + 3)) ∧ Keep1 b W w' := fun W h => rtake4_any 4 h
  have ge := q5A_ge s (a + 3)
  have bk := cByte_bd s (a + 3) 0
  have lo := h0.lo
  have ssz := h0.sz
  have e1 : (q6E s (a + 3) == 0) = false := by simpa using g3
  have e2 : (q6E s (a + 3) != 0) = true := by simpa using g3
  clear g3
  generalize cByte s (a + 3) 0 = KD at *
  generalize q4A s (a + 3) = A4 at *
  generalize q4E s (a + 3) = E4 at *
  generalize q5T s (a + 3) = T5 at *
  generalize q5A s (a + 3) = A5 at *
  generalize q5E s (a + 3) = E5 at *
  generalize q6N s (a + 3) = N6 at *
  generalize q6A s (a + 3) = A6 at *
  generalize q6E s (a + 3) = E6 at *
  go_enter Tryz.func19, Tryz.ntmps19
  go_wp2_with fail
  generalize hW0 : w.alloc (.cells #[.int .u8 0, .int .u8 0, .string ⟨#[]⟩] 31) = W0 at *
  clear hW0
  refine (y0 _ h0).mono ?_
  rintro e w1 ⟨rfl, h1, k1⟩
  have K1 := K0.trans k1
  have r1 := r0.keep k1 (by omega)
  obtain ⟨c0, c1, c2, c3, c4⟩ := h1.cells
  go_wp2_with fail
  clear c0 c1 c2 c3 c4
  refine (y1 _ h1).mono ?_
  rintro e w2 ⟨rfl, h2, k2⟩
  have K2 := K1.trans k2
  have r2 := r1.keep k2 (by omega)
  obtain ⟨c0, c1, c2, c3, c4⟩ := h2.cells
  go_wp2_with fail
  clear c0 c1 c2 c3 c4
  refine (y2 _ h2).mono ?_
  rintro e w3 ⟨rfl, h3, k3⟩
  have K3 := K2.trans k3
  have r3 := r2.keep k3 (by omega)
  obtain ⟨c0, c1, c2, c3, c4⟩ := h3.cells
  go_wp2_with fail
  clear c0 c1 c2 c3 c4
  refine (y3 _ h3).mono ?_
  rintro e w4 ⟨rfl, h4, k4⟩
  have K4 := K3.trans k4
  have r4 := r3.keep k4 (by omega)
  go_wp2_with fail
  refine (y4 _ h4).mono ?_
  rintro e w5 ⟨rfl, h5, k5⟩
  have K5 := K4.trans k5
  have r5 := r4.keep k5 (by omega)
  obtain ⟨c0, c1, c2, c3, c4⟩ := h5.cells
  go_wp2_with fail
  clear c0 c1 c2 c3 c4
  refine (y5 _ h5).mono ?_
  rintro e w6 ⟨rfl, h6, k6⟩
  have K6 := K5.trans k6
  have r6 := r5.keep k6 (by omega)
  obtain ⟨c0, c1, c2, c3, c4⟩ := h6.cells
  obtain ⟨d0, d1, d2, d3, d4, d5⟩ := r6.cells
  go_wp2
  refine bodyPost_ret (retFr rfl _ _ _ rfl (r6.put 0 0 ⟨#[]⟩)) rfl ?_
  exact ⟨rfl, h6.keep (FrAt.put_keep _ _ 0 0 ⟨#[]⟩) (by omega), K6.step1 (FrAt.put_keep _ _ 0 0 ⟨#[]⟩) (Nat.le_refl _)⟩
set_option maxRecDepth 100000 in
set_option maxHeartbeats 4000000 in
theorem rtake7_E1 {w : World} {b : Nat} {s : ByteArray} {a x : Int} (h : Cur w b s a x) (g0 : mE s a x 215 = 0) (g1 : mE s (a + 1) 0 78 = 0) (g2 : vE s (a + 2) = 0) (hv : cByte s (a + 2) 0 = 1) (g3 : q6E s (a + 3) = 0) (g4 : q6N s (a + 3) ≠ qSum s a) :
    Calls Tryz.prog 19 #[ptr b] w fun e w' => e = .returned (qFr s a x) ∧ Cur w' b s (qAt s a x) (qErr s a x) ∧ Keep1 b w w' := by
  have hlt := h.lt
  have r0 := FrAt.new w 0 0 ⟨#[]⟩ 31
  have k0 : Keep0 w (w.alloc (.cells #[.int .u8 0, .int .u8 0, .string ⟨#[]⟩] 31)) := (Keep.refl _ w).alloc _
  have h0 := h.keep0 k0
  have K0 : Keep1 b w _ := k0.any
  clear h k0
  have q1 := q_E g0 g1 g2 g3 g4
  rw [qFr_no (by rw [q1]; decide), q1, q_at g0 g1 g2]
  clear q1
  obtain ⟨rfl, z1, z2, z3⟩ := mE_zero g0
  have y0 := fun W (h : Cur W b s a 0) => rbyte_any h
  rw [z2, z1, z3] at y0
  clear z1 z2 z3
  obtain ⟨_, z1, z2, z3⟩ := mE_zero g1
  rw [show a + 1 + 1 = a + 2 from by omega] at z3
  have y1 := fun W (h : Cur W b s (a + 1) 0) => rbyte_any h
  rw [z2, z1, z3] at y1
  clear z1 z2 z3
  obtain ⟨z1, z2, z3⟩ := vE_zero g2
  rw [show a + 2 + 1 = a + 3 from by omega] at z3
  have y2 := fun W (h : Cur W b s (a + 2) 0) => rbyte_any h
  rw [hv, z1, z3] at y2
  clear z1 z2 z3
  clear hv
  have y3 : ∀ W, Cur W b s (a + 3) 0 → Calls Tryz.prog 30 #[ptr b] W fun e w' => e = .returned (.int .i64 (cByte s (a + 3) 0)) ∧ Cur w' b s (q4A s (a + 3)) (q4E s (a + 3)) ∧ Keep1 b W w' := fun W h => rbyte_any h
  have y4 : ∀ W, Cur W b s (q4A s (a + 3)) (q4E s (a + 3)) → Calls Tryz.prog 31 #[ptr b, .int .i64 65536] W fun e w' => e = .returned (.string (q5T s (a + 3))) ∧ Cur w' b s (q5A s (a + 3)) (q5E s (a + 3)) ∧ Keep1 b W w' := fun W h => rblob_any 65536 (by decide) h
  have y5 : ∀ W, Cur W b s (q5A s (a + 3)) (q5E s (a + 3)) → Calls Tryz.prog 32 #[ptr b, .int .i64 4] W fun e w' => e = .returned (.int .u64 (q6N s (a + 3))) ∧ Cur w' b s (q6A s (a + 3)) (q6E s (a + 3)) ∧ Keep1 b W w' := fun W h => rtake4_any 4 h
  have ge := q5A_ge s (a + 3)
  have bk := cByte_bd s (a + 3) 0
  have lo := h0.lo
  have ssz := h0.sz
  rw [g3] at y5
  clear g3
  have hsum : ∀ W, Calls Tryz.prog 29 #[.string (cut s (a + 2) (q5A s (a + 3)))] W fun e w' => e = .returned (.int .u32 (qSum s a)) ∧ W = w' := fun W => rsum5_any W _ (by
    unfold cut
    rw [ByteArray.size_extract]
    omega)
  have qlt : qSum s a < 4294967296 := cMore_lt 0 _
  have e1 : ((q6N s (a + 3) : Int) != (qSum s a : Int)) = true := by simp; omega
  clear g4
  generalize cByte s (a + 3) 0 = KD at *
  generalize q4A s (a + 3) = A4 at *
  generalize q4E s (a + 3) = E4 at *
  generalize q5T s (a + 3) = T5 at *
  generalize q5A s (a + 3) = A5 at *
  generalize q5E s (a + 3) = E5 at *
  generalize q6N s (a + 3) = N6 at *
  generalize q6A s (a + 3) = A6 at *
  generalize qSum s a = QS at *
  go_enter Tryz.func19, Tryz.ntmps19
  go_wp2_with fail
  generalize hW0 : w.alloc (.cells #[.int .u8 0, .int .u8 0, .string ⟨#[]⟩] 31) = W0 at *
  clear hW0
  refine (y0 _ h0).mono ?_
  rintro e w1 ⟨rfl, h1, k1⟩
  have K1 := K0.trans k1
  have r1 := r0.keep k1 (by omega)
  obtain ⟨c0, c1, c2, c3, c4⟩ := h1.cells
  go_wp2_with fail
  clear c0 c1 c2 c3 c4
  refine (y1 _ h1).mono ?_
  rintro e w2 ⟨rfl, h2, k2⟩
  have K2 := K1.trans k2
  have r2 := r1.keep k2 (by omega)
  obtain ⟨c0, c1, c2, c3, c4⟩ := h2.cells
  go_wp2_with fail
  clear c0 c1 c2 c3 c4
  refine (y2 _ h2).mono ?_
  rintro e w3 ⟨rfl, h3, k3⟩
  have K3 := K2.trans k3
  have r3 := r2.keep k3 (by omega)
  obtain ⟨c0, c1, c2, c3, c4⟩ := h3.cells
  go_wp2_with fail
  clear c0 c1 c2 c3 c4
  refine (y3 _ h3).mono ?_
  rintro e w4 ⟨rfl, h4, k4⟩
  have K4 := K3.trans k4
  have r4 := r3.keep k4 (by omega)
  go_wp2_with fail
  refine (y4 _ h4).mono ?_
  rintro e w5 ⟨rfl, h5, k5⟩
  have K5 := K4.trans k5
  have r5 := r4.keep k5 (by omega)
  obtain ⟨c0, c1, c2, c3, c4⟩ := h5.cells
  go_wp2_with fail
  clear c0 c1 c2 c3 c4
  have hi5 := h5.hi
  refine (y5 _ h5).mono ?_
  rintro e w6 ⟨rfl, h6, k6⟩
  have K6 := K5.trans k6
  have r6 := r5.keep k6 (by omega)
  obtain ⟨c0, c1, c2, c3, c4⟩ := h6.cells
  go_wp2_with fail
  refine (hsum _).mono ?_
  rintro e w7 ⟨rfl, rfl⟩
  obtain ⟨d0, d1, d2, d3, d4, d5⟩ := r6.cells
  go_wp2
  have h7 := h6.setErr 12
  have K7 := K6.set1 2 (.int .i64 12)
  have r7 := r6.keep ((Keep.refl (fun k => k = b) w6).set1 2 (.int .i64 12)) (by omega)
  generalize w6.setCell ⟨b, 2, none⟩ (.int .i64 12) = w7 at *
  refine bodyPost_ret (retFr rfl _ _ _ rfl (r7.put 0 0 ⟨#[]⟩)) rfl ?_
  exact ⟨rfl, h7.keep (FrAt.put_keep _ _ 0 0 ⟨#[]⟩) (by omega), K7.step1 (FrAt.put_keep _ _ 0 0 ⟨#[]⟩) (Nat.le_refl _)⟩
set_option maxRecDepth 100000 in
set_option maxHeartbeats 4000000 in
theorem rtake7_E2 {w : World} {b : Nat} {s : ByteArray} {a x : Int} (h : Cur w b s a x) (g0 : mE s a x 215 = 0) (g1 : mE s (a + 1) 0 78 = 0) (g2 : vE s (a + 2) = 0) (hv : cByte s (a + 2) 0 = 2) (g3 : q6E s (a + 3) = 0) (g4 : q6N s (a + 3) ≠ qSum s a) :
    Calls Tryz.prog 19 #[ptr b] w fun e w' => e = .returned (qFr s a x) ∧ Cur w' b s (qAt s a x) (qErr s a x) ∧ Keep1 b w w' := by
  have hlt := h.lt
  have r0 := FrAt.new w 0 0 ⟨#[]⟩ 31
  have k0 : Keep0 w (w.alloc (.cells #[.int .u8 0, .int .u8 0, .string ⟨#[]⟩] 31)) := (Keep.refl _ w).alloc _
  have h0 := h.keep0 k0
  have K0 : Keep1 b w _ := k0.any
  clear h k0
  have q1 := q_E g0 g1 g2 g3 g4
  rw [qFr_no (by rw [q1]; decide), q1, q_at g0 g1 g2]
  clear q1
  obtain ⟨rfl, z1, z2, z3⟩ := mE_zero g0
  have y0 := fun W (h : Cur W b s a 0) => rbyte_any h
  rw [z2, z1, z3] at y0
  clear z1 z2 z3
  obtain ⟨_, z1, z2, z3⟩ := mE_zero g1
  rw [show a + 1 + 1 = a + 2 from by omega] at z3
  have y1 := fun W (h : Cur W b s (a + 1) 0) => rbyte_any h
  rw [z2, z1, z3] at y1
  clear z1 z2 z3
  obtain ⟨z1, z2, z3⟩ := vE_zero g2
  rw [show a + 2 + 1 = a + 3 from by omega] at z3
  have y2 := fun W (h : Cur W b s (a + 2) 0) => rbyte_any h
  rw [hv, z1, z3] at y2
  clear z1 z2 z3
  clear hv
  have y3 : ∀ W, Cur W b s (a + 3) 0 → Calls Tryz.prog 30 #[ptr b] W fun e w' => e = .returned (.int .i64 (cByte s (a + 3) 0)) ∧ Cur w' b s (q4A s (a + 3)) (q4E s (a + 3)) ∧ Keep1 b W w' := fun W h => rbyte_any h
  have y4 : ∀ W, Cur W b s (q4A s (a + 3)) (q4E s (a + 3)) → Calls Tryz.prog 31 #[ptr b, .int .i64 65536] W fun e w' => e = .returned (.string (q5T s (a + 3))) ∧ Cur w' b s (q5A s (a + 3)) (q5E s (a + 3)) ∧ Keep1 b W w' := fun W h => rblob_any 65536 (by decide) h
  have y5 : ∀ W, Cur W b s (q5A s (a + 3)) (q5E s (a + 3)) → Calls Tryz.prog 32 #[ptr b, .int .i64 4] W fun e w' => e = .returned (.int .u64 (q6N s (a + 3))) ∧ Cur w' b s (q6A s (a + 3)) (q6E s (a + 3)) ∧ Keep1 b W w' := fun W h => rtake4_any 4 h
  have ge := q5A_ge s (a + 3)
  have bk := cByte_bd s (a + 3) 0
  have lo := h0.lo
  have ssz := h0.sz
  rw [g3] at y5
  clear g3
  have hsum : ∀ W, Calls Tryz.prog 29 #[.string (cut s (a + 2) (q5A s (a + 3)))] W fun e w' => e = .returned (.int .u32 (qSum s a)) ∧ W = w' := fun W => rsum5_any W _ (by
    unfold cut
    rw [ByteArray.size_extract]
    omega)
  have qlt : qSum s a < 4294967296 := cMore_lt 0 _
  have e1 : ((q6N s (a + 3) : Int) != (qSum s a : Int)) = true := by simp; omega
  clear g4
  generalize cByte s (a + 3) 0 = KD at *
  generalize q4A s (a + 3) = A4 at *
  generalize q4E s (a + 3) = E4 at *
  generalize q5T s (a + 3) = T5 at *
  generalize q5A s (a + 3) = A5 at *
  generalize q5E s (a + 3) = E5 at *
  generalize q6N s (a + 3) = N6 at *
  generalize q6A s (a + 3) = A6 at *
  generalize qSum s a = QS at *
  go_enter Tryz.func19, Tryz.ntmps19
  go_wp2_with fail
  generalize hW0 : w.alloc (.cells #[.int .u8 0, .int .u8 0, .string ⟨#[]⟩] 31) = W0 at *
  clear hW0
  refine (y0 _ h0).mono ?_
  rintro e w1 ⟨rfl, h1, k1⟩
  have K1 := K0.trans k1
  have r1 := r0.keep k1 (by omega)
  obtain ⟨c0, c1, c2, c3, c4⟩ := h1.cells
  go_wp2_with fail
  clear c0 c1 c2 c3 c4
  refine (y1 _ h1).mono ?_
  rintro e w2 ⟨rfl, h2, k2⟩
  have K2 := K1.trans k2
  have r2 := r1.keep k2 (by omega)
  obtain ⟨c0, c1, c2, c3, c4⟩ := h2.cells
  go_wp2_with fail
  clear c0 c1 c2 c3 c4
  refine (y2 _ h2).mono ?_
  rintro e w3 ⟨rfl, h3, k3⟩
  have K3 := K2.trans k3
  have r3 := r2.keep k3 (by omega)
  obtain ⟨c0, c1, c2, c3, c4⟩ := h3.cells
  go_wp2_with fail
  clear c0 c1 c2 c3 c4
  refine (y3 _ h3).mono ?_
  rintro e w4 ⟨rfl, h4, k4⟩
  have K4 := K3.trans k4
  have r4 := r3.keep k4 (by omega)
  go_wp2_with fail
  refine (y4 _ h4).mono ?_
  rintro e w5 ⟨rfl, h5, k5⟩
  have K5 := K4.trans k5
  have r5 := r4.keep k5 (by omega)
  obtain ⟨c0, c1, c2, c3, c4⟩ := h5.cells
  go_wp2_with fail
  clear c0 c1 c2 c3 c4
  have hi5 := h5.hi
  refine (y5 _ h5).mono ?_
  rintro e w6 ⟨rfl, h6, k6⟩
  have K6 := K5.trans k6
  have r6 := r5.keep k6 (by omega)
  obtain ⟨c0, c1, c2, c3, c4⟩ := h6.cells
  go_wp2_with fail
  refine (hsum _).mono ?_
  rintro e w7 ⟨rfl, rfl⟩
  obtain ⟨d0, d1, d2, d3, d4, d5⟩ := r6.cells
  go_wp2
  have h7 := h6.setErr 12
  have K7 := K6.set1 2 (.int .i64 12)
  have r7 := r6.keep ((Keep.refl (fun k => k = b) w6).set1 2 (.int .i64 12)) (by omega)
  generalize w6.setCell ⟨b, 2, none⟩ (.int .i64 12) = w7 at *
  refine bodyPost_ret (retFr rfl _ _ _ rfl (r7.put 0 0 ⟨#[]⟩)) rfl ?_
  exact ⟨rfl, h7.keep (FrAt.put_keep _ _ 0 0 ⟨#[]⟩) (by omega), K7.step1 (FrAt.put_keep _ _ 0 0 ⟨#[]⟩) (Nat.le_refl _)⟩
set_option maxRecDepth 100000 in
set_option maxHeartbeats 4000000 in
theorem rtake7_F1 {w : World} {b : Nat} {s : ByteArray} {a x : Int} (h : Cur w b s a x) (g0 : mE s a x 215 = 0) (g1 : mE s (a + 1) 0 78 = 0) (g2 : vE s (a + 2) = 0) (hv : cByte s (a + 2) 0 = 1) (g3 : q6E s (a + 3) = 0) (g4 : q6N s (a + 3) = qSum s a) :
    Calls Tryz.prog 19 #[ptr b] w fun e w' => e = .returned (qFr s a x) ∧ Cur w' b s (qAt s a x) (qErr s a x) ∧ Keep1 b w w' := by
  have hlt := h.lt
  have r0 := FrAt.new w 0 0 ⟨#[]⟩ 31
  have k0 : Keep0 w (w.alloc (.cells #[.int .u8 0, .int .u8 0, .string ⟨#[]⟩] 31)) := (Keep.refl _ w).alloc _
  have h0 := h.keep0 k0
  have K0 : Keep1 b w _ := k0.any
  clear h k0
  have q1 := q_F g0 g1 g2 g3 g4
  rw [qFr_yes q1, q1, q_at g0 g1 g2, hv]
  clear q1
  obtain ⟨rfl, z1, z2, z3⟩ := mE_zero g0
  have y0 := fun W (h : Cur W b s a 0) => rbyte_any h
  rw [z2, z1, z3] at y0
  clear z1 z2 z3
  obtain ⟨_, z1, z2, z3⟩ := mE_zero g1
  rw [show a + 1 + 1 = a + 2 from by omega] at z3
  have y1 := fun W (h : Cur W b s (a + 1) 0) => rbyte_any h
  rw [z2, z1, z3] at y1
  clear z1 z2 z3
  obtain ⟨z1, z2, z3⟩ := vE_zero g2
  rw [show a + 2 + 1 = a + 3 from by omega] at z3
  have y2 := fun W (h : Cur W b s (a + 2) 0) => rbyte_any h
  rw [hv, z1, z3] at y2
  clear z1 z2 z3
  clear hv
  have y3 : ∀ W, Cur W b s (a + 3) 0 → Calls Tryz.prog 30 #[ptr b] W fun e w' => e = .returned (.int .i64 (cByte s (a + 3) 0)) ∧ Cur w' b s (q4A s (a + 3)) (q4E s (a + 3)) ∧ Keep1 b W w' := fun W h => rbyte_any h
  have y4 : ∀ W, Cur W b s (q4A s (a + 3)) (q4E s (a + 3)) → Calls Tryz.prog 31 #[ptr b, .int .i64 65536] W fun e w' => e = .returned (.string (q5T s (a + 3))) ∧ Cur w' b s (q5A s (a + 3)) (q5E s (a + 3)) ∧ Keep1 b W w' := fun W h => rblob_any 65536 (by decide) h
  have y5 : ∀ W, Cur W b s (q5A s (a + 3)) (q5E s (a + 3)) → Calls Tryz.prog 32 #[ptr b, .int .i64 4] W fun e w' => e = .returned (.int .u64 (q6N s (a + 3))) ∧ Cur w' b s (q6A s (a + 3)) (q6E s (a + 3)) ∧ Keep1 b W w' := fun W h => rtake4_any 4 h
  have ge := q5A_ge s (a + 3)
  have bk := cByte_bd s (a + 3) 0
  have lo := h0.lo
  have ssz := h0.sz
  rw [g3] at y5
  clear g3
  have hsum : ∀ W, Calls Tryz.prog 29 #[.string (cut s (a + 2) (q5A s (a + 3)))] W fun e w' => e = .returned (.int .u32 (qSum s a)) ∧ W = w' := fun W => rsum5_any W _ (by
    unfold cut
    rw [ByteArray.size_extract]
    omega)
  have qlt : qSum s a < 4294967296 := cMore_lt 0 _
  have e1 : ((q6N s (a + 3) : Int) != (qSum s a : Int)) = false := by simp; omega
  clear g4
  generalize cByte s (a + 3) 0 = KD at *
  generalize q4A s (a + 3) = A4 at *
  generalize q4E s (a + 3) = E4 at *
  generalize q5T s (a + 3) = T5 at *
  generalize q5A s (a + 3) = A5 at *
  generalize q5E s (a + 3) = E5 at *
  generalize q6N s (a + 3) = N6 at *
  generalize q6A s (a + 3) = A6 at *
  generalize qSum s a = QS at *
  go_enter Tryz.func19, Tryz.ntmps19
  go_wp2_with fail
  generalize hW0 : w.alloc (.cells #[.int .u8 0, .int .u8 0, .string ⟨#[]⟩] 31) = W0 at *
  clear hW0
  refine (y0 _ h0).mono ?_
  rintro e w1 ⟨rfl, h1, k1⟩
  have K1 := K0.trans k1
  have r1 := r0.keep k1 (by omega)
  obtain ⟨c0, c1, c2, c3, c4⟩ := h1.cells
  go_wp2_with fail
  clear c0 c1 c2 c3 c4
  refine (y1 _ h1).mono ?_
  rintro e w2 ⟨rfl, h2, k2⟩
  have K2 := K1.trans k2
  have r2 := r1.keep k2 (by omega)
  obtain ⟨c0, c1, c2, c3, c4⟩ := h2.cells
  go_wp2_with fail
  clear c0 c1 c2 c3 c4
  refine (y2 _ h2).mono ?_
  rintro e w3 ⟨rfl, h3, k3⟩
  have K3 := K2.trans k3
  have r3 := r2.keep k3 (by omega)
  obtain ⟨c0, c1, c2, c3, c4⟩ := h3.cells
  go_wp2_with fail
  clear c0 c1 c2 c3 c4
  refine (y3 _ h3).mono ?_
  rintro e w4 ⟨rfl, h4, k4⟩
  have K4 := K3.trans k4
  have r4 := r3.keep k4 (by omega)
  go_wp2_with fail
  refine (y4 _ h4).mono ?_
  rintro e w5 ⟨rfl, h5, k5⟩
  have K5 := K4.trans k5
  have r5 := r4.keep k5 (by omega)
  obtain ⟨c0, c1, c2, c3, c4⟩ := h5.cells
  go_wp2_with fail
  clear c0 c1 c2 c3 c4
  have hi5 := h5.hi
  refine (y5 _ h5).mono ?_
  rintro e w6 ⟨rfl, h6, k6⟩
  have K6 := K5.trans k6
  have r6 := r5.keep k6 (by omega)
  obtain ⟨c0, c1, c2, c3, c4⟩ := h6.cells
  go_wp2_with fail
  refine (hsum _).mono ?_
  rintro e w7 ⟨rfl, rfl⟩
  obtain ⟨d0, d1, d2, d3, d4, d5⟩ := r6.cells
  go_wp2
  refine bodyPost_ret (retFr rfl _ _ _ rfl (r6.put 1 KD T5)) rfl ?_
  exact ⟨rfl, h6.keep (FrAt.put_keep _ _ 1 KD T5) (by omega), K6.step1 (FrAt.put_keep _ _ 1 KD T5) (Nat.le_refl _)⟩
set_option maxRecDepth 100000 in
set_option maxHeartbeats 4000000 in
theorem rtake7_F2 {w : World} {b : Nat} {s : ByteArray} {a x : Int} (h : Cur w b s a x) (g0 : mE s a x 215 = 0) (g1 : mE s (a + 1) 0 78 = 0) (g2 : vE s (a + 2) = 0) (hv : cByte s (a + 2) 0 = 2) (g3 : q6E s (a + 3) = 0) (g4 : q6N s (a + 3) = qSum s a) :
    Calls Tryz.prog 19 #[ptr b] w fun e w' => e = .returned (qFr s a x) ∧ Cur w' b s (qAt s a x) (qErr s a x) ∧ Keep1 b w w' := by
  have hlt := h.lt
  have r0 := FrAt.new w 0 0 ⟨#[]⟩ 31
  have k0 : Keep0 w (w.alloc (.cells #[.int .u8 0, .int .u8 0, .string ⟨#[]⟩] 31)) := (Keep.refl _ w).alloc _
  have h0 := h.keep0 k0
  have K0 : Keep1 b w _ := k0.any
  clear h k0
  have q1 := q_F g0 g1 g2 g3 g4
  rw [qFr_yes q1, q1, q_at g0 g1 g2, hv]
  clear q1
  obtain ⟨rfl, z1, z2, z3⟩ := mE_zero g0
  have y0 := fun W (h : Cur W b s a 0) => rbyte_any h
  rw [z2, z1, z3] at y0
  clear z1 z2 z3
  obtain ⟨_, z1, z2, z3⟩ := mE_zero g1
  rw [show a + 1 + 1 = a + 2 from by omega] at z3
  have y1 := fun W (h : Cur W b s (a + 1) 0) => rbyte_any h
  rw [z2, z1, z3] at y1
  clear z1 z2 z3
  obtain ⟨z1, z2, z3⟩ := vE_zero g2
  rw [show a + 2 + 1 = a + 3 from by omega] at z3
  have y2 := fun W (h : Cur W b s (a + 2) 0) => rbyte_any h
  rw [hv, z1, z3] at y2
  clear z1 z2 z3
  clear hv
  have y3 : ∀ W, Cur W b s (a + 3) 0 → Calls Tryz.prog 30 #[ptr b] W fun e w' => e = .returned (.int .i64 (cByte s (a + 3) 0)) ∧ Cur w' b s (q4A s (a + 3)) (q4E s (a + 3)) ∧ Keep1 b W w' := fun W h => rbyte_any h
  have y4 : ∀ W, Cur W b s (q4A s (a + 3)) (q4E s (a + 3)) → Calls Tryz.prog 31 #[ptr b, .int .i64 65536] W fun e w' => e = .returned (.string (q5T s (a + 3))) ∧ Cur w' b s (q5A s (a + 3)) (q5E s (a + 3)) ∧ Keep1 b W w' := fun W h => rblob_any 65536 (by decide) h
  have y5 : ∀ W, Cur W b s (q5A s (a + 3)) (q5E s (a + 3)) → Calls Tryz.prog 32 #[ptr b, .int .i64 4] W fun e w' => e = .returned (.int .u64 (q6N s (a + 3))) ∧ Cur w' b s (q6A s (a + 3)) (q6E s (a + 3)) ∧ Keep1 b W w' := fun W h => rtake4_any 4 h
  have ge := q5A_ge s (a + 3)
  have bk := cByte_bd s (a + 3) 0
  have lo := h0.lo
  have ssz := h0.sz
  rw [g3] at y5
  clear g3
  have hsum : ∀ W, Calls Tryz.prog 29 #[.string (cut s (a + 2) (q5A s (a + 3)))] W fun e w' => e = .returned (.int .u32 (qSum s a)) ∧ W = w' := fun W => rsum5_any W _ (by
    unfold cut
    rw [ByteArray.size_extract]
    omega)
  have qlt : qSum s a < 4294967296 := cMore_lt 0 _
  have e1 : ((q6N s (a + 3) : Int) != (qSum s a : Int)) = false := by simp; omega
  clear g4
  generalize cByte s (a + 3) 0 = KD at *
  generalize q4A s (a + 3) = A4 at *
  generalize q4E s (a + 3) = E4 at *
  generalize q5T s (a + 3) = T5 at *
  generalize q5A s (a + 3) = A5 at *
  generalize q5E s (a + 3) = E5 at *
  generalize q6N s (a + 3) = N6 at *
  generalize q6A s (a + 3) = A6 at *
  generalize qSum s a = QS at *
  go_enter Tryz.func19, Tryz.ntmps19
  go_wp2_with fail
  generalize hW0 : w.alloc (.cells #[.int .u8 0, .int .u8 0, .string ⟨#[]⟩] 31) = W0 at *
  clear hW0
  refine (y0 _ h0).mono ?_
  rintro e w1 ⟨rfl, h1, k1⟩
  have K1 := K0.trans k1
  have r1 := r0.keep k1 (by omega)
  obtain ⟨c0, c1, c2, c3, c4⟩ := h1.cells
  go_wp2_with fail
  clear c0 c1 c2 c3 c4
  refine (y1 _ h1).mono ?_
  rintro e w2 ⟨rfl, h2, k2⟩
  have K2 := K1.trans k2
  have r2 := r1.keep k2 (by omega)
  obtain ⟨c0, c1, c2, c3, c4⟩ := h2.cells
  go_wp2_with fail
  clear c0 c1 c2 c3 c4
  refine (y2 _ h2).mono ?_
  rintro e w3 ⟨rfl, h3, k3⟩
  have K3 := K2.trans k3
  have r3 := r2.keep k3 (by omega)
  obtain ⟨c0, c1, c2, c3, c4⟩ := h3.cells
  go_wp2_with fail
  clear c0 c1 c2 c3 c4
  refine (y3 _ h3).mono ?_
  rintro e w4 ⟨rfl, h4, k4⟩
  have K4 := K3.trans k4
  have r4 := r3.keep k4 (by omega)
  go_wp2_with fail
  refine (y4 _ h4).mono ?_
  rintro e w5 ⟨rfl, h5, k5⟩
  have K5 := K4.trans k5
  have r5 := r4.keep k5 (by omega)
  obtain ⟨c0, c1, c2, c3, c4⟩ := h5.cells
  go_wp2_with fail
  clear c0 c1 c2 c3 c4
  have hi5 := h5.hi
  refine (y5 _ h5).mono ?_
  rintro e w6 ⟨rfl, h6, k6⟩
  have K6 := K5.trans k6
  have r6 := r5.keep k6 (by omega)
  obtain ⟨c0, c1, c2, c3, c4⟩ := h6.cells
  go_wp2_with fail
  refine (hsum _).mono ?_
  rintro e w7 ⟨rfl, rfl⟩
  obtain ⟨d0, d1, d2, d3, d4, d5⟩ := r6.cells
  go_wp2
  refine bodyPost_ret (retFr rfl _ _ _ rfl (r6.put 2 KD T5)) rfl ?_
  exact ⟨rfl, h6.keep (FrAt.put_keep _ _ 2 KD T5) (by omega), K6.step1 (FrAt.put_keep _ _ 2 KD T5) (Nat.le_refl _)⟩
theorem rtake7_any {w : World} {b : Nat} {s : ByteArray} {a x : Int} (h : Cur w b s a x) :
    Calls Tryz.prog 19 #[ptr b] w fun e w' => e = .returned (qFr s a x) ∧ Cur w' b s (qAt s a x) (qErr s a x) ∧ Keep1 b w w' := by
  by_cases g0 : mE s a x 215 = 0
  · by_cases g1 : mE s (a + 1) 0 78 = 0
    · by_cases g2 : vE s (a + 2) = 0
      · have hv := of_decide_eq_true (vE_zero g2).2.1
        by_cases g3 : q6E s (a + 3) = 0
        · by_cases g4 : q6N s (a + 3) = qSum s a
          · rcases hv with hv | hv
            · exact rtake7_F1 h g0 g1 g2 hv g3 g4
            · exact rtake7_F2 h g0 g1 g2 hv g3 g4
          · rcases hv with hv | hv
            · exact rtake7_E1 h g0 g1 g2 hv g3 g4
            · exact rtake7_E2 h g0 g1 g2 hv g3 g4
        · rcases hv with hv | hv
          · exact rtake7_D1 h g0 g1 g2 hv g3
          · exact rtake7_D2 h g0 g1 g2 hv g3
      · obtain ⟨gn, ⟨gc, ge, gz⟩ | ⟨gc, ge⟩⟩ := vE_bad g2
        · exact rtake7_C1 h g0 g1 g2 gc ge gz
        · exact rtake7_C2 h g0 g1 g2 gn gc ge
    · obtain ⟨gc, ge, gz⟩ | ⟨gc, gn, ge⟩ := mE_bad g1
      · exact rtake7_B1 h g0 g1 gc ge gz
      · exact rtake7_B2 h g0 g1 gc gn ge
  · obtain ⟨gc, ge, gz⟩ | ⟨gc, gn, ge⟩ := mE_bad g0
    · exact rtake7_A1 h g0 gc ge gz
    · exact rtake7_A2 h g0 gc gn ge

/-- How many bytes Decode tells. -/
def qLen (s : ByteArray) : Int := if qErr s 0 0 = 0 then qAt s 0 0 else 0
end Go.Proofs.YtaleennijfefnaaGreat
