/-
  The walk of the law FrameDecodes, out of the contracts of package frame and of the document's own answers.
  Conditions: none beyond that a text takes at most the greatest length that a string may have.
-/
import Derived.Test.YtkmfcdcimmhmdaaLaw07
import Derived.Test.YtkmfcdcimmhmdaaHeld
namespace Go.Proofs.Ytkmfcdcimmhmdaa
open Go.RowKit

theorem decodes7_great (s : ByteArray) (w : World) (hl : ¬ (s.size : Int) ≤ 2000) : Calls Try.prog 4 #[.string s] w fun e w' => e = .returned (.bool true) ∧ Keep0 w w' := by
  go_enter Try.func4, Try.ntmps4
  go_wp2_with (go_at_call 6; refine (awake07 w).mono ?_; rintro e w1 ⟨rfl, k1⟩)
  go_ret
  exact ⟨rfl, k1⟩
set_option maxRecDepth 100000 in
set_option maxHeartbeats 8000000 in
theorem decodes7_bad (w : World) (s : ByteArray) (hs : s.size ≤ maxLen) (hl : (s.size : Int) ≤ 2000) (hE : qErr s 0 0 ≠ 0) :
    Calls Try.prog 4 #[.string s] w fun e w' => e = .returned (.bool true) ∧ Keep0 w w' := by
  have yd := fun W kb (h : CoderAt W kb) => decode7_any h s hs
  have yr := fun W => rdecode7_any W s hs
  have yt := fun W b kb (h : Cur W b s 0 0) (hc : CoderAt W kb) (hne : ¬ kb = some b) => take7_any h hc hne
  have yx := fun W b (h : Cur W b s 0 0) => rtake7_any h
  have eE : (qErr s 0 0 != 0) = true := by simpa using hE
  obtain ⟨V, KD, T, hF⟩ : ∃ V KD T, qFr s 0 0 = fr V KD T := ⟨0, 0, ⟨#[]⟩, qFr_no hE⟩
  rw [hF] at yd yr yt yx
  unfold fr at *
  generalize qLen s = M at *
  generalize qAt s 0 0 = A at *
  generalize qErr s 0 0 = E at *
  clear hE hF
  go_enter Try.func4, Try.ntmps4
  go_wp2_with fail
  refine (awake07 w).mono ?_
  rintro e w1 ⟨rfl, K1⟩
  go_wp2_with fail
  refine (newcoder_any _).mono ?_
  rintro e w2 ⟨rfl, c2, k2⟩
  have K2 := K1.trans k2
  have s1 := K1.size
  obtain ⟨kb, hkb⟩ : ∃ kb, kb = w1.heap.size := ⟨_, rfl⟩
  rw [← hkb] at c2
  rw [← hkb]
  have hk0 : w.heap.size ≤ kb := by omega
  clear k2 K1
  generalize hKV : kptr (some kb) = KV
  have yd := yd _ _ c2
  rw [hKV] at yd
  go_wp2_with fail
  refine yd.mono ?_
  rintro e w3 ⟨rfl, c3, k3⟩
  have K3 := K2.step k3 (fun i hi hh => by cases hh; omega)
  clear yd k3 K2 c2
  have f4 := FrAt.new w3 V KD T 23
  have k4 : Keep0 w3 (w3.alloc (.cells #[.int .u8 V, .int .u8 KD, .string T] 23)) := (Keep.refl _ w3).alloc _
  have c4 := c3.keep0 k4
  have K4 := K3.step0 k4
  have s3 := c3.lt
  go_wp2_with fail
  generalize w3.alloc (.cells #[.int .u8 V, .int .u8 KD, .string T] 23) = w4 at *
  generalize w3.heap.size = g4 at *
  clear k4 c3 K3
  refine (yr _).mono ?_
  rintro e w5 ⟨rfl, k5⟩
  have f5 := f4.keep0 k5
  have c5 := c4.keep0 k5
  have K5 := K4.step0 k5
  clear yr k5 c4 K4 f4
  have g6 := FrAt.new w5 V KD T 23
  have k6 : Keep0 w5 (w5.alloc (.cells #[.int .u8 V, .int .u8 KD, .string T] 23)) := (Keep.refl _ w5).alloc _
  have f6 := f5.keep0 k6
  have c6 := c5.keep0 k6
  have K6 := K5.step0 k6
  obtain ⟨d0, d1, d2, d3, d4, d5⟩ := f6.cells
  obtain ⟨i0, i1, i2, i3, i4, i5⟩ := g6.cells
  clear d3 d4 d5 i3 i4 i5 k6 c5 K5 f5
  go_wp2_with fail
  generalize w5.alloc (.cells #[.int .u8 V, .int .u8 KD, .string T] 23) = w6 at *
  generalize w5.heap.size = g6' at *
  refine (new_any _ s hs).mono ?_
  rintro e w7 ⟨rfl, h7, k7⟩
  have f7 := f6.keep0 k7
  have c7 := c6.keep0 k7
  have K7 := K6.step0 k7
  have s7 := c6.lt
  have s8 := f6.lt
  have z6 := K6.size
  have z7 := h7.lt
  generalize w6.heap.size = b1 at *
  clear d0 d1 d2 i0 i1 i2 f6 c6 K6 k7 g6
  have k8 : Keep0 w7 (w7.alloc (.cells #[.string s, .int .i64 0, .int .i64 0] 42)) := (Keep.refl _ w7).alloc _
  have f8 := f7.keep0 k8
  have c8 := c7.keep0 k8
  have K8 := K7.step0 k8
  have h8 := h7.keep0 k8
  have x8 := Cur.new w7 s 42 hs
  clear f7 c7 K7 h7 k8
  go_wp2_with fail
  have kD := K8.drew
  have fD : FrAt (w7.alloc (.cells #[.string s, .int .i64 0, .int .i64 0] 42)).drew _ _ _ _ := f8.keep0 (Keep.refl _ _).drew
  have cD : CoderAt (w7.alloc (.cells #[.string s, .int .i64 0, .int .i64 0] 42)).drew _ := c8.keep0 (Keep.refl _ _).drew
  have hD : Cur (w7.alloc (.cells #[.string s, .int .i64 0, .int .i64 0] 42)).drew _ _ _ _ := h8.keep0 (Keep.refl _ _).drew
  have xD : Cur (w7.alloc (.cells #[.string s, .int .i64 0, .int .i64 0] 42)).drew _ _ _ _ := x8.keep0 (Keep.refl _ _).drew
  clear f8 c8 K8 h8 x8
  refine wp_region_held_drew (S := fun _ => True) (by kernel_rfl) trivial (fun hHeld => ?_)
  generalize (w7.alloc (.cells #[.string s, .int .i64 0, .int .i64 0] 42)).drew = w8 at *
  generalize w7.heap.size = b2 at *
  have yt := yt _ _ _ hD cD (by intro hh; cases hh; omega)
  rw [hKV] at yt
  refine wpAnyH_take (i := 0) (v := ?rbad0v) (by simp only [List.getElem?_toArray, List.getElem?_cons_zero] <;> rfl) (by kernel_rfl) (by kernel_rfl) (by kernel_rfl) (by exact fun _ _ _ h => h) (Or.inl ⟨by rfl, ?rbad0y⟩) hHeld ?rbad0r
  case rbad0y => intro w hSw; (try dsimp only at hSw); go_simp <;> rfl
  simp only [Act.put, List.setIfInBounds_toArray, List.set_cons_zero, List.set_cons_succ]
  refine wpAnyH_take (i := 1) (v := ?rbad1v) (by simp only [List.getElem?_toArray, List.getElem?_cons_succ, List.getElem?_cons_zero] <;> rfl) (by kernel_rfl) (by kernel_rfl) (by kernel_rfl) (by exact fun _ _ _ h => h) (Or.inl ⟨by rfl, ?rbad1y⟩) hHeld ?rbad1r
  case rbad1y => intro w hSw; (try dsimp only at hSw); go_simp <;> rfl
  simp only [Act.put, List.setIfInBounds_toArray, List.set_cons_zero, List.set_cons_succ]
  refine wpAnyH_take (i := 3) (v := ?rbad2v) (by simp only [List.getElem?_toArray, List.getElem?_cons_succ, List.getElem?_cons_zero] <;> rfl) (by kernel_rfl) (by kernel_rfl) (by kernel_rfl) (by exact fun _ _ _ h => h) (Or.inl ⟨by rfl, ?rbad2y⟩) hHeld ?rbad2r
  case rbad2y => intro w hSw; (try dsimp only at hSw); go_simp <;> rfl
  simp only [Act.put, List.setIfInBounds_toArray, List.set_cons_zero, List.set_cons_succ]
  refine wpAnyH_ready (rs := [2]) (by kernel_rfl) (by simp) ?_
  refine AllReadyH.cons (by simp only [List.getElem?_toArray, List.getElem?_cons_succ, List.getElem?_cons_zero] <;> rfl) (fun K hK => ?_) AllReadyH.nil
  go_simp
  refine yt.mono ?_
  rintro e w9 ⟨rfl, h9, c9, k9⟩
  have x9 := xD.keep k9 (by rintro (hh | hh); omega; cases hh; omega)
  have f9 := fD.keep k9 (by rintro (hh | hh); omega; cases hh; omega)
  have K9 : Keep0 w w9 := kD.step k9 (fun i hi hh => by rcases hh with hh | hh; omega; cases hh; omega)
  clear yt
  go_wp2_with fail
  refine hK.out _ _ trivial (fun hHeld => ?_)
  clear hK K
  refine wpAnyH_ready (rs := [4]) (by kernel_rfl) (by simp) ?_
  refine AllReadyH.cons (by simp only [List.getElem?_toArray, List.getElem?_cons_succ, List.getElem?_cons_zero] <;> rfl) (fun K hK => ?_) AllReadyH.nil
  go_simp
  refine (yx _ _ x9).mono ?_
  rintro e w10 ⟨rfl, x10, k10⟩
  have h10 := h9.keep k10 (by omega)
  have f10 := f9.keep k10 (by omega)
  have c10 := c9.keep k10 (fun g hg hh => by cases hg; omega)
  have K10 : Keep0 w w10 := K9.step1 k10 (by omega)
  have g1 := x10.cells.2.1
  have g2 := x10.cells.2.2.1
  go_wp2_with fail
  refine hK.out _ _ trivial (fun hHeld => ?_)
  clear hK K
  clear hHeld
  refine wpAnyH_strong (S' := fun w' => w'.cell? ⟨b2, 1, none⟩ = some (.int .i64 A) ∧ w'.cell? ⟨b2, 2, none⟩ = some (.int .i64 E)) (fun _ _ => trivial) ⟨g1, g2⟩ (fun hHeld => ?_)
  refine wpAnyH_take (i := 5) (v := ?rbad3v) (by simp only [List.getElem?_toArray, List.getElem?_cons_succ, List.getElem?_cons_zero] <;> rfl) (by kernel_rfl) (by kernel_rfl) (by kernel_rfl) (by exact fun _ _ _ h => h) (Or.inl ⟨by rfl, ?rbad3y⟩) hHeld ?rbad3r
  case rbad3y => intro w hSw; (try dsimp only at hSw); go_simp <;> rfl
  simp only [Act.put, List.setIfInBounds_toArray, List.set_cons_zero, List.set_cons_succ]
  refine wpAnyH_take (i := 6) (v := ?rbad4v) (by simp only [List.getElem?_toArray, List.getElem?_cons_succ, List.getElem?_cons_zero] <;> rfl) (by kernel_rfl) (by kernel_rfl) (by kernel_rfl) (by exact fun _ _ _ h => h) (Or.inl ⟨by rfl, ?rbad4y⟩) hHeld ?rbad4r
  case rbad4y => intro w hSw; (try dsimp only at hSw); go_simp <;> rfl
  simp only [Act.put, List.setIfInBounds_toArray, List.set_cons_zero, List.set_cons_succ]
  refine wpAnyH_take (i := 7) (v := ?rbad5v) (by simp only [List.getElem?_toArray, List.getElem?_cons_succ, List.getElem?_cons_zero] <;> rfl) (by kernel_rfl) (by kernel_rfl) (by kernel_rfl) (by exact fun _ _ _ h => h) (Or.inl ⟨by rfl, ?rbad5y⟩) hHeld ?rbad5r
  case rbad5y => intro w hSw; (try dsimp only at hSw); go_simp <;> rfl
  simp only [Act.put, List.setIfInBounds_toArray, List.set_cons_zero, List.set_cons_succ]
  refine wpAnyH_take (i := 9) (v := ?rbad6v) (by simp only [List.getElem?_toArray, List.getElem?_cons_succ, List.getElem?_cons_zero] <;> rfl) (by kernel_rfl) (by kernel_rfl) (by kernel_rfl) (by exact fun _ _ _ h => h) (Or.inl ⟨by rfl, ?rbad6y⟩) hHeld ?rbad6r
  case rbad6y => intro w hSw; (try dsimp only at hSw); go_simp <;> rfl
  simp only [Act.put, List.setIfInBounds_toArray, List.set_cons_zero, List.set_cons_succ]
  refine wpAnyH_take (i := 10) (v := ?rbad7v) (by simp only [List.getElem?_toArray, List.getElem?_cons_succ, List.getElem?_cons_zero] <;> rfl) (by kernel_rfl) (by kernel_rfl) (by kernel_rfl) (by exact fun _ _ _ h => h) (Or.inl ⟨by rfl, ?rbad7y⟩) hHeld ?rbad7r
  case rbad7y => intro w hSw; (try dsimp only at hSw); go_simp <;> rfl
  simp only [Act.put, List.setIfInBounds_toArray, List.set_cons_zero, List.set_cons_succ]
  refine wpAnyH_take (i := 11) (v := ?rbad8v) (by simp only [List.getElem?_toArray, List.getElem?_cons_succ, List.getElem?_cons_zero] <;> rfl) (by kernel_rfl) (by kernel_rfl) (by kernel_rfl) (by exact fun _ _ _ h => h) (Or.inl ⟨by rfl, ?rbad8y⟩) hHeld ?rbad8r
  case rbad8y => intro w hSw; (try dsimp only at hSw); go_simp <;> rfl
  simp only [Act.put, List.setIfInBounds_toArray, List.set_cons_zero, List.set_cons_succ]
  refine wpAnyH_take (i := 12) (v := ?rbad9v) (by simp only [List.getElem?_toArray, List.getElem?_cons_succ, List.getElem?_cons_zero] <;> rfl) (by kernel_rfl) (by kernel_rfl) (by kernel_rfl) (by exact fun _ _ _ h => h) (Or.inl ⟨by rfl, ?rbad9y⟩) hHeld ?rbad9r
  case rbad9y => intro w hSw; (try dsimp only at hSw); go_simp <;> rfl
  simp only [Act.put, List.setIfInBounds_toArray, List.set_cons_zero, List.set_cons_succ]
  refine wpAnyH_ready (rs := [8]) (by kernel_rfl) (by simp) ?_
  refine AllReadyH.cons (by simp only [List.getElem?_toArray, List.getElem?_cons_succ, List.getElem?_cons_zero] <;> rfl) (fun K hK => ?_) AllReadyH.nil
  go_simp
  refine (err_any h10).mono ?_
  rintro e w' ⟨rfl, rfl⟩
  go_wp2_with fail
  refine hK.out _ _ ⟨g1, g2⟩ (fun hHeld => ?_)
  clear hK K
  refine wpAnyH_take (i := 13) (v := ?rbad10v) (by simp only [List.getElem?_toArray, List.getElem?_cons_succ, List.getElem?_cons_zero] <;> rfl) (by kernel_rfl) (by kernel_rfl) (by kernel_rfl) (by exact fun _ _ _ h => h) (Or.inl ⟨by rfl, ?rbad10y⟩) hHeld ?rbad10r
  case rbad10y => intro w hSw; (try dsimp only at hSw); go_simp <;> rfl
  simp only [Act.put, List.setIfInBounds_toArray, List.set_cons_zero, List.set_cons_succ]
  refine wpAnyH_take (i := 14) (v := ?rbad11v) (by simp only [List.getElem?_toArray, List.getElem?_cons_succ, List.getElem?_cons_zero] <;> rfl) (by kernel_rfl) (by kernel_rfl) (by kernel_rfl) (by exact fun _ _ _ h => h) (Or.inl ⟨by rfl, ?rbad11y⟩) hHeld ?rbad11r
  case rbad11y => intro w hSw; (try dsimp only at hSw); go_simp <;> rfl
  simp only [Act.put, List.setIfInBounds_toArray, List.set_cons_zero, List.set_cons_succ]
  refine wpAnyH_take (i := 15) (v := ?rbad12v) (by simp only [List.getElem?_toArray, List.getElem?_cons_succ, List.getElem?_cons_zero] <;> rfl) (by kernel_rfl) (by kernel_rfl) (by kernel_rfl) (by exact fun _ _ _ h => h) (Or.inl ⟨by rfl, ?rbad12y⟩) hHeld ?rbad12r
  case rbad12y => intro w hSw; (try dsimp only at hSw); go_simp <;> rfl
  simp only [Act.put, List.setIfInBounds_toArray, List.set_cons_zero, List.set_cons_succ]
  refine wpAnyH_take (i := 16) (v := ?rbad13v) (by simp only [List.getElem?_toArray, List.getElem?_cons_succ, List.getElem?_cons_zero] <;> rfl) (by kernel_rfl) (by kernel_rfl) (by kernel_rfl) (by exact fun _ _ _ h => h) (Or.inl ⟨by rfl, ?rbad13y⟩) hHeld ?rbad13r
  case rbad13y => intro w hSw; (try dsimp only at hSw); go_simp <;> rfl
  simp only [Act.put, List.setIfInBounds_toArray, List.set_cons_zero, List.set_cons_succ]
  refine wpAnyH_take (i := 18) (v := ?rbad14v) (by simp only [List.getElem?_toArray, List.getElem?_cons_succ, List.getElem?_cons_zero] <;> rfl) (by kernel_rfl) (by kernel_rfl) (by kernel_rfl) (by exact fun _ _ _ h => h) (Or.inl ⟨by rfl, ?rbad14y⟩) hHeld ?rbad14r
  case rbad14y => intro w hSw; (try dsimp only at hSw); go_simp <;> rfl
  simp only [Act.put, List.setIfInBounds_toArray, List.set_cons_zero, List.set_cons_succ]
  refine wpAnyH_take (i := 19) (v := ?rbad15v) (by simp only [List.getElem?_toArray, List.getElem?_cons_succ, List.getElem?_cons_zero] <;> rfl) (by kernel_rfl) (by kernel_rfl) (by kernel_rfl) (by exact fun _ _ _ h => h) (Or.inl ⟨by rfl, ?rbad15y⟩) hHeld ?rbad15r
  case rbad15y => intro w hSw; (try dsimp only at hSw); go_simp <;> rfl
  simp only [Act.put, List.setIfInBounds_toArray, List.set_cons_zero, List.set_cons_succ]
  refine wpAnyH_take (i := 20) (v := ?rbad16v) (by simp only [List.getElem?_toArray, List.getElem?_cons_succ, List.getElem?_cons_zero] <;> rfl) (by kernel_rfl) (by kernel_rfl) (by kernel_rfl) (by exact fun _ _ _ h => h) (Or.inl ⟨by rfl, ?rbad16y⟩) hHeld ?rbad16r
  case rbad16y => intro w hSw; (try dsimp only at hSw); go_simp <;> rfl
  simp only [Act.put, List.setIfInBounds_toArray, List.set_cons_zero, List.set_cons_succ]
  refine wpAnyH_take (i := 21) (v := ?rbad17v) (by simp only [List.getElem?_toArray, List.getElem?_cons_succ, List.getElem?_cons_zero] <;> rfl) (by kernel_rfl) (by kernel_rfl) (by kernel_rfl) (by exact fun _ _ _ h => h) (Or.inl ⟨by rfl, ?rbad17y⟩) hHeld ?rbad17r
  case rbad17y => intro w hSw; (try dsimp only at hSw); go_simp <;> rfl
  simp only [Act.put, List.setIfInBounds_toArray, List.set_cons_zero, List.set_cons_succ]
  refine wpAnyH_ready (rs := [17]) (by kernel_rfl) (by simp) ?_
  refine AllReadyH.cons (by simp only [List.getElem?_toArray, List.getElem?_cons_succ, List.getElem?_cons_zero] <;> rfl) (fun K hK => ?_) AllReadyH.nil
  go_simp
  refine (at_any h10).mono ?_
  rintro e w' ⟨rfl, rfl⟩
  go_wp2_with fail
  refine hK.out _ _ ⟨g1, g2⟩ (fun hHeld => ?_)
  clear hK K
  refine wpAnyH_take (i := 22) (v := ?rbad18v) (by simp only [List.getElem?_toArray, List.getElem?_cons_succ, List.getElem?_cons_zero] <;> rfl) (by kernel_rfl) (by kernel_rfl) (by kernel_rfl) (by exact fun _ _ _ h => h) (Or.inl ⟨by rfl, ?rbad18y⟩) hHeld ?rbad18r
  case rbad18y => intro w hSw; (try dsimp only at hSw); go_simp <;> rfl
  simp only [Act.put, List.setIfInBounds_toArray, List.set_cons_zero, List.set_cons_succ]
  refine wpAnyH_take (i := 23) (v := ?rbad19v) (by simp only [List.getElem?_toArray, List.getElem?_cons_succ, List.getElem?_cons_zero] <;> rfl) (by kernel_rfl) (by kernel_rfl) (by kernel_rfl) (by exact fun _ _ _ h => h) (Or.inl ⟨by rfl, ?rbad19y⟩) hHeld ?rbad19r
  case rbad19y => intro w hSw; (try dsimp only at hSw); go_simp <;> rfl
  simp only [Act.put, List.setIfInBounds_toArray, List.set_cons_zero, List.set_cons_succ]
  refine wpAnyH_done (by kernel_rfl) ?_ _
  go_wp2
  go_ret
  exact ⟨rfl, K10⟩
set_option maxRecDepth 100000 in
set_option maxHeartbeats 8000000 in
theorem decodes7_ok (w : World) (s : ByteArray) (hs : s.size ≤ maxLen) (hl : (s.size : Int) ≤ 2000) (hE : qErr s 0 0 = 0) :
    Calls Try.prog 4 #[.string s] w fun e w' => e = .returned (.bool true) ∧ Keep0 w w' := by
  have yd := fun W kb (h : CoderAt W kb) => decode7_any h s hs
  have yr := fun W => rdecode7_any W s hs
  have yt := fun W b kb (h : Cur W b s 0 0) (hc : CoderAt W kb) (hne : ¬ kb = some b) => take7_any h hc hne
  have yx := fun W b (h : Cur W b s 0 0) => rtake7_any h
  obtain ⟨v, k, p, _, hv, hp, hF, hle, hsz, hcut⟩ := frame_read (s := s) (a := 0) (x := 0) (by decide) hE
  have hM : qLen s = qAt s 0 0 := if_pos hE
  rw [hF, hE, hM] at yd yr
  rw [hF, hE] at yt yx
  have ye := fun W kb (h : CoderAt W kb) => encode7_ok h v k p (by unfold maxLen; omega) hv (by omega)
  unfold fr at *
  have hA0 : 0 ≤ qAt s 0 0 := by
    obtain ⟨q1, _, _⟩ := z_all s 0 0
    have h1 := z_mono s 0 0
    have h2 := (fTake_yes (s := s) (a := z5A s 0 0) (x := z5E s 0 0) (k := 4) rfl).2.1
    have h3 := cAt_ge s (z5A s 0 0) (z5E s 0 0) 4
    rw [← q1]
    unfold z6A
    omega
  have HX : Hid (s.extract 0 (qAt s 0 0).toNat = fEnc v k p) := hcut
  have hX := HX.out
  generalize fEnc v k p = FE at *
  generalize qAt s 0 0 = A at *
  generalize (v.toNat : Int) = V at *
  generalize (k.toNat : Int) = KD at *
  clear hE hF hM hcut hv hp hsz
  go_enter Try.func4, Try.ntmps4
  go_wp2_with fail
  refine (awake07 w).mono ?_
  rintro e w1 ⟨rfl, K1⟩
  go_wp2_with fail
  refine (newcoder_any _).mono ?_
  rintro e w2 ⟨rfl, c2, k2⟩
  have K2 := K1.trans k2
  have s1 := K1.size
  obtain ⟨kb, hkb⟩ : ∃ kb, kb = w1.heap.size := ⟨_, rfl⟩
  rw [← hkb] at c2
  rw [← hkb]
  have hk0 : w.heap.size ≤ kb := by omega
  clear k2 K1
  generalize hKV : kptr (some kb) = KV
  have yd := yd _ _ c2
  rw [hKV] at yd
  go_wp2_with fail
  refine yd.mono ?_
  rintro e w3 ⟨rfl, c3, k3⟩
  have K3 := K2.step k3 (fun i hi hh => by cases hh; omega)
  clear yd k3 K2 c2
  have f4 := FrAt.new w3 V KD p 23
  have k4 : Keep0 w3 (w3.alloc (.cells #[.int .u8 V, .int .u8 KD, .string p] 23)) := (Keep.refl _ w3).alloc _
  have c4 := c3.keep0 k4
  have K4 := K3.step0 k4
  have s3 := c3.lt
  go_wp2_with fail
  generalize w3.alloc (.cells #[.int .u8 V, .int .u8 KD, .string p] 23) = w4 at *
  generalize w3.heap.size = g4 at *
  clear k4 c3 K3
  refine (yr _).mono ?_
  rintro e w5 ⟨rfl, k5⟩
  have f5 := f4.keep0 k5
  have c5 := c4.keep0 k5
  have K5 := K4.step0 k5
  clear yr k5 c4 K4 f4
  have g6 := FrAt.new w5 V KD p 23
  have k6 : Keep0 w5 (w5.alloc (.cells #[.int .u8 V, .int .u8 KD, .string p] 23)) := (Keep.refl _ w5).alloc _
  have f6 := f5.keep0 k6
  have c6 := c5.keep0 k6
  have K6 := K5.step0 k6
  obtain ⟨d0, d1, d2, d3, d4, d5⟩ := f6.cells
  obtain ⟨i0, i1, i2, i3, i4, i5⟩ := g6.cells
  clear d3 d4 d5 i3 i4 i5 k6 c5 K5 f5
  go_wp2_with fail
  generalize w5.alloc (.cells #[.int .u8 V, .int .u8 KD, .string p] 23) = w6 at *
  generalize w5.heap.size = g6' at *
  refine (new_any _ s hs).mono ?_
  rintro e w7 ⟨rfl, h7, k7⟩
  have f7 := f6.keep0 k7
  have c7 := c6.keep0 k7
  have K7 := K6.step0 k7
  have s7 := c6.lt
  have s8 := f6.lt
  have z6 := K6.size
  have z7 := h7.lt
  generalize w6.heap.size = b1 at *
  clear d0 d1 d2 i0 i1 i2 f6 c6 K6 k7 g6
  have k8 : Keep0 w7 (w7.alloc (.cells #[.string s, .int .i64 0, .int .i64 0] 42)) := (Keep.refl _ w7).alloc _
  have f8 := f7.keep0 k8
  have c8 := c7.keep0 k8
  have K8 := K7.step0 k8
  have h8 := h7.keep0 k8
  have x8 := Cur.new w7 s 42 hs
  clear f7 c7 K7 h7 k8
  go_wp2_with fail
  have kD := K8.drew
  have fD : FrAt (w7.alloc (.cells #[.string s, .int .i64 0, .int .i64 0] 42)).drew _ _ _ _ := f8.keep0 (Keep.refl _ _).drew
  have cD : CoderAt (w7.alloc (.cells #[.string s, .int .i64 0, .int .i64 0] 42)).drew _ := c8.keep0 (Keep.refl _ _).drew
  have hD : Cur (w7.alloc (.cells #[.string s, .int .i64 0, .int .i64 0] 42)).drew _ _ _ _ := h8.keep0 (Keep.refl _ _).drew
  have xD : Cur (w7.alloc (.cells #[.string s, .int .i64 0, .int .i64 0] 42)).drew _ _ _ _ := x8.keep0 (Keep.refl _ _).drew
  clear f8 c8 K8 h8 x8
  refine wp_region_held_drew (S := fun _ => True) (by kernel_rfl) trivial (fun hHeld => ?_)
  generalize (w7.alloc (.cells #[.string s, .int .i64 0, .int .i64 0] 42)).drew = w8 at *
  generalize w7.heap.size = b2 at *
  have yt := yt _ _ _ hD cD (by intro hh; cases hh; omega)
  rw [hKV] at yt
  refine wpAnyH_take (i := 0) (v := ?rok0v) (by simp only [List.getElem?_toArray, List.getElem?_cons_zero] <;> rfl) (by kernel_rfl) (by kernel_rfl) (by kernel_rfl) (by exact fun _ _ _ h => h) (Or.inl ⟨by rfl, ?rok0y⟩) hHeld ?rok0r
  case rok0y => intro w hSw; (try dsimp only at hSw); go_simp <;> rfl
  simp only [Act.put, List.setIfInBounds_toArray, List.set_cons_zero, List.set_cons_succ]
  refine wpAnyH_take (i := 1) (v := ?rok1v) (by simp only [List.getElem?_toArray, List.getElem?_cons_succ, List.getElem?_cons_zero] <;> rfl) (by kernel_rfl) (by kernel_rfl) (by kernel_rfl) (by exact fun _ _ _ h => h) (Or.inl ⟨by rfl, ?rok1y⟩) hHeld ?rok1r
  case rok1y => intro w hSw; (try dsimp only at hSw); go_simp <;> rfl
  simp only [Act.put, List.setIfInBounds_toArray, List.set_cons_zero, List.set_cons_succ]
  refine wpAnyH_take (i := 3) (v := ?rok2v) (by simp only [List.getElem?_toArray, List.getElem?_cons_succ, List.getElem?_cons_zero] <;> rfl) (by kernel_rfl) (by kernel_rfl) (by kernel_rfl) (by exact fun _ _ _ h => h) (Or.inl ⟨by rfl, ?rok2y⟩) hHeld ?rok2r
  case rok2y => intro w hSw; (try dsimp only at hSw); go_simp <;> rfl
  simp only [Act.put, List.setIfInBounds_toArray, List.set_cons_zero, List.set_cons_succ]
  refine wpAnyH_ready (rs := [2]) (by kernel_rfl) (by simp) ?_
  refine AllReadyH.cons (by simp only [List.getElem?_toArray, List.getElem?_cons_succ, List.getElem?_cons_zero] <;> rfl) (fun K hK => ?_) AllReadyH.nil
  go_simp
  refine yt.mono ?_
  rintro e w9 ⟨rfl, h9, c9, k9⟩
  have x9 := xD.keep k9 (by rintro (hh | hh); omega; cases hh; omega)
  have f9 := fD.keep k9 (by rintro (hh | hh); omega; cases hh; omega)
  have K9 : Keep0 w w9 := kD.step k9 (fun i hi hh => by rcases hh with hh | hh; omega; cases hh; omega)
  clear yt
  go_wp2_with fail
  refine hK.out _ _ trivial (fun hHeld => ?_)
  clear hK K
  refine wpAnyH_ready (rs := [4]) (by kernel_rfl) (by simp) ?_
  refine AllReadyH.cons (by simp only [List.getElem?_toArray, List.getElem?_cons_succ, List.getElem?_cons_zero] <;> rfl) (fun K hK => ?_) AllReadyH.nil
  go_simp
  refine (yx _ _ x9).mono ?_
  rintro e w10 ⟨rfl, x10, k10⟩
  have h10 := h9.keep k10 (by omega)
  have f10 := f9.keep k10 (by omega)
  have c10 := c9.keep k10 (fun g hg hh => by cases hg; omega)
  have K10 : Keep0 w w10 := K9.step1 k10 (by omega)
  have g1 := x10.cells.2.1
  have g2 := x10.cells.2.2.1
  go_wp2_with fail
  refine hK.out _ _ trivial (fun hHeld => ?_)
  clear hK K
  clear hHeld
  refine wpAnyH_strong (S' := fun w' => w'.cell? ⟨b2, 1, none⟩ = some (.int .i64 A) ∧ w'.cell? ⟨b2, 2, none⟩ = some (.int .i64 0)) (fun _ _ => trivial) ⟨g1, g2⟩ (fun hHeld => ?_)
  refine wpAnyH_take (i := 5) (v := ?rok3v) (by simp only [List.getElem?_toArray, List.getElem?_cons_succ, List.getElem?_cons_zero] <;> rfl) (by kernel_rfl) (by kernel_rfl) (by kernel_rfl) (by exact fun _ _ _ h => h) (Or.inl ⟨by rfl, ?rok3y⟩) hHeld ?rok3r
  case rok3y => intro w hSw; (try dsimp only at hSw); go_simp <;> rfl
  simp only [Act.put, List.setIfInBounds_toArray, List.set_cons_zero, List.set_cons_succ]
  refine wpAnyH_take (i := 6) (v := ?rok4v) (by simp only [List.getElem?_toArray, List.getElem?_cons_succ, List.getElem?_cons_zero] <;> rfl) (by kernel_rfl) (by kernel_rfl) (by kernel_rfl) (by exact fun _ _ _ h => h) (Or.inl ⟨by rfl, ?rok4y⟩) hHeld ?rok4r
  case rok4y => intro w hSw; (try dsimp only at hSw); go_simp <;> rfl
  simp only [Act.put, List.setIfInBounds_toArray, List.set_cons_zero, List.set_cons_succ]
  refine wpAnyH_take (i := 7) (v := ?rok5v) (by simp only [List.getElem?_toArray, List.getElem?_cons_succ, List.getElem?_cons_zero] <;> rfl) (by kernel_rfl) (by kernel_rfl) (by kernel_rfl) (by exact fun _ _ _ h => h) (Or.inl ⟨by rfl, ?rok5y⟩) hHeld ?rok5r
  case rok5y => intro w hSw; (try dsimp only at hSw); go_simp <;> rfl
  simp only [Act.put, List.setIfInBounds_toArray, List.set_cons_zero, List.set_cons_succ]
  refine wpAnyH_take (i := 9) (v := ?rok6v) (by simp only [List.getElem?_toArray, List.getElem?_cons_succ, List.getElem?_cons_zero] <;> rfl) (by kernel_rfl) (by kernel_rfl) (by kernel_rfl) (by exact fun _ _ _ h => h) (Or.inl ⟨by rfl, ?rok6y⟩) hHeld ?rok6r
  case rok6y => intro w hSw; (try dsimp only at hSw); go_simp <;> rfl
  simp only [Act.put, List.setIfInBounds_toArray, List.set_cons_zero, List.set_cons_succ]
  refine wpAnyH_take (i := 10) (v := ?rok7v) (by simp only [List.getElem?_toArray, List.getElem?_cons_succ, List.getElem?_cons_zero] <;> rfl) (by kernel_rfl) (by kernel_rfl) (by kernel_rfl) (by exact fun _ _ _ h => h) (Or.inl ⟨by rfl, ?rok7y⟩) hHeld ?rok7r
  case rok7y => intro w hSw; (try dsimp only at hSw); go_simp <;> rfl
  simp only [Act.put, List.setIfInBounds_toArray, List.set_cons_zero, List.set_cons_succ]
  refine wpAnyH_take (i := 11) (v := ?rok8v) (by simp only [List.getElem?_toArray, List.getElem?_cons_succ, List.getElem?_cons_zero] <;> rfl) (by kernel_rfl) (by kernel_rfl) (by kernel_rfl) (by exact fun _ _ _ h => h) (Or.inl ⟨by rfl, ?rok8y⟩) hHeld ?rok8r
  case rok8y => intro w hSw; (try dsimp only at hSw); go_simp <;> rfl
  simp only [Act.put, List.setIfInBounds_toArray, List.set_cons_zero, List.set_cons_succ]
  refine wpAnyH_take (i := 12) (v := ?rok9v) (by simp only [List.getElem?_toArray, List.getElem?_cons_succ, List.getElem?_cons_zero] <;> rfl) (by kernel_rfl) (by kernel_rfl) (by kernel_rfl) (by exact fun _ _ _ h => h) (Or.inl ⟨by rfl, ?rok9y⟩) hHeld ?rok9r
  case rok9y => intro w hSw; (try dsimp only at hSw); go_simp <;> rfl
  simp only [Act.put, List.setIfInBounds_toArray, List.set_cons_zero, List.set_cons_succ]
  refine wpAnyH_ready (rs := [8]) (by kernel_rfl) (by simp) ?_
  refine AllReadyH.cons (by simp only [List.getElem?_toArray, List.getElem?_cons_succ, List.getElem?_cons_zero] <;> rfl) (fun K hK => ?_) AllReadyH.nil
  go_simp
  refine (err_any h10).mono ?_
  rintro e w' ⟨rfl, rfl⟩
  go_wp2_with fail
  refine hK.out _ _ ⟨g1, g2⟩ (fun hHeld => ?_)
  clear hK K
  refine wpAnyH_take (i := 13) (v := ?rok10v) (by simp only [List.getElem?_toArray, List.getElem?_cons_succ, List.getElem?_cons_zero] <;> rfl) (by kernel_rfl) (by kernel_rfl) (by kernel_rfl) (by exact fun _ _ _ h => h) (Or.inl ⟨by rfl, ?rok10y⟩) hHeld ?rok10r
  case rok10y => intro w hSw; (try dsimp only at hSw); go_simp <;> rfl
  simp only [Act.put, List.setIfInBounds_toArray, List.set_cons_zero, List.set_cons_succ]
  refine wpAnyH_take (i := 14) (v := ?rok11v) (by simp only [List.getElem?_toArray, List.getElem?_cons_succ, List.getElem?_cons_zero] <;> rfl) (by kernel_rfl) (by kernel_rfl) (by kernel_rfl) (by exact fun _ _ _ h => h) (Or.inl ⟨by rfl, ?rok11y⟩) hHeld ?rok11r
  case rok11y => intro w hSw; (try dsimp only at hSw); go_simp <;> rfl
  simp only [Act.put, List.setIfInBounds_toArray, List.set_cons_zero, List.set_cons_succ]
  refine wpAnyH_take (i := 15) (v := ?rok12v) (by simp only [List.getElem?_toArray, List.getElem?_cons_succ, List.getElem?_cons_zero] <;> rfl) (by kernel_rfl) (by kernel_rfl) (by kernel_rfl) (by exact fun _ _ _ h => h) (Or.inl ⟨by rfl, ?rok12y⟩) hHeld ?rok12r
  case rok12y => intro w hSw; (try dsimp only at hSw); go_simp <;> rfl
  simp only [Act.put, List.setIfInBounds_toArray, List.set_cons_zero, List.set_cons_succ]
  refine wpAnyH_take (i := 16) (v := ?rok13v) (by simp only [List.getElem?_toArray, List.getElem?_cons_succ, List.getElem?_cons_zero] <;> rfl) (by kernel_rfl) (by kernel_rfl) (by kernel_rfl) (by exact fun _ _ _ h => h) (Or.inl ⟨by rfl, ?rok13y⟩) hHeld ?rok13r
  case rok13y => intro w hSw; (try dsimp only at hSw); go_simp <;> rfl
  simp only [Act.put, List.setIfInBounds_toArray, List.set_cons_zero, List.set_cons_succ]
  refine wpAnyH_take (i := 18) (v := ?rok14v) (by simp only [List.getElem?_toArray, List.getElem?_cons_succ, List.getElem?_cons_zero] <;> rfl) (by kernel_rfl) (by kernel_rfl) (by kernel_rfl) (by exact fun _ _ _ h => h) (Or.inl ⟨by rfl, ?rok14y⟩) hHeld ?rok14r
  case rok14y => intro w hSw; (try dsimp only at hSw); go_simp <;> rfl
  simp only [Act.put, List.setIfInBounds_toArray, List.set_cons_zero, List.set_cons_succ]
  refine wpAnyH_take (i := 19) (v := ?rok15v) (by simp only [List.getElem?_toArray, List.getElem?_cons_succ, List.getElem?_cons_zero] <;> rfl) (by kernel_rfl) (by kernel_rfl) (by kernel_rfl) (by exact fun _ _ _ h => h) (Or.inl ⟨by rfl, ?rok15y⟩) hHeld ?rok15r
  case rok15y => intro w hSw; (try dsimp only at hSw); go_simp <;> rfl
  simp only [Act.put, List.setIfInBounds_toArray, List.set_cons_zero, List.set_cons_succ]
  refine wpAnyH_take (i := 20) (v := ?rok16v) (by simp only [List.getElem?_toArray, List.getElem?_cons_succ, List.getElem?_cons_zero] <;> rfl) (by kernel_rfl) (by kernel_rfl) (by kernel_rfl) (by exact fun _ _ _ h => h) (Or.inl ⟨by rfl, ?rok16y⟩) hHeld ?rok16r
  case rok16y => intro w hSw; (try dsimp only at hSw); go_simp <;> rfl
  simp only [Act.put, List.setIfInBounds_toArray, List.set_cons_zero, List.set_cons_succ]
  refine wpAnyH_take (i := 21) (v := ?rok17v) (by simp only [List.getElem?_toArray, List.getElem?_cons_succ, List.getElem?_cons_zero] <;> rfl) (by kernel_rfl) (by kernel_rfl) (by kernel_rfl) (by exact fun _ _ _ h => h) (Or.inl ⟨by rfl, ?rok17y⟩) hHeld ?rok17r
  case rok17y => intro w hSw; (try dsimp only at hSw); go_simp <;> rfl
  simp only [Act.put, List.setIfInBounds_toArray, List.set_cons_zero, List.set_cons_succ]
  refine wpAnyH_ready (rs := [17]) (by kernel_rfl) (by simp) ?_
  refine AllReadyH.cons (by simp only [List.getElem?_toArray, List.getElem?_cons_succ, List.getElem?_cons_zero] <;> rfl) (fun K hK => ?_) AllReadyH.nil
  go_simp
  refine (at_any h10).mono ?_
  rintro e w' ⟨rfl, rfl⟩
  go_wp2_with fail
  refine hK.out _ _ ⟨g1, g2⟩ (fun hHeld => ?_)
  clear hK K
  refine wpAnyH_take (i := 22) (v := ?rok18v) (by simp only [List.getElem?_toArray, List.getElem?_cons_succ, List.getElem?_cons_zero] <;> rfl) (by kernel_rfl) (by kernel_rfl) (by kernel_rfl) (by exact fun _ _ _ h => h) (Or.inl ⟨by rfl, ?rok18y⟩) hHeld ?rok18r
  case rok18y => intro w hSw; (try dsimp only at hSw); go_simp <;> rfl
  simp only [Act.put, List.setIfInBounds_toArray, List.set_cons_zero, List.set_cons_succ]
  refine wpAnyH_take (i := 23) (v := ?rok19v) (by simp only [List.getElem?_toArray, List.getElem?_cons_succ, List.getElem?_cons_zero] <;> rfl) (by kernel_rfl) (by kernel_rfl) (by kernel_rfl) (by exact fun _ _ _ h => h) (Or.inl ⟨by rfl, ?rok19y⟩) hHeld ?rok19r
  case rok19y => intro w hSw; (try dsimp only at hSw); go_simp <;> rfl
  simp only [Act.put, List.setIfInBounds_toArray, List.set_cons_zero, List.set_cons_succ]
  refine wpAnyH_done (by kernel_rfl) ?_ _
  obtain ⟨d0, d1, d2, d3, d4, d5⟩ := f10.cells
  have ye := ye _ _ c10
  rw [hKV] at ye
  clear yd yx yt g1 g2 hHeld x10 h10
  go_wp2_with fail
  refine ye.mono ?_
  rintro e w11 ⟨rfl, c11, k11⟩
  have K11 := K10.step k11 (fun i hi hh => by cases hh; omega)
  clear ye c11 k11 c10 K10
  go_wp2
  go_ret
  exact ⟨rfl, K11⟩
theorem decodes7_law (w : World) (s : ByteArray) (hs : s.size ≤ maxLen) :
    Calls Try.prog 4 #[.string s] w fun e w' => e = .returned (.bool true) ∧ Keep0 w w' := by
  by_cases hl : (s.size : Int) ≤ 2000
  · by_cases hE : qErr s 0 0 = 0
    · exact decodes7_ok w s hs hl hE
    · exact decodes7_bad w s hs hl hE
  · exact decodes7_great s w hl
end Go.Proofs.Ytkmfcdcimmhmdaa
