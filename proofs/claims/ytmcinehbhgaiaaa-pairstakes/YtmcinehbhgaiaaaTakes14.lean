/-
  The walk of the law PairsTakes, out of what package pairs' functions answer (PairCode) and of the document's own answers. (Written by tools/law14.py.)
  Conditions: none beyond that the arguments can be read as data.
-/
import Derived.Test.YtmcinehbhgaiaaaLaw14
import Derived.Test.YtmcinehbhgaiaaaL1
import Derived.BigQuiet
namespace Go.Proofs.Ytmcinehbhgaiaaa
open Go.RowKit

theorem takep_right (s : ByteArray) {a : Int} (h0 : 0 ≤ a) (h1 : a ≤ s.size) (x : Int) : qCheck (rX [] rPrs s a x).1 = 0 := by
  by_cases hx : x = 0
  · subst hx
    rw [rX_yes]
    by_cases he : (rPrs s a).2.2 = 0
    · exact (prs_codec.read h0 h1 he).1
    · by_cases hk : kErr s a 0 8 = 0
      · rw [rprs_b hk] at he ⊢
        have he' : ¬ (rPairs (kNum s a 0 8).toNat none s (tAt s a 0)).2.2 = 0 := by
          intro h
          apply he
          unfold liftP
          rw [if_pos h]
          exact h
        unfold liftP
        rw [if_neg he']
        rfl
      · rw [rprs_a hk]; rfl
  · rw [rX_no hx]; rfl
theorem fitsP_of {l : List Pr} (h : qCheck l = 0) : FitsP l := by
  obtain ⟨h1, h2⟩ := (qCheck_zero l).1 h
  exact ⟨by unfold maxLen; omega, fun x hx => by have := h2.1 x hx; unfold Pr.ok at this; unfold maxLen; omega⟩
set_option maxRecDepth 100000 in
set_option maxHeartbeats 8000000 in
theorem pairsTakes_great (V : PairCode) (w : World) (s : ByteArray) (hs : s.size ≤ maxLen) (n : Int) (h : ¬ s.size ≤ 3000) :
    Calls Try.prog 4 #[.string s, .int .u8 n] w fun e w' => e = .returned (.bool true) ∧ Keep0 w w' := by
  have i0 : (s.size : Int) ≤ 9223372036854775807 := by unfold maxLen at hs; omega
  have h1 : (3000 : Int) < s.size := by omega
  clear h
  go_enter Try.func4, Try.ntmps4
  go_wp2_with fail
  refine (awake14 V w).mono ?_
  rintro e w1 ⟨rfl, K1⟩
  go_wp2
  go_ret
  exact ⟨rfl, K1⟩
set_option maxRecDepth 100000 in
set_option maxHeartbeats 8000000 in
theorem pairsTakes_small (V : PairCode) (w : World) (s : ByteArray) (hs : s.size ≤ 3000) (n : Int) (hn0 : 0 ≤ n) (hn1 : n ≤ 255) (N : Nat) (hN : n % 5 + 1 = (N : Int)) :
    Calls Try.prog 4 #[.string s, .int .u8 n] w fun e w' => e = .returned (.bool true) ∧ Keep0 w w' := by
  have hsm : s.size ≤ maxLen := by unfold maxLen; omega
  have HSS : Hid (s.size ≤ 1000000) := by show _ ≤ _; omega
  have i0 : (s.size : Int) ≤ 9223372036854775807 := by omega
  have i00 : ¬ (3000 : Int) < s.size := by omega
  have yn := fun W => new_any W s hsm
  have HN5 : Hid (N ≤ 5) := by show _ ≤ _; omega
  clear hs hsm
  go_enter Try.func4, Try.ntmps4
  go_wp2_with fail
  refine (awake14 V w).mono ?_
  rintro e w1 ⟨rfl, K1⟩
  go_wp2_with fail
  refine (yn w1).mono ?_
  rintro e w2 ⟨rfl, c2, k2⟩
  have K2 := K1.trans k2
  have z1 := K1.size
  have hcb := c2.lt
  generalize hgc : w1.heap.size = cb at *
  have xN := Cur.new w2 s 49 (by have := HSS.out; unfold maxLen; omega)
  have kX : Keep0 w2 (w2.alloc (.cells #[.string s, .int .i64 0, .int .i64 0] 49)) := (Keep.refl _ w2).alloc _
  have c3 := c2.keep0 kX
  have K3 := K2.trans kX
  have hxb := xN.lt
  clear yn c2 k2 K2 K1 kX
  go_wp2_with fail
  generalize w2.alloc (.cells #[.string s, .int .i64 0, .int .i64 0] 49) = w3 at *
  generalize hgx : w2.heap.size = xb at *
  have HB : Hid (w.heap.size ≤ cb ∧ cb < xb) := ⟨by omega, by omega⟩
  clear hgc hgx hcb hxb z1
  go_loopw [7] (fun i wr => ∃ (k : Nat) (A X : Int), i = .int .i64 (k : Int) ∧ k ≤ N ∧ Cur wr cb s A X ∧ Cur wr xb s A X ∧ Keep0 w wr) (fun i _ => N - (intOf i).toNat)
  case atStart => exact ⟨0, 0, 0, rfl, by omega, c3, xN, K3⟩
  case round =>
    obtain ⟨k, A, X, rfl, hk, hc, hx, hK⟩ := hrel
    clear c3 xN K3
    obtain ⟨B1, B2⟩ := HB.out
    have hN5 := HN5.out
    by_cases hlt : k < N
    · have i1 : (k : Int) < N := by omega
      have yv := V.take hc HSS.out
      have yr := fun W (h : Cur W xb s A X) => rtake14 h
      have hR := takep_right s hc.lo hc.hi X
      have hF := fitsP_of hR
      have hsm : qSame (rX [] rPrs s A X).1 (rX [] rPrs s A X).1 = true := qSame_iff.2 rfl
      have ysm := fun W p q cp cq (h : PrsAt W p (rX [] rPrs s A X).1) (h' : PrsAt W q (rX [] rPrs s A X).1) => rsame14 W p q cp cq _ _ hF.1 hF.1 h h'
      have ych := fun W p cp (h : PrsAt W p (rX [] rPrs s A X).1) => rcheck14 W p cp _ hF h
      rw [hsm] at ysm
      rw [hR] at ych
      obtain ⟨RR, hRR⟩ : ∃ RR, rX [] rPrs s A X = RR := ⟨_, rfl⟩
      rw [hRR] at yv yr ysm ych
      clear hR hF hsm hRR
      go_wp2_with fail
      refine yv.mono ?_
      rintro e w6 ⟨vo, vc, rfl, c6, v6, vn, k6⟩
      have x6 := hx.keep k6 (by omega)
      have K6 : Keep0 w w6 := hK.step k6 (fun i hi hh => by omega)
      have hlx := x6.lt
      have hlx0 := hx.lt
      clear yv hc hx hK k6
      go_wp2_with fail
      have KD : Keep0 w6 w6.drew := (Keep.refl _ w6).drew
      have cD := c6.keep0 KD
      have xD := x6.keep0 KD
      have vD := v6.keep0 KD
      have KK := K6.trans KD
      clear c6 x6 v6 K6 KD
      refine wp_region_held_drew (S := fun _ => True) (by kernel_rfl) trivial (fun hHeld => ?_)
      generalize w6.drew = wD at *
      refine wpAnyH_take (i := 0) (v := ?t0v) (by simp only [List.getElem?_toArray, List.getElem?_cons_zero] <;> rfl) (by kernel_rfl) (by kernel_rfl) (by kernel_rfl) (by exact fun _ _ _ h => h) (Or.inl ⟨by rfl, ?t0y⟩) hHeld ?t0r
      case t0y => intro w hSw; (try dsimp only at hSw); go_simp <;> rfl
      simp only [Act.put, List.setIfInBounds_toArray, List.set_cons_zero, List.set_cons_succ]
      refine wpAnyH_take (i := 1) (v := ?t1v) (by simp only [List.getElem?_toArray, List.getElem?_cons_succ, List.getElem?_cons_zero] <;> rfl) (by kernel_rfl) (by kernel_rfl) (by kernel_rfl) (by exact fun _ _ _ h => h) (Or.inl ⟨by rfl, ?t1y⟩) hHeld ?t1r
      case t1y => intro w hSw; (try dsimp only at hSw); go_simp <;> rfl
      simp only [Act.put, List.setIfInBounds_toArray, List.set_cons_zero, List.set_cons_succ]
      refine wpAnyH_ready (rs := [2]) (by kernel_rfl) (by simp) ?_
      refine AllReadyH.cons (by simp only [List.getElem?_toArray, List.getElem?_cons_succ, List.getElem?_cons_zero] <;> rfl) (fun K hK => ?_) AllReadyH.nil
      go_simp
      refine (yr _ xD).mono ?_
      rintro e w7 ⟨ro, rc, rfl, x7, r7, rn, k7⟩
      have c7 := cD.keep k7 (by omega)
      have v7 := vD.keep k7 (fun g o m e hh => by have := vn g o m e; omega)
      have K7 : Keep0 w w7 := KK.step k7 (fun i hi hh => by omega)
      have g1 := x7.cells.2.1
      have g2 := x7.cells.2.2.1
      clear yr cD xD vD KK k7 rn vn
      go_wp2_with fail
      refine hK.out _ _ trivial (fun hHeld => ?_)
      clear hK K
      clear hHeld
      refine wpAnyH_strong (S' := fun w' => True ∧ w'.cell? ⟨xb, 1, none⟩ = some (.int .i64 RR.2.1) ∧ w'.cell? ⟨xb, 2, none⟩ = some (.int .i64 RR.2.2)) (fun _ h => h.1) ⟨trivial, g1, g2⟩ (fun hHeld => ?_)
      refine wpAnyH_ready (rs := [3]) (by kernel_rfl) (by simp) ?_
      refine AllReadyH.cons (by simp only [List.getElem?_toArray, List.getElem?_cons_succ, List.getElem?_cons_zero] <;> rfl) (fun K hK => ?_) AllReadyH.nil
      go_simp
      refine (ysm _ _ _ _ _ v7 r7).mono ?_
      rintro e w8 ⟨rfl, hw8⟩
      have k8 := keepN hw8
      have c8 := c7.keep0 k8
      have x8 := x7.keep0 k8
      have v8 := v7.keep0 k8
      have K8 := K7.trans k8
      have g1 := k8.cell g1 (fun f => f)
      have g2 := k8.cell g2 (fun f => f)
      clear hw8 k8 c7 x7 v7 r7 K7 ysm
      go_wp2_with fail
      refine hK.out _ _ ⟨trivial, g1, g2⟩ (fun hHeld => ?_)
      clear hK K
      refine wpAnyH_take (i := 4) (v := ?t2v) (by simp only [List.getElem?_toArray, List.getElem?_cons_succ, List.getElem?_cons_zero] <;> rfl) (by kernel_rfl) (by kernel_rfl) (by kernel_rfl) (by exact fun _ _ _ h => h) (Or.inl ⟨by rfl, ?t2y⟩) hHeld ?t2r
      case t2y => intro w hSw; (try dsimp only at hSw); go_simp <;> rfl
      simp only [Act.put, List.setIfInBounds_toArray, List.set_cons_zero, List.set_cons_succ]
      refine wpAnyH_take (i := 5) (v := ?t3v) (by simp only [List.getElem?_toArray, List.getElem?_cons_succ, List.getElem?_cons_zero] <;> rfl) (by kernel_rfl) (by kernel_rfl) (by kernel_rfl) (by exact fun _ _ _ h => h) (Or.inl ⟨by rfl, ?t3y⟩) hHeld ?t3r
      case t3y => intro w hSw; (try dsimp only at hSw); go_simp <;> rfl
      simp only [Act.put, List.setIfInBounds_toArray, List.set_cons_zero, List.set_cons_succ]
      refine wpAnyH_take (i := 6) (v := ?t4v) (by simp only [List.getElem?_toArray, List.getElem?_cons_succ, List.getElem?_cons_zero] <;> rfl) (by kernel_rfl) (by kernel_rfl) (by kernel_rfl) (by exact fun _ _ _ h => h) (Or.inl ⟨by rfl, ?t4y⟩) hHeld ?t4r
      case t4y => intro w hSw; (try dsimp only at hSw); go_simp <;> rfl
      simp only [Act.put, List.setIfInBounds_toArray, List.set_cons_zero, List.set_cons_succ]
      refine wpAnyH_take (i := 8) (v := ?t5v) (by simp only [List.getElem?_toArray, List.getElem?_cons_succ, List.getElem?_cons_zero] <;> rfl) (by kernel_rfl) (by kernel_rfl) (by kernel_rfl) (by exact fun _ _ _ h => h) (Or.inl ⟨by rfl, ?t5y⟩) hHeld ?t5r
      case t5y => intro w hSw; (try dsimp only at hSw); go_simp <;> rfl
      simp only [Act.put, List.setIfInBounds_toArray, List.set_cons_zero, List.set_cons_succ]
      refine wpAnyH_take (i := 9) (v := ?t6v) (by simp only [List.getElem?_toArray, List.getElem?_cons_succ, List.getElem?_cons_zero] <;> rfl) (by kernel_rfl) (by kernel_rfl) (by kernel_rfl) (by exact fun _ _ _ h => h) (Or.inl ⟨by rfl, ?t6y⟩) hHeld ?t6r
      case t6y => intro w hSw; (try dsimp only at hSw); go_simp <;> rfl
      simp only [Act.put, List.setIfInBounds_toArray, List.set_cons_zero, List.set_cons_succ]
      refine wpAnyH_take (i := 10) (v := ?t7v) (by simp only [List.getElem?_toArray, List.getElem?_cons_succ, List.getElem?_cons_zero] <;> rfl) (by kernel_rfl) (by kernel_rfl) (by kernel_rfl) (by exact fun _ _ _ h => h) (Or.inl ⟨by rfl, ?t7y⟩) hHeld ?t7r
      case t7y => intro w hSw; (try dsimp only at hSw); go_simp <;> rfl
      simp only [Act.put, List.setIfInBounds_toArray, List.set_cons_zero, List.set_cons_succ]
      refine wpAnyH_take (i := 11) (v := ?t8v) (by simp only [List.getElem?_toArray, List.getElem?_cons_succ, List.getElem?_cons_zero] <;> rfl) (by kernel_rfl) (by kernel_rfl) (by kernel_rfl) (by exact fun _ _ _ h => h) (Or.inl ⟨by rfl, ?t8y⟩) hHeld ?t8r
      case t8y => intro w hSw; (try dsimp only at hSw); go_simp <;> rfl
      simp only [Act.put, List.setIfInBounds_toArray, List.set_cons_zero, List.set_cons_succ]
      refine wpAnyH_ready (rs := [7]) (by kernel_rfl) (by simp) ?_
      refine AllReadyH.cons (by simp only [List.getElem?_toArray, List.getElem?_cons_succ, List.getElem?_cons_zero] <;> rfl) (fun K hK => ?_) AllReadyH.nil
      go_simp
      refine (err_any c8).mono ?_
      rintro e w' ⟨rfl, rfl⟩
      go_wp2_with fail
      refine hK.out _ _ ⟨trivial, g1, g2⟩ (fun hHeld => ?_)
      clear hK K
      refine wpAnyH_take (i := 12) (v := ?t9v) (by simp only [List.getElem?_toArray, List.getElem?_cons_succ, List.getElem?_cons_zero] <;> rfl) (by kernel_rfl) (by kernel_rfl) (by kernel_rfl) (by exact fun _ _ _ h => h) (Or.inl ⟨by rfl, ?t9y⟩) hHeld ?t9r
      case t9y => intro w hSw; (try dsimp only at hSw); go_simp <;> rfl
      simp only [Act.put, List.setIfInBounds_toArray, List.set_cons_zero, List.set_cons_succ]
      refine wpAnyH_take (i := 13) (v := ?t10v) (by simp only [List.getElem?_toArray, List.getElem?_cons_succ, List.getElem?_cons_zero] <;> rfl) (by kernel_rfl) (by kernel_rfl) (by kernel_rfl) (by exact fun _ _ _ h => h) (Or.inl ⟨by rfl, ?t10y⟩) hHeld ?t10r
      case t10y => intro w hSw; (try dsimp only at hSw); go_simp <;> rfl
      simp only [Act.put, List.setIfInBounds_toArray, List.set_cons_zero, List.set_cons_succ]
      refine wpAnyH_take (i := 14) (v := ?t11v) (by simp only [List.getElem?_toArray, List.getElem?_cons_succ, List.getElem?_cons_zero] <;> rfl) (by kernel_rfl) (by kernel_rfl) (by kernel_rfl) (by exact fun _ _ _ h => h) (Or.inl ⟨by rfl, ?t11y⟩) hHeld ?t11r
      case t11y => intro w hSw; (try dsimp only at hSw); go_simp <;> rfl
      simp only [Act.put, List.setIfInBounds_toArray, List.set_cons_zero, List.set_cons_succ]
      refine wpAnyH_take (i := 15) (v := ?t12v) (by simp only [List.getElem?_toArray, List.getElem?_cons_succ, List.getElem?_cons_zero] <;> rfl) (by kernel_rfl) (by kernel_rfl) (by kernel_rfl) (by exact fun _ _ _ h => h) (Or.inl ⟨by rfl, ?t12y⟩) hHeld ?t12r
      case t12y => intro w hSw; (try dsimp only at hSw); go_simp <;> rfl
      simp only [Act.put, List.setIfInBounds_toArray, List.set_cons_zero, List.set_cons_succ]
      refine wpAnyH_take (i := 17) (v := ?t13v) (by simp only [List.getElem?_toArray, List.getElem?_cons_succ, List.getElem?_cons_zero] <;> rfl) (by kernel_rfl) (by kernel_rfl) (by kernel_rfl) (by exact fun _ _ _ h => h) (Or.inl ⟨by rfl, ?t13y⟩) hHeld ?t13r
      case t13y => intro w hSw; (try dsimp only at hSw); go_simp <;> rfl
      simp only [Act.put, List.setIfInBounds_toArray, List.set_cons_zero, List.set_cons_succ]
      refine wpAnyH_take (i := 18) (v := ?t14v) (by simp only [List.getElem?_toArray, List.getElem?_cons_succ, List.getElem?_cons_zero] <;> rfl) (by kernel_rfl) (by kernel_rfl) (by kernel_rfl) (by exact fun _ _ _ h => h) (Or.inl ⟨by rfl, ?t14y⟩) hHeld ?t14r
      case t14y => intro w hSw; (try dsimp only at hSw); go_simp <;> rfl
      simp only [Act.put, List.setIfInBounds_toArray, List.set_cons_zero, List.set_cons_succ]
      refine wpAnyH_take (i := 19) (v := ?t15v) (by simp only [List.getElem?_toArray, List.getElem?_cons_succ, List.getElem?_cons_zero] <;> rfl) (by kernel_rfl) (by kernel_rfl) (by kernel_rfl) (by exact fun _ _ _ h => h) (Or.inl ⟨by rfl, ?t15y⟩) hHeld ?t15r
      case t15y => intro w hSw; (try dsimp only at hSw); go_simp <;> rfl
      simp only [Act.put, List.setIfInBounds_toArray, List.set_cons_zero, List.set_cons_succ]
      refine wpAnyH_take (i := 20) (v := ?t16v) (by simp only [List.getElem?_toArray, List.getElem?_cons_succ, List.getElem?_cons_zero] <;> rfl) (by kernel_rfl) (by kernel_rfl) (by kernel_rfl) (by exact fun _ _ _ h => h) (Or.inl ⟨by rfl, ?t16y⟩) hHeld ?t16r
      case t16y => intro w hSw; (try dsimp only at hSw); go_simp <;> rfl
      simp only [Act.put, List.setIfInBounds_toArray, List.set_cons_zero, List.set_cons_succ]
      refine wpAnyH_ready (rs := [16]) (by kernel_rfl) (by simp) ?_
      refine AllReadyH.cons (by simp only [List.getElem?_toArray, List.getElem?_cons_succ, List.getElem?_cons_zero] <;> rfl) (fun K hK => ?_) AllReadyH.nil
      go_simp
      refine (at_any c8).mono ?_
      rintro e w' ⟨rfl, rfl⟩
      go_wp2_with fail
      refine hK.out _ _ ⟨trivial, g1, g2⟩ (fun hHeld => ?_)
      clear hK K
      refine wpAnyH_take (i := 21) (v := ?t17v) (by simp only [List.getElem?_toArray, List.getElem?_cons_succ, List.getElem?_cons_zero] <;> rfl) (by kernel_rfl) (by kernel_rfl) (by kernel_rfl) (by exact fun _ _ _ h => h) (Or.inl ⟨by rfl, ?t17y⟩) hHeld ?t17r
      case t17y => intro w hSw; (try dsimp only at hSw); go_simp <;> rfl
      simp only [Act.put, List.setIfInBounds_toArray, List.set_cons_zero, List.set_cons_succ]
      refine wpAnyH_take (i := 22) (v := ?t18v) (by simp only [List.getElem?_toArray, List.getElem?_cons_succ, List.getElem?_cons_zero] <;> rfl) (by kernel_rfl) (by kernel_rfl) (by kernel_rfl) (by exact fun _ _ _ h => h) (Or.inl ⟨by rfl, ?t18y⟩) hHeld ?t18r
      case t18y => intro w hSw; (try dsimp only at hSw); go_simp <;> rfl
      simp only [Act.put, List.setIfInBounds_toArray, List.set_cons_zero, List.set_cons_succ]
      refine wpAnyH_take (i := 23) (v := ?t19v) (by simp only [List.getElem?_toArray, List.getElem?_cons_succ, List.getElem?_cons_zero] <;> rfl) (by kernel_rfl) (by kernel_rfl) (by kernel_rfl) (by exact fun _ _ _ h => h) (Or.inl ⟨by rfl, ?t19y⟩) hHeld ?t19r
      case t19y => intro w hSw; (try dsimp only at hSw); go_simp <;> rfl
      simp only [Act.put, List.setIfInBounds_toArray, List.set_cons_zero, List.set_cons_succ]
      refine wpAnyH_take (i := 24) (v := ?t20v) (by simp only [List.getElem?_toArray, List.getElem?_cons_succ, List.getElem?_cons_zero] <;> rfl) (by kernel_rfl) (by kernel_rfl) (by kernel_rfl) (by exact fun _ _ _ h => h) (Or.inl ⟨by rfl, ?t20y⟩) hHeld ?t20r
      case t20y => intro w hSw; (try dsimp only at hSw); go_simp <;> rfl
      simp only [Act.put, List.setIfInBounds_toArray, List.set_cons_zero, List.set_cons_succ]
      refine wpAnyH_ready (rs := [25]) (by kernel_rfl) (by simp) ?_
      refine AllReadyH.cons (by simp only [List.getElem?_toArray, List.getElem?_cons_succ, List.getElem?_cons_zero] <;> rfl) (fun K hK => ?_) AllReadyH.nil
      go_simp
      refine (ych _ _ _ v8).mono ?_
      rintro e w9 ⟨rfl, hw9⟩
      have k9 := keepN hw9
      have c9 := c8.keep0 k9
      have x9 := x8.keep0 k9
      have K9 := K8.trans k9
      have g1 := k9.cell g1 (fun f => f)
      have g2 := k9.cell g2 (fun f => f)
      clear hw9 k9 c8 x8 v8 K8 ych
      go_wp2_with fail
      refine hK.out _ _ ⟨trivial, g1, g2⟩ (fun hHeld => ?_)
      clear hK K
      refine wpAnyH_take (i := 26) (v := ?t21v) (by simp only [List.getElem?_toArray, List.getElem?_cons_succ, List.getElem?_cons_zero] <;> rfl) (by kernel_rfl) (by kernel_rfl) (by kernel_rfl) (by exact fun _ _ _ h => h) (Or.inl ⟨by rfl, ?t21y⟩) hHeld ?t21r
      case t21y => intro w hSw; (try dsimp only at hSw); go_simp <;> rfl
      simp only [Act.put, List.setIfInBounds_toArray, List.set_cons_zero, List.set_cons_succ]
      refine wpAnyH_take (i := 27) (v := ?t22v) (by simp only [List.getElem?_toArray, List.getElem?_cons_succ, List.getElem?_cons_zero] <;> rfl) (by kernel_rfl) (by kernel_rfl) (by kernel_rfl) (by exact fun _ _ _ h => h) (Or.inl ⟨by rfl, ?t22y⟩) hHeld ?t22r
      case t22y => intro w hSw; (try dsimp only at hSw); go_simp <;> rfl
      simp only [Act.put, List.setIfInBounds_toArray, List.set_cons_zero, List.set_cons_succ]
      refine wpAnyH_done (by kernel_rfl) ?_ _
      go_wp2_with fail
      go_roundw
      case rel => exact ⟨k + 1, RR.2.1, RR.2.2, by go_num, by omega, c9, x9, K9⟩
      case measure => simp [intOf]; omega
    · have i1 : ¬ (k : Int) < N := by omega
      go_wp2
      go_ret
      exact ⟨rfl, hK⟩
theorem pairsTakes_law (V : PairCode) (w : World) (s : ByteArray) (hs : s.size ≤ maxLen) (n : Int) (hn : (Lit.int .u8 n).wf = true) :
    Calls Try.prog 4 #[.string s, .int .u8 n] w fun e w' => e = .returned (.bool true) ∧ Keep0 w w' := by
  by_cases h : s.size ≤ 3000
  · have hb := bounds_u8 hn
    exact pairsTakes_small V w s h n hb.1 hb.2 (n % 5 + 1).toNat (by omega)
  · exact pairsTakes_great V w s hs n h
end Go.Proofs.Ytmcinehbhgaiaaa
