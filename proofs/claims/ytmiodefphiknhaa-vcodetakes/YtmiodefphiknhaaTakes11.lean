/-
  The walk of the law VcodeTakes, out of what package vcode's functions answer (VcCode) and of the document's own answers.
  Conditions: none beyond that the arguments can be read as data.
-/
import Derived.Test.YtmiodefphiknhaaLaw11
import Derived.Test.YtmiodefphiknhaaEncodes11
import Derived.BigQuiet
import Derived.Test.YtmiodefphiknhaaL1
namespace Go.Proofs.Ytmiodefphiknhaa
open Go.RowKit

theorem pVecs_size (M : Int) : ∀ (ls : List (List En)) (p : ByteArray × Int), (∀ l ∈ ls, ∀ x ∈ l, U64 x.n) → (pVecs M p ls).1.size ≤ p.1.size + 3338 * ls.length
  | [], _, _ => by show _ ≤ _ + 3338 * 0; exact Nat.le_refl _
  | v :: ls, p, h => by
    have h1 := pVec_size M p (h v List.mem_cons_self)
    have h2 := pVecs_size M ls (pVec M p v) (fun l hl => h l (List.mem_cons_of_mem _ hl))
    show (pVecs M (pVec M p v) ls).1.size ≤ _
    rw [List.length_cons]
    omega
theorem take_ok11 (s : ByteArray) {a : Int} (h0 : 0 ≤ a) (h1 : a ≤ s.size) (x : Int) : Ok11 (rX [] rVec s a x).1 := by
  by_cases hx : x = 0
  · subst hx
    rw [rX_yes]
    by_cases he : (rVec s a).2.2 = 0
    · obtain ⟨⟨hk, hn⟩, _⟩ := vec_codec.read h0 h1 he
      obtain ⟨h2, h3⟩ := (check_zero _).1 hk
      exact ⟨by omega, fun y hy => ⟨by have := (h3.1 y hy).2.1; unfold maxLen; omega, hn y hy⟩⟩
    · have : (rVec s a).1 = [] := by
        by_cases hk : kErr s a 0 64 = 0
        · rw [vec_b hk] at he ⊢
          unfold lift at he ⊢
          split
          · rename_i h; rw [if_pos h] at he; exact absurd h he
          · rfl
        · rw [vec_a hk]
      rw [this]
      exact ⟨by simp, fun y hy => by cases hy⟩
  · rw [rX_no hx]
    exact ⟨by simp, fun y hy => by cases hy⟩
set_option maxRecDepth 100000 in
set_option maxHeartbeats 8000000 in
theorem vcodeTakes_great (V : VcCode) (w : World) (s : ByteArray) (hs : s.size ≤ maxLen) (mx : Int) (ao : Option Addr) (cap n : Nat) (hn : n ≤ maxLen) (h : ¬ (s.size ≤ 3000 ∧ n ≤ 6)) :
    Calls Try.prog 5 #[.string s, .int .i64 mx, .slice ao n cap] w fun e w' => e = .returned (.bool true) ∧ Keep0 w w' := by
  have i0 : (s.size : Int) ≤ 9223372036854775807 := by unfold maxLen at hs; omega
  have i1 : (n : Int) ≤ 9223372036854775807 := by unfold maxLen at hn; omega
  by_cases h1 : (3000 : Int) < s.size
  · clear h
    go_enter Try.func5, Try.ntmps5
    go_wp2_with fail
    refine (awake11 V w).mono ?_
    rintro e w1 ⟨rfl, K1⟩
    go_wp2
    go_ret
    exact ⟨rfl, K1⟩
  · have h2 : (6 : Int) < n := by omega
    clear h
    go_enter Try.func5, Try.ntmps5
    go_wp2_with fail
    refine (awake11 V w).mono ?_
    rintro e w1 ⟨rfl, K1⟩
    go_wp2
    go_ret
    exact ⟨rfl, K1⟩
set_option maxRecDepth 100000 in
set_option maxHeartbeats 8000000 in
theorem vcodeTakes_small (V : VcCode) (w : World) (s : ByteArray) (hs : s.size ≤ 3000) (mx : Int) (hmx : mx ≤ 9223372036854775807) (ao : Option Addr) (cap : Nat) (ls : List (List En)) (hl : ls.length ≤ 6) (hf : ∀ l ∈ ls, Fits l) (hc : VecsAt w ao ls) :
    Calls Try.prog 5 #[.string s, .int .i64 mx, .slice ao ls.length cap] w fun e w' => e = .returned (.bool true) ∧ Keep0 w w' := by
  have HC : Hid (VecsAt w ao ls) := hc
  have HF : Hid (∀ l ∈ ls, Fits l) := hf
  have HL : Hid (ls.length ≤ 6) := hl
  have hsm : s.size ≤ maxLen := by unfold maxLen; omega
  have HSS : Hid (s.size ≤ 1000000) := by show _ ≤ _; omega
  have i0 : (s.size : Int) ≤ 9223372036854775807 := by omega
  have i00 : ¬ (3000 : Int) < s.size := by omega
  have i01 : ¬ (6 : Int) < ls.length := by omega
  have i02 : (ls.length : Int) ≤ 9223372036854775807 := by omega
  have yn := fun W => new_any W s hsm
  have yp := fun W => pnew_any W mx hmx
  have yq := fun W => rpnew_any W mx
  obtain ⟨M, hM⟩ : ∃ M, pMax mx = M := ⟨_, rfl⟩
  rw [hM] at yp yq
  clear hc hf hl hs hM hsm
  go_enter Try.func5, Try.ntmps5
  go_wp2_with fail
  refine (awake11 V w).mono ?_
  rintro e w1 ⟨rfl, K1⟩
  go_wp2_with fail
  refine (yn w1).mono ?_
  rintro e w2 ⟨rfl, c2, k2⟩
  have K2 := K1.trans k2
  have z1 := K1.size
  have hcb := c2.lt
  generalize hgc : w1.heap.size = cb at *
  have xN := Cur.new w2 s 42 (by have := HSS.out; unfold maxLen; omega)
  have kX : Keep0 w2 (w2.alloc (.cells #[.string s, .int .i64 0, .int .i64 0] 42)) := (Keep.refl _ w2).alloc _
  have c3 := c2.keep0 kX
  have K3 := K2.trans kX
  have hxb := xN.lt
  clear yn c2 k2 K2 K1 kX
  go_wp2_with fail
  generalize w2.alloc (.cells #[.string s, .int .i64 0, .int .i64 0] 42) = w3 at *
  generalize hgx : w2.heap.size = xb at *
  refine (yp w3).mono ?_
  rintro e w4 ⟨rfl, p4, k4⟩
  have c4 := c3.keep0 k4
  have x4 := xN.keep0 k4
  have K4 := K3.trans k4
  have hpb := p4.lt
  generalize hgp : w3.heap.size = pb at *
  clear yp c3 xN K3 k4
  go_wp2_with fail
  refine (yq w4).mono ?_
  rintro e w5 ⟨rfl, y5, k5⟩
  have c5 := c4.keep0 k5
  have x5 := x4.keep0 k5
  have p5 := p4.keep0 k5
  have K5 := K4.trans k5
  have hyb := y5.lt
  generalize hgy : w4.heap.size = yb at *
  have HB : Hid (w.heap.size ≤ cb ∧ cb < xb ∧ xb < pb ∧ pb < yb) := ⟨by omega, by omega, by omega, by omega⟩
  clear yq c4 x4 p4 K4 k5 hgc hgx hgp hgy hcb hxb hpb hyb z1
  go_wp2_with fail
  go_loopw [11] (fun i wr => ∃ (k : Nat) (A X : Int) (P : ByteArray × Int), i = .int .i64 (k : Int) ∧ k ≤ ls.length ∧ Hid (∀ q (_ : q < ls.length), q < k → ls[q].length ≤ 100) ∧ Cur wr cb s A X ∧ Cur wr xb s A X ∧ Pen wr pb pb ⟨#[]⟩ M 0 ∧ Hid (pVecs M (⟨#[]⟩, 0) (ls.take k) = P) ∧ RPen wr yb P.1 M P.2 ∧ Keep0 w wr) (fun i _ => ls.length - (intOf i).toNat)
  case atStart => exact ⟨0, 0, 0, (⟨#[]⟩, 0), rfl, by omega, (fun q _ h => by omega), c5, x5, p5, rfl, y5, K5⟩
  case round =>
    obtain ⟨k, A, X, P, rfl, hk, HQ, hc, hx, hp, HP, hy, hK⟩ := hrel
    clear c5 x5 p5 y5 K5
    obtain ⟨B1, B2, B3, B4⟩ := HB.out
    by_cases hlt : k < ls.length
    · have i1 : (k : Int) < ls.length := by omega
      obtain ⟨b, off, bo, c, rfl, x0, x1⟩ := HC.out k hlt
      have hfk := HF.out ls[k] (List.getElem_mem hlt)
      have v0 := hK.cell x0 (fun f => f)
      have yg := rgreat10 wr bo c ls[k] hfk (x1.keep0 hK)
      have hbw : b < w.heap.size := World.block_lt_of_cell? w _ x0
      have HX0 : Hid (w.cell? ⟨b, off + k, none⟩ = some (.slice bo ls[k].length c)) := x0
      have HX : Hid (EnsAt w bo ls[k]) := x1
      cases hg : vGreat ls[k] with
      | true =>
        rw [hg] at yg
        generalize ls[k].length = LL at *
        clear x0 x1
        go_wp2_with fail
        refine yg.mono ?_
        rintro e w' ⟨rfl, rfl⟩
        go_wp2
        go_ret
        exact ⟨rfl, hK⟩
      | false =>
        rw [hg] at yg
        have h100 := (great_no hg).1
        have HN : Hid (∀ q (_ : q < ls.length), q < k + 1 → ls[q].length ≤ 100) := by
          intro q hq hlt'
          by_cases e : q = k
          · subst e; exact h100
          · exact HQ.out q hq (by omega)
        have HPN : Hid (pVecs M (⟨#[]⟩, 0) (ls.take (k + 1)) = pVec M P ls[k]) := by
          show _ = pVec M P ls[k]
          rw [pVecs_take hlt, HP.out]
        have hps := pVecs_size M (ls.take k) (⟨#[]⟩, 0) (fun l hl x hx => ((HF.out l (List.mem_of_mem_take hl)).2 x hx).2)
        rw [HP.out, List.length_take, Nat.min_eq_left (by omega)] at hps
        have hps' : P.1.size ≤ 1000000000 := by have e : ((⟨#[]⟩ : ByteArray), (0 : Int)).1.size = 0 := rfl; have := HL.out; omega
        have yv := V.take hc HSS.out
        have yr := fun W (h : Cur W xb s A X) => rtake11 h
        have okR := take_ok11 s hc.lo hc.hi X
        have hsm : vSame (rX [] rVec s A X).1 (rX [] rVec s A X).1 = true := vSame_iff.2 rfl
        have ysm := fun W p q cp cq (h : EnsAt W p (rX [] rVec s A X).1) (h' : EnsAt W q (rX [] rVec s A X).1) => rsame10 W p q cp cq _ _ okR.fits.1 okR.fits.1 h h'
        rw [hsm] at ysm
        have ypt := fun W (K : Keep0 w W) (h : RPen W yb P.1 M P.2) => rput11 h hps' bo c ls[k] hfk (HX.out.keep0 K) (fun hl g off m e hh => by have := ens_old HX.out hl g off m e; omega)
        have hPe : (P.1, P.2) = P := rfl
        rw [hPe, ← HPN.out] at ypt
        obtain ⟨P2, hP2⟩ : ∃ P2, pVecs M (⟨#[]⟩, 0) (ls.take (k + 1)) = P2 := ⟨_, rfl⟩
        rw [hP2] at ypt
        have HP2 : Hid (pVecs M (⟨#[]⟩, 0) (ls.take (k + 1)) = P2) := hP2
        obtain ⟨RR, hRR⟩ : ∃ RR, rX [] rVec s A X = RR := ⟨_, rfl⟩
        rw [hRR] at yv yr ysm
        generalize ls[k] = L at *
        clear x0 x1 hg hfk HQ h100 hps hps' hPe hP2 HPN okR hsm hRR HP
        go_wp2_with fail
        refine yg.mono ?_
        rintro e w' ⟨rfl, rfl⟩
        clear yg
        go_wp2_with fail
        refine yv.mono ?_
        rintro e w6 ⟨vo, vc, rfl, c6, v6, vn, k6⟩
        have x6 := hx.keep k6 (by omega)
        have p6 := hp.keep k6 (by omega) (by omega)
        have y6 := hy.keep k6 (by omega)
        have K6 : Keep0 w w6 := hK.step k6 (fun i hi hh => by omega)
        have z6 := k6.size
        have hlx := hx.lt
        clear yv hc hx hp hy hK v0
        go_wp2_with fail
        have KD : Keep0 w6 w6.drew := (Keep.refl _ w6).drew
        have cD := c6.keep0 KD
        have xD := x6.keep0 KD
        have pD := p6.keep0 KD
        have yD := y6.keep0 KD
        have vD := v6.keep0 KD
        have KK := K6.trans KD
        have zD : w6.drew.heap.size = w6.heap.size := rfl
        clear c6 x6 p6 y6 v6 K6 KD
        refine wp_region_held_drew (S := fun _ => True) (by kernel_rfl) trivial (fun hHeld => ?_)
        generalize w6.drew = wD at *
        refine wpAnyH_take (i := 0) (v := ?t0v) (by simp only [List.getElem?_toArray, List.getElem?_cons_zero] <;> rfl) (by kernel_rfl) (by kernel_rfl) (by kernel_rfl) (by exact fun _ _ _ h => h) (Or.inl ⟨by rfl, ?t0y⟩) hHeld ?t0r
        case t0y => intro w hSw; (try dsimp only at hSw); go_simp <;> rfl
        simp only [Act.put, List.setIfInBounds_toArray, List.set_cons_zero, List.set_cons_succ]
        refine wpAnyH_take (i := 1) (v := ?t1v) (by simp only [List.getElem?_toArray, List.getElem?_cons_succ, List.getElem?_cons_zero] <;> rfl) (by kernel_rfl) (by kernel_rfl) (by kernel_rfl) (by exact fun _ _ _ h => h) (Or.inl ⟨by rfl, ?t1y⟩) hHeld ?t1r
        case t1y => intro w hSw; (try dsimp only at hSw); go_simp <;> rfl
        simp only [Act.put, List.setIfInBounds_toArray, List.set_cons_zero, List.set_cons_succ]
        refine wpAnyH_ready (rs := [2]) (by kernel_rfl) (by simp) ?_
        refine AllReadyH.cons (by simp only [List.getElem?_toArray, List.getElem?_cons_succ, List.getElem?_cons_zero] <;> rfl) (fun K hK => ?_) AllReadyH.nil
        go_simp
        refine (yr _ xD).mono ?_
        rintro e w7 ⟨ro, rc, rfl, x7, r7, rn, k7⟩
        have c7 := cD.keep k7 (by omega)
        have p7 := pD.keep k7 (by omega) (by omega)
        have y7 := yD.keep k7 (by omega)
        have v7 := vD.keep k7 (fun g o m e hh => by have := vn g o m e; omega)
        have K7 : Keep0 w w7 := KK.step k7 (fun i hi hh => by omega)
        have g1 := x7.cells.2.1
        have g2 := x7.cells.2.2.1
        clear yr cD xD pD yD vD KK k7 rn vn
        go_wp2_with fail
        refine hK.out _ _ trivial (fun hHeld => ?_)
        clear hK K
        clear hHeld
        refine wpAnyH_strong (S' := fun w' => True ∧ w'.cell? ⟨xb, 1, none⟩ = some (.int .i64 RR.2.1) ∧ w'.cell? ⟨xb, 2, none⟩ = some (.int .i64 RR.2.2)) (fun _ h => h.1) ⟨trivial, g1, g2⟩ (fun hHeld => ?_)
        refine wpAnyH_ready (rs := [3]) (by kernel_rfl) (by simp) ?_
        refine AllReadyH.cons (by simp only [List.getElem?_toArray, List.getElem?_cons_succ, List.getElem?_cons_zero] <;> rfl) (fun K hK => ?_) AllReadyH.nil
        go_simp
        refine (ysm _ _ _ _ _ v7 r7).mono ?_
        rintro e w8 ⟨rfl, hw8⟩
        have k8 := keepN hw8
        have c8 := c7.keep0 k8
        have x8 := x7.keep0 k8
        have p8 := p7.keep0 k8
        have y8 := y7.keep0 k8
        have K8 := K7.trans k8
        have g1 := k8.cell g1 (fun f => f)
        have g2 := k8.cell g2 (fun f => f)
        clear hw8 k8 c7 x7 p7 y7 v7 r7 K7 ysm
        go_wp2_with fail
        refine hK.out _ _ ⟨trivial, g1, g2⟩ (fun hHeld => ?_)
        clear hK K
        refine wpAnyH_take (i := 4) (v := ?t2v) (by simp only [List.getElem?_toArray, List.getElem?_cons_succ, List.getElem?_cons_zero] <;> rfl) (by kernel_rfl) (by kernel_rfl) (by kernel_rfl) (by exact fun _ _ _ h => h) (Or.inl ⟨by rfl, ?t2y⟩) hHeld ?t2r
        case t2y => intro w hSw; (try dsimp only at hSw); go_simp <;> rfl
        simp only [Act.put, List.setIfInBounds_toArray, List.set_cons_zero, List.set_cons_succ]
        refine wpAnyH_take (i := 5) (v := ?t3v) (by simp only [List.getElem?_toArray, List.getElem?_cons_succ, List.getElem?_cons_zero] <;> rfl) (by kernel_rfl) (by kernel_rfl) (by kernel_rfl) (by exact fun _ _ _ h => h) (Or.inl ⟨by rfl, ?t3y⟩) hHeld ?t3r
        case t3y => intro w hSw; (try dsimp only at hSw); go_simp <;> rfl
        simp only [Act.put, List.setIfInBounds_toArray, List.set_cons_zero, List.set_cons_succ]
        refine wpAnyH_take (i := 6) (v := ?t4v) (by simp only [List.getElem?_toArray, List.getElem?_cons_succ, List.getElem?_cons_zero] <;> rfl) (by kernel_rfl) (by kernel_rfl) (by kernel_rfl) (by exact fun _ _ _ h => h) (Or.inl ⟨by rfl, ?t4y⟩) hHeld ?t4r
        case t4y => intro w hSw; (try dsimp only at hSw); go_simp <;> rfl
        simp only [Act.put, List.setIfInBounds_toArray, List.set_cons_zero, List.set_cons_succ]
        refine wpAnyH_take (i := 8) (v := ?t5v) (by simp only [List.getElem?_toArray, List.getElem?_cons_succ, List.getElem?_cons_zero] <;> rfl) (by kernel_rfl) (by kernel_rfl) (by kernel_rfl) (by exact fun _ _ _ h => h) (Or.inl ⟨by rfl, ?t5y⟩) hHeld ?t5r
        case t5y => intro w hSw; (try dsimp only at hSw); go_simp <;> rfl
        simp only [Act.put, List.setIfInBounds_toArray, List.set_cons_zero, List.set_cons_succ]
        refine wpAnyH_take (i := 9) (v := ?t6v) (by simp only [List.getElem?_toArray, List.getElem?_cons_succ, List.getElem?_cons_zero] <;> rfl) (by kernel_rfl) (by kernel_rfl) (by kernel_rfl) (by exact fun _ _ _ h => h) (Or.inl ⟨by rfl, ?t6y⟩) hHeld ?t6r
        case t6y => intro w hSw; (try dsimp only at hSw); go_simp <;> rfl
        simp only [Act.put, List.setIfInBounds_toArray, List.set_cons_zero, List.set_cons_succ]
        refine wpAnyH_take (i := 10) (v := ?t7v) (by simp only [List.getElem?_toArray, List.getElem?_cons_succ, List.getElem?_cons_zero] <;> rfl) (by kernel_rfl) (by kernel_rfl) (by kernel_rfl) (by exact fun _ _ _ h => h) (Or.inl ⟨by rfl, ?t7y⟩) hHeld ?t7r
        case t7y => intro w hSw; (try dsimp only at hSw); go_simp <;> rfl
        simp only [Act.put, List.setIfInBounds_toArray, List.set_cons_zero, List.set_cons_succ]
        refine wpAnyH_take (i := 11) (v := ?t8v) (by simp only [List.getElem?_toArray, List.getElem?_cons_succ, List.getElem?_cons_zero] <;> rfl) (by kernel_rfl) (by kernel_rfl) (by kernel_rfl) (by exact fun _ _ _ h => h) (Or.inl ⟨by rfl, ?t8y⟩) hHeld ?t8r
        case t8y => intro w hSw; (try dsimp only at hSw); go_simp <;> rfl
        simp only [Act.put, List.setIfInBounds_toArray, List.set_cons_zero, List.set_cons_succ]
        refine wpAnyH_ready (rs := [7]) (by kernel_rfl) (by simp) ?_
        refine AllReadyH.cons (by simp only [List.getElem?_toArray, List.getElem?_cons_succ, List.getElem?_cons_zero] <;> rfl) (fun K hK => ?_) AllReadyH.nil
        go_simp
        refine (err_any c8).mono ?_
        rintro e w' ⟨rfl, rfl⟩
        go_wp2_with fail
        refine hK.out _ _ ⟨trivial, g1, g2⟩ (fun hHeld => ?_)
        clear hK K
        refine wpAnyH_take (i := 12) (v := ?t9v) (by simp only [List.getElem?_toArray, List.getElem?_cons_succ, List.getElem?_cons_zero] <;> rfl) (by kernel_rfl) (by kernel_rfl) (by kernel_rfl) (by exact fun _ _ _ h => h) (Or.inl ⟨by rfl, ?t9y⟩) hHeld ?t9r
        case t9y => intro w hSw; (try dsimp only at hSw); go_simp <;> rfl
        simp only [Act.put, List.setIfInBounds_toArray, List.set_cons_zero, List.set_cons_succ]
        refine wpAnyH_take (i := 13) (v := ?t10v) (by simp only [List.getElem?_toArray, List.getElem?_cons_succ, List.getElem?_cons_zero] <;> rfl) (by kernel_rfl) (by kernel_rfl) (by kernel_rfl) (by exact fun _ _ _ h => h) (Or.inl ⟨by rfl, ?t10y⟩) hHeld ?t10r
        case t10y => intro w hSw; (try dsimp only at hSw); go_simp <;> rfl
        simp only [Act.put, List.setIfInBounds_toArray, List.set_cons_zero, List.set_cons_succ]
        refine wpAnyH_take (i := 14) (v := ?t11v) (by simp only [List.getElem?_toArray, List.getElem?_cons_succ, List.getElem?_cons_zero] <;> rfl) (by kernel_rfl) (by kernel_rfl) (by kernel_rfl) (by exact fun _ _ _ h => h) (Or.inl ⟨by rfl, ?t11y⟩) hHeld ?t11r
        case t11y => intro w hSw; (try dsimp only at hSw); go_simp <;> rfl
        simp only [Act.put, List.setIfInBounds_toArray, List.set_cons_zero, List.set_cons_succ]
        refine wpAnyH_take (i := 15) (v := ?t12v) (by simp only [List.getElem?_toArray, List.getElem?_cons_succ, List.getElem?_cons_zero] <;> rfl) (by kernel_rfl) (by kernel_rfl) (by kernel_rfl) (by exact fun _ _ _ h => h) (Or.inl ⟨by rfl, ?t12y⟩) hHeld ?t12r
        case t12y => intro w hSw; (try dsimp only at hSw); go_simp <;> rfl
        simp only [Act.put, List.setIfInBounds_toArray, List.set_cons_zero, List.set_cons_succ]
        refine wpAnyH_take (i := 17) (v := ?t13v) (by simp only [List.getElem?_toArray, List.getElem?_cons_succ, List.getElem?_cons_zero] <;> rfl) (by kernel_rfl) (by kernel_rfl) (by kernel_rfl) (by exact fun _ _ _ h => h) (Or.inl ⟨by rfl, ?t13y⟩) hHeld ?t13r
        case t13y => intro w hSw; (try dsimp only at hSw); go_simp <;> rfl
        simp only [Act.put, List.setIfInBounds_toArray, List.set_cons_zero, List.set_cons_succ]
        refine wpAnyH_take (i := 18) (v := ?t14v) (by simp only [List.getElem?_toArray, List.getElem?_cons_succ, List.getElem?_cons_zero] <;> rfl) (by kernel_rfl) (by kernel_rfl) (by kernel_rfl) (by exact fun _ _ _ h => h) (Or.inl ⟨by rfl, ?t14y⟩) hHeld ?t14r
        case t14y => intro w hSw; (try dsimp only at hSw); go_simp <;> rfl
        simp only [Act.put, List.setIfInBounds_toArray, List.set_cons_zero, List.set_cons_succ]
        refine wpAnyH_take (i := 19) (v := ?t15v) (by simp only [List.getElem?_toArray, List.getElem?_cons_succ, List.getElem?_cons_zero] <;> rfl) (by kernel_rfl) (by kernel_rfl) (by kernel_rfl) (by exact fun _ _ _ h => h) (Or.inl ⟨by rfl, ?t15y⟩) hHeld ?t15r
        case t15y => intro w hSw; (try dsimp only at hSw); go_simp <;> rfl
        simp only [Act.put, List.setIfInBounds_toArray, List.set_cons_zero, List.set_cons_succ]
        refine wpAnyH_take (i := 20) (v := ?t16v) (by simp only [List.getElem?_toArray, List.getElem?_cons_succ, List.getElem?_cons_zero] <;> rfl) (by kernel_rfl) (by kernel_rfl) (by kernel_rfl) (by exact fun _ _ _ h => h) (Or.inl ⟨by rfl, ?t16y⟩) hHeld ?t16r
        case t16y => intro w hSw; (try dsimp only at hSw); go_simp <;> rfl
        simp only [Act.put, List.setIfInBounds_toArray, List.set_cons_zero, List.set_cons_succ]
        refine wpAnyH_ready (rs := [16]) (by kernel_rfl) (by simp) ?_
        refine AllReadyH.cons (by simp only [List.getElem?_toArray, List.getElem?_cons_succ, List.getElem?_cons_zero] <;> rfl) (fun K hK => ?_) AllReadyH.nil
        go_simp
        refine (at_any c8).mono ?_
        rintro e w' ⟨rfl, rfl⟩
        go_wp2_with fail
        refine hK.out _ _ ⟨trivial, g1, g2⟩ (fun hHeld => ?_)
        clear hK K
        refine wpAnyH_take (i := 21) (v := ?t17v) (by simp only [List.getElem?_toArray, List.getElem?_cons_succ, List.getElem?_cons_zero] <;> rfl) (by kernel_rfl) (by kernel_rfl) (by kernel_rfl) (by exact fun _ _ _ h => h) (Or.inl ⟨by rfl, ?t17y⟩) hHeld ?t17r
        case t17y => intro w hSw; (try dsimp only at hSw); go_simp <;> rfl
        simp only [Act.put, List.setIfInBounds_toArray, List.set_cons_zero, List.set_cons_succ]
        refine wpAnyH_take (i := 22) (v := ?t18v) (by simp only [List.getElem?_toArray, List.getElem?_cons_succ, List.getElem?_cons_zero] <;> rfl) (by kernel_rfl) (by kernel_rfl) (by kernel_rfl) (by exact fun _ _ _ h => h) (Or.inl ⟨by rfl, ?t18y⟩) hHeld ?t18r
        case t18y => intro w hSw; (try dsimp only at hSw); go_simp <;> rfl
        simp only [Act.put, List.setIfInBounds_toArray, List.set_cons_zero, List.set_cons_succ]
        refine wpAnyH_done (by kernel_rfl) ?_ _
        have z0 := K8.cell HX0.out (fun f => f)
        have ypt := ypt _ K8 y8
        go_wp2_with fail
        refine ypt.mono ?_
        rintro e w9 ⟨rfl, y9, k9⟩
        have c9 := c8.keep k9 (by omega)
        have x9 := x8.keep k9 (by omega)
        have p9 := p8.keep k9 (by omega) (by omega)
        have K9 : Keep0 w w9 := K8.step k9 (fun i hi hh => by omega)
        clear ypt k9 K8 c8 x8 p8 y8 z0
        go_wp2
        go_roundw
        case rel => exact ⟨k + 1, RR.2.1, RR.2.2, P2, by go_num, by omega, HN, c9, x9, p9, HP2, y9, K9⟩
        case measure => simp [intOf]; omega
    · have i1 : ¬ (k : Int) < ls.length := by omega
      have ek : ls.take k = ls := List.take_of_length_le (by omega)
      have hP := HP.out
      rw [ek] at hP
      have hok : ∀ l ∈ ls, Ok11 l := by
        intro l hl
        obtain ⟨q, hq, rfl⟩ := List.mem_iff_getElem.1 hl
        exact ⟨by have := HQ.out q hq (by omega); omega, (HF.out _ (List.getElem_mem hq)).2⟩
      have yv := V.put ao cap ls hp (by decide) (by have := HL.out; omega) hok HC.out hK (by omega) (by omega)
      rw [hP] at yv
      have hps := pVecs_size M ls (⟨#[]⟩, 0) (fun l hl x hx => ((HF.out l hl).2 x hx).2)
      rw [hP] at hps
      have e00 : ((⟨#[]⟩ : ByteArray), (0 : Int)).1.size = 0 := rfl
      have j1 : (P.1.size : Int) ≤ 9223372036854775807 := by have := HL.out; omega
      have ye := fun W r (h : Pen W pb r P.1 M P.2) => pend_any h
      have yf := fun W (h : RPen W yb P.1 M P.2) => rpend_any h
      obtain ⟨P1, P2⟩ := P
      have j1 : (P1.size : Int) ≤ 9223372036854775807 := j1
      clear HQ HP hP hok hps e00 hc hx ek
      go_wp2_with fail
      refine yv.mono ?_
      rintro e w6 ⟨rfl, r', p6, k6, hr6⟩
      have y6 := hy.keep k6 (by omega)
      have K6 : Keep0 w w6 := hK.step k6 (fun i hi hh => by omega)
      have ye := ye _ _ p6
      clear yv hp hy hK k6 hr6
      go_wp2_with fail
      refine ye.mono ?_
      rintro e w' ⟨rfl, rfl⟩
      have yf := yf _ y6
      clear ye
      go_wp2_with fail
      refine yf.mono ?_
      rintro e w7 ⟨rfl, hw7⟩
      have k7 := keepN hw7
      have p7 := p6.keep0 k7
      have y7 := y6.keep0 k7
      have K7 := K6.trans k7
      obtain ⟨q0, q1, q2, q3, q4⟩ := y7.cells
      clear yf hw7 k7 p6 y6 K6 q1 q2 q3 q4
      generalize pEnd P1 P2 = PE at *
      go_wp2_with fail
      go_quiet ((go_at_call 26; exact plen_q p7))
      go_wp2
      go_ret
      exact ⟨by simp, K7.drewN _⟩
theorem vcodeTakes_law (V : VcCode) (w : World) (s : ByteArray) (hs : s.size ≤ maxLen) (mx : Int) (hmx : (Lit.int .i64 mx).wf = true) (ao : Option Addr) (cap : Nat) (ls : List (List En)) (hl : ls.length ≤ maxLen) (hf : ∀ l ∈ ls, Fits l) (hc : VecsAt w ao ls) :
    Calls Try.prog 5 #[.string s, .int .i64 mx, .slice ao ls.length cap] w fun e w' => e = .returned (.bool true) ∧ Keep0 w w' := by
  by_cases h : s.size ≤ 3000 ∧ ls.length ≤ 6
  · exact vcodeTakes_small V w s h.1 mx (bounds_i64 hmx).2 ao cap ls h.2 hf hc
  · exact vcodeTakes_great V w s hs mx ao cap _ hl h
end Go.Proofs.Ytmiodefphiknhaa
