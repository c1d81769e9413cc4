/-
  What this seat's claims lean on of the texts Takes15.
  Conditions: as each theorem states.
-/
import Derived.WalkKit
import Derived.ProofKit
import Derived.Below
import Derived.Deep.Draws
import Derived.Deep.RegionHeld
import Derived.Test.YtfpahdnhnhkcdaaChecked
import Derived.OpenShut
import Derived.ShutString
import Derived.WalkSpells
import Derived.WalkLawsBesides
import Derived.Deep.QuietTactic
import Derived.BigQuiet
import Derived.Laws.Bits64b
import Derived.PlainAid
import Derived.Lib.AppendStr
import Derived.Deep.AppendLies
import Derived.Laws.IdiomStrings
import Derived.Laws.BytesArg
import Derived.Deep.RegionWith
import Derived.Laws.AppendOwn
import Derived.Deep.DeepAppendWide
import Derived.Deep.Upon
import Derived.Laws.Rows
import Derived.Deep.Slices
import Derived.Test.YtfpahdnhnhkcdaaZ27
import Derived.Test.YtfpahdnhnhkcdaaZ1
namespace Go.Proofs.Ytfpahdnhnhkcdaa
open Go.RowKit
theorem pSibs_size (M : Int) : ∀ (l : List Sb) (p : ByteArray × Int), (∀ k ∈ l, FitsS k) → (pSibs M p l).1.size ≤ p.1.size + 300000 * l.length
  | [], _, _ => by show _ ≤ _ + 300000 * 0; exact Nat.le_refl _
  | v :: l, p, h => by
    have hv := h v List.mem_cons_self
    have h1 := pSib_size M p (x := v) (fun x hx => (hv.clk.vec.2 x hx).2) hv.clk.num
    have h2 := pSibs_size M l (pSib M p v) (fun k hk => h k (List.mem_cons_of_mem _ hk))
    show (pSibs M (pSib M p v) l).1.size ≤ _
    rw [List.length_cons]
    omega
theorem rSeq_bad {α β : Type} {d : α × β} {A : Rdr α} {B : α → Rdr β} {s : ByteArray} {a : Int} (h : (rSeq d A B s a).2.2 ≠ 0) : (rSeq d A B s a).1 = d := by
  by_cases h1 : (A s a).2.2 = 0
  · by_cases h2 : (B (A s a).1 s (A s a).2.1).2.2 = 0
    · rw [rSeq_yes h1 h2] at h; exact absurd h2 h
    · rw [rSeq_mid h1 h2]
  · rw [rSeq_no h1]
theorem sib_zero {s : ByteArray} {a : Int} (h : (rSib s a).2.2 ≠ 0) : (rSib s a).1 = zSb := by
  have e := rSeq_bad (d := (zCk, ([], (false, (⟨#[]⟩ : ByteArray))))) (A := rClk) (B := fun _ => rMid) (s := s) (a := a) h
  show (fun q : Ck × (List Pr × (Bool × ByteArray)) => (⟨q.1, q.2.1, q.2.2.1, q.2.2.2⟩ : Sb)) (rSeq (zCk, ([], (false, ⟨#[]⟩))) rClk (fun _ => rMid) s a).1 = _
  rw [e]
  rfl
theorem zSb_fit : FitsS zSb := ⟨⟨⟨Nat.zero_le _, fun x hx => by cases hx⟩, Nat.zero_le _, by show 0 < 18446744073709551616; omega⟩, ⟨Nat.zero_le _, fun x hx => by cases hx⟩, Nat.zero_le _⟩
theorem take_fit15 (s : ByteArray) {a : Int} (h0 : 0 ≤ a) (h1 : a ≤ s.size) (x : Int) : FitsS (rX zSb rSib s a x).1 := by
  by_cases hx : x = 0
  · subst hx
    rw [rX_yes]
    by_cases he : (rSib s a).2.2 = 0
    · exact (sib_codec.read h0 h1 he).1.ok.fit
    · rw [sib_zero he]
      exact zSb_fit
  · rw [rX_no hx]
    exact zSb_fit
set_option maxRecDepth 100000 in
set_option maxHeartbeats 8000000 in
theorem siblingTakes_great (V : SibCode) (w : World) (s : ByteArray) (hs : s.size ≤ maxLen) (mx : Int) (ao : Option Addr) (cap n : Nat) (hn : n ≤ maxLen) (h : ¬ (s.size ≤ 3000 ∧ n ≤ 6)) :
    Calls Try.prog 5 #[.string s, .int .i64 mx, .slice ao n cap] w fun e w' => e = .returned (.bool true) ∧ Keep0 w w' := by
  have i0 : (s.size : Int) ≤ 9223372036854775807 := by unfold maxLen at hs; omega
  have i1 : (n : Int) ≤ 9223372036854775807 := by unfold maxLen at hn; omega
  by_cases h1 : (3000 : Int) < s.size
  · clear h
    go_enter Try.func5, Try.ntmps5
    go_wp2_with fail
    refine (awake15 V w).mono ?_
    rintro e w1 ⟨rfl, K1⟩
    go_wp2
    go_ret
    exact ⟨rfl, K1⟩
  · have h2 : (6 : Int) < n := by omega
    clear h
    go_enter Try.func5, Try.ntmps5
    go_wp2_with fail
    refine (awake15 V w).mono ?_
    rintro e w1 ⟨rfl, K1⟩
    go_wp2
    go_ret
    exact ⟨rfl, K1⟩
set_option maxRecDepth 100000 in
set_option maxHeartbeats 8000000 in
theorem siblingTakes_small (V : SibCode) (w : World) (s : ByteArray) (hs : s.size ≤ 3000) (mx : Int) (hmx : mx ≤ 9223372036854775807) (ao : Option Addr) (cap : Nat) (l : List Sb) (hl : l.length ≤ 6) (hf : ∀ k ∈ l, FitsS k) (hc : SibsAt w ao l) :
    Calls Try.prog 5 #[.string s, .int .i64 mx, .slice ao l.length cap] w fun e w' => e = .returned (.bool true) ∧ Keep0 w w' := by
  have HC : Hid (SibsAt w ao l) := hc
  have HF : Hid (∀ k ∈ l, FitsS k) := hf
  have HL : Hid (l.length ≤ 6) := hl
  have hsm : s.size ≤ maxLen := by unfold maxLen; omega
  have HSS : Hid (s.size ≤ 1000000) := by show _ ≤ _; omega
  have i0 : (s.size : Int) ≤ 9223372036854775807 := by omega
  have i00 : ¬ (3000 : Int) < s.size := by omega
  have i01 : ¬ (6 : Int) < l.length := by omega
  have i02 : (l.length : Int) ≤ 9223372036854775807 := by omega
  have yn := fun W => new_any W s hsm
  have yp := fun W => pnew_any W mx hmx
  have yq := fun W => rpnew_any W mx
  obtain ⟨M, hM⟩ : ∃ M, pMax mx = M := ⟨_, rfl⟩
  rw [hM] at yp yq
  clear hc hf hl hs hM hsm
  go_enter Try.func5, Try.ntmps5
  go_wp2_with fail
  refine (awake15 V w).mono ?_
  rintro e w1 ⟨rfl, K1⟩
  go_wp2_with fail
  refine (yn w1).mono ?_
  rintro e w2 ⟨rfl, c2, k2⟩
  have K2 := K1.trans k2
  have z1 := K1.size
  have hcb := c2.lt
  generalize hgc : w1.heap.size = cb at *
  have xN := Cur.new w2 s 54 (by have := HSS.out; unfold maxLen; omega)
  have kX : Keep0 w2 (w2.alloc (.cells #[.string s, .int .i64 0, .int .i64 0] 54)) := (Keep.refl _ w2).alloc _
  have c3 := c2.keep0 kX
  have K3 := K2.trans kX
  have hxb := xN.lt
  clear yn c2 k2 K2 K1 kX
  go_wp2_with fail
  generalize w2.alloc (.cells #[.string s, .int .i64 0, .int .i64 0] 54) = w3 at *
  generalize hgx : w2.heap.size = xb at *
  refine (yp w3).mono ?_
  rintro e w4 ⟨rfl, p4, k4⟩
  have c4 := c3.keep0 k4
  have x4 := xN.keep0 k4
  have K4 := K3.trans k4
  have hpb := p4.lt
  generalize hgp : w3.heap.size = pb at *
  clear yp c3 xN K3 k4
  go_wp2_with fail
  refine (yq w4).mono ?_
  rintro e w5 ⟨rfl, y5, k5⟩
  have c5 := c4.keep0 k5
  have x5 := x4.keep0 k5
  have p5 := p4.keep0 k5
  have K5 := K4.trans k5
  have hyb := y5.lt
  generalize hgy : w4.heap.size = yb at *
  have HB : Hid (w.heap.size ≤ cb ∧ cb < xb ∧ xb < pb ∧ pb < yb) := ⟨by omega, by omega, by omega, by omega⟩
  clear yq c4 x4 p4 K4 k5 hgc hgx hgp hgy hcb hxb hpb hyb z1
  go_wp2_with fail
  go_loopw [11] (fun i wr => ∃ (k : Nat) (A X : Int) (P : ByteArray × Int), i = .int .i64 (k : Int) ∧ k ≤ l.length ∧ Hid (∀ q (_ : q < l.length), q < k → sGreat l[q] = false) ∧ Cur wr cb s A X ∧ Cur wr xb s A X ∧ Pen wr pb pb ⟨#[]⟩ M 0 ∧ Hid (pSibs M (⟨#[]⟩, 0) (l.take k) = P) ∧ RPen wr yb P.1 M P.2 ∧ Keep0 w wr) (fun i _ => l.length - (intOf i).toNat)
  case atStart => exact ⟨0, 0, 0, (⟨#[]⟩, 0), rfl, by omega, (fun q _ h => by omega), c5, x5, p5, rfl, y5, K5⟩
  case round =>
    obtain ⟨k, A, X, P, rfl, hk, HQ, hc, hx, hp, HP, hy, hK⟩ := hrel
    clear c5 x5 p5 y5 K5
    obtain ⟨B1, B2, B3, B4⟩ := HB.out
    by_cases hlt : k < l.length
    · have i1 : (k : Int) < l.length := by omega
      obtain ⟨b, off, vo, vc, po, pc, hao, x4, x1⟩ := HC.out k hlt
      subst hao
      have hfk := HF.out l[k] (List.getElem_mem hlt)
      obtain ⟨v0, v1, v2, v3, v4, v5, v6⟩ := x4.keep0 hK
      have yg := rgreat15 wr vo vc po pc l[k] hfk (x1.keep0 hK)
      have hbw : b < w.heap.size := World.block_lt_of_cell? w _ x4.c0
      have HX0 : Hid (SibAt w b (off + k * 7) l[k] vo vc po pc) := x4
      have HX : Hid (SibIn w vo po pc l[k]) := x1
      cases hg : sGreat l[k] with
      | true =>
        rw [hg] at yg
        generalize l[k] = L at *
        clear x4 x1
        go_wp2_with fail
        refine yg.mono ?_
        rintro e w6 ⟨rfl, k6⟩
        have K6 := hK.trans k6
        clear yg k6 hK
        go_wp2
        go_ret
        exact ⟨rfl, K6⟩
      | false =>
        rw [hg] at yg
        have h100 : sGreat l[k] = false := hg
        have HN : Hid (∀ q (_ : q < l.length), q < k + 1 → sGreat l[q] = false) := by
          intro q hq hlt'
          by_cases e : q = k
          · subst e; exact h100
          · exact HQ.out q hq (by omega)
        have HPN : Hid (pSibs M (⟨#[]⟩, 0) (l.take (k + 1)) = pSib M P l[k]) := by
          show _ = pSib M P l[k]
          rw [pSibs_take hlt, HP.out]
        have hps := pSibs_size M (l.take k) (⟨#[]⟩, 0) (fun y hy => HF.out y (List.mem_of_mem_take hy))
        rw [HP.out, List.length_take, Nat.min_eq_left (by omega)] at hps
        have hps' : P.1.size ≤ 800000000 := by have e : ((⟨#[]⟩ : ByteArray), (0 : Int)).1.size = 0 := rfl; have := HL.out; omega
        have yv := fun W (h : Cur W cb s A X) => V.take h HSS.out
        have yr := fun W (h : Cur W xb s A X) => rtake15 h
        have okR := take_fit15 s hc.lo hc.hi X
        have hsm : sSame (rX zSb rSib s A X).1 (rX zSb rSib s A X).1 = true := sSame_iff.2 rfl
        have ysm := fun W p cp q cq p' cp' q' cq' (h : SibIn W p q cq (rX zSb rSib s A X).1) (h' : SibIn W p' q' cq' (rX zSb rSib s A X).1) => rsame15 W p cp q cq _ p' cp' q' cq' _ okR okR h h'
        rw [hsm] at ysm
        have ypt := fun W (K : Keep0 w W) (h : RPen W yb P.1 M P.2) => rput15 h hps' vo vc po pc l[k] hfk (HX.out.keep0 K) (fun hl g off m e hh => by have := ens_old HX.out.ens hl g off m e; omega) (fun hl g off m e hh => by have := prs_old HX.out.prs hl g off m e; omega)
        have hPe : (P.1, P.2) = P := rfl
        rw [hPe, ← HPN.out] at ypt
        obtain ⟨P2, hP2⟩ : ∃ P2, pSibs M (⟨#[]⟩, 0) (l.take (k + 1)) = P2 := ⟨_, rfl⟩
        rw [hP2] at ypt
        have HP2 : Hid (pSibs M (⟨#[]⟩, 0) (l.take (k + 1)) = P2) := hP2
        obtain ⟨RR, hRR⟩ : ∃ RR, rX zSb rSib s A X = RR := ⟨_, rfl⟩
        rw [hRR] at yv yr ysm
        generalize l[k] = L at *
        clear x4 x1 hg hfk HQ h100 hps hps' hPe hP2 HPN okR hsm hRR HP
        go_wp2_with fail
        refine yg.mono ?_
        rintro e w6 ⟨rfl, k6⟩
        have c6 := hc.keep0 k6
        have x6 := hx.keep0 k6
        have p6 := hp.keep0 k6
        have y6 := hy.keep0 k6
        have K6 := hK.trans k6
        clear yg k6 hc hx hp hy hK v0 v1 v2 v3 v4 v5 v6
        go_wp2_with fail
        have KD : Keep0 w6 w6.drew := (Keep.refl _ w6).drew
        have cD := c6.keep0 KD
        have xD := x6.keep0 KD
        have pD := p6.keep0 KD
        have yD := y6.keep0 KD
        have KK := K6.trans KD
        have hlx := xD.lt
        clear c6 x6 p6 y6 K6 KD
        refine wp_region_held_drew (S := fun _ => True) (by kernel_rfl) trivial (fun hHeld => ?_)
        generalize w6.drew = wD at *
        refine wpAnyH_take (i := 0) (v := ?t0v) (by simp only [List.getElem?_toArray, List.getElem?_cons_zero] <;> rfl) (by kernel_rfl) (by kernel_rfl) (by kernel_rfl) (by exact fun _ _ _ h => h) (Or.inl ⟨by rfl, ?t0y⟩) hHeld ?t0r
        case t0y => intro w hSw; (try dsimp only at hSw); go_simp <;> rfl
        simp only [Act.put, List.setIfInBounds_toArray, List.set_cons_zero, List.set_cons_succ]
        refine wpAnyH_take (i := 2) (v := ?t1v) (by simp only [List.getElem?_toArray, List.getElem?_cons_succ, List.getElem?_cons_zero] <;> rfl) (by kernel_rfl) (by kernel_rfl) (by kernel_rfl) (by exact fun _ _ _ h => h) (Or.inl ⟨by rfl, ?t1y⟩) hHeld ?t1r
        case t1y => intro w hSw; (try dsimp only at hSw); go_simp <;> rfl
        simp only [Act.put, List.setIfInBounds_toArray, List.set_cons_zero, List.set_cons_succ]
        refine wpAnyH_ready (rs := [1]) (by kernel_rfl) (by simp) ?_
        refine AllReadyH.cons (by simp only [List.getElem?_toArray, List.getElem?_cons_succ, List.getElem?_cons_zero] <;> rfl) (fun K hK => ?_) AllReadyH.nil
        go_simp
        refine (yv _ cD).mono ?_
        rintro e w61 ⟨ao1, ac1, ao2, ac2, rfl, c61, v61, vn, vn2, k61⟩
        have x61 := xD.keep k61 (by omega)
        have p61 := pD.keep k61 (by omega) (by omega)
        have y61 := yD.keep k61 (by omega)
        have K61 : Keep0 w w61 := KK.step k61 (fun i hi hh => by omega)
        have z61 := k61.size
        have hlx := xD.lt
        clear yv cD xD pD yD KK k61
        go_wp2_with fail
        refine hK.out _ _ trivial (fun hHeld => ?_)
        clear hK K
        refine wpAnyH_ready (rs := [3]) (by kernel_rfl) (by simp) ?_
        refine AllReadyH.cons (by simp only [List.getElem?_toArray, List.getElem?_cons_succ, List.getElem?_cons_zero] <;> rfl) (fun K hK => ?_) AllReadyH.nil
        go_simp
        refine (yr _ x61).mono ?_
        rintro e w7 ⟨ro1, rc1, ro2, rc2, rfl, x7, r7, rn, rn2, k7⟩
        have c7 := c61.keep k7 (by omega)
        have p7 := p61.keep k7 (by omega) (by omega)
        have y7 := y61.keep k7 (by omega)
        have v7 := v61.keep k7 (fun g o m e hh => by have := vn g o m e; omega) (fun g o m e hh => by have := vn2 g o m e; omega)
        have K7 : Keep0 w w7 := K61.step k7 (fun i hi hh => by omega)
        have g1 := x7.cells.2.1
        have g2 := x7.cells.2.2.1
        clear yr c61 x61 p61 y61 v61 K61 k7 rn vn rn2 vn2
        go_wp2_with fail
        refine hK.out _ _ trivial (fun hHeld => ?_)
        clear hK K
        clear hHeld
        refine wpAnyH_strong (S' := fun w' => True ∧ w'.cell? ⟨xb, 1, none⟩ = some (.int .i64 RR.2.1) ∧ w'.cell? ⟨xb, 2, none⟩ = some (.int .i64 RR.2.2)) (fun _ h => h.1) ⟨trivial, g1, g2⟩ (fun hHeld => ?_)
        refine wpAnyH_ready (rs := [4]) (by kernel_rfl) (by simp) ?_
        refine AllReadyH.cons (by simp only [List.getElem?_toArray, List.getElem?_cons_succ, List.getElem?_cons_zero] <;> rfl) (fun K hK => ?_) AllReadyH.nil
        go_simp
        refine (ysm _ _ _ _ _ _ _ _ _ v7 r7).mono ?_
        rintro e w8 ⟨rfl, k8⟩
        have c8 := c7.keep0 k8
        have x8 := x7.keep0 k8
        have p8 := p7.keep0 k8
        have y8 := y7.keep0 k8
        have K8 := K7.trans k8
        have g1 := k8.cell g1 (fun f => f)
        have g2 := k8.cell g2 (fun f => f)
        clear k8 c7 x7 p7 y7 v7 r7 K7 ysm
        go_wp2_with fail
        refine hK.out _ _ ⟨trivial, g1, g2⟩ (fun hHeld => ?_)
        clear hK K
        refine wpAnyH_take (i := 5) (v := ?t2v) (by simp only [List.getElem?_toArray, List.getElem?_cons_succ, List.getElem?_cons_zero] <;> rfl) (by kernel_rfl) (by kernel_rfl) (by kernel_rfl) (by exact fun _ _ _ h => h) (Or.inl ⟨by rfl, ?t2y⟩) hHeld ?t2r
        case t2y => intro w hSw; (try dsimp only at hSw); go_simp <;> rfl
        simp only [Act.put, List.setIfInBounds_toArray, List.set_cons_zero, List.set_cons_succ]
        refine wpAnyH_take (i := 6) (v := ?t3v) (by simp only [List.getElem?_toArray, List.getElem?_cons_succ, List.getElem?_cons_zero] <;> rfl) (by kernel_rfl) (by kernel_rfl) (by kernel_rfl) (by exact fun _ _ _ h => h) (Or.inl ⟨by rfl, ?t3y⟩) hHeld ?t3r
        case t3y => intro w hSw; (try dsimp only at hSw); go_simp <;> rfl
        simp only [Act.put, List.setIfInBounds_toArray, List.set_cons_zero, List.set_cons_succ]
        refine wpAnyH_take (i := 7) (v := ?t4v) (by simp only [List.getElem?_toArray, List.getElem?_cons_succ, List.getElem?_cons_zero] <;> rfl) (by kernel_rfl) (by kernel_rfl) (by kernel_rfl) (by exact fun _ _ _ h => h) (Or.inl ⟨by rfl, ?t4y⟩) hHeld ?t4r
        case t4y => intro w hSw; (try dsimp only at hSw); go_simp <;> rfl
        simp only [Act.put, List.setIfInBounds_toArray, List.set_cons_zero, List.set_cons_succ]
        refine wpAnyH_take (i := 9) (v := ?t5v) (by simp only [List.getElem?_toArray, List.getElem?_cons_succ, List.getElem?_cons_zero] <;> rfl) (by kernel_rfl) (by kernel_rfl) (by kernel_rfl) (by exact fun _ _ _ h => h) (Or.inl ⟨by rfl, ?t5y⟩) hHeld ?t5r
        case t5y => intro w hSw; (try dsimp only at hSw); go_simp <;> rfl
        simp only [Act.put, List.setIfInBounds_toArray, List.set_cons_zero, List.set_cons_succ]
        refine wpAnyH_take (i := 10) (v := ?t6v) (by simp only [List.getElem?_toArray, List.getElem?_cons_succ, List.getElem?_cons_zero] <;> rfl) (by kernel_rfl) (by kernel_rfl) (by kernel_rfl) (by exact fun _ _ _ h => h) (Or.inl ⟨by rfl, ?t6y⟩) hHeld ?t6r
        case t6y => intro w hSw; (try dsimp only at hSw); go_simp <;> rfl
        simp only [Act.put, List.setIfInBounds_toArray, List.set_cons_zero, List.set_cons_succ]
        refine wpAnyH_take (i := 11) (v := ?t7v) (by simp only [List.getElem?_toArray, List.getElem?_cons_succ, List.getElem?_cons_zero] <;> rfl) (by kernel_rfl) (by kernel_rfl) (by kernel_rfl) (by exact fun _ _ _ h => h) (Or.inl ⟨by rfl, ?t7y⟩) hHeld ?t7r
        case t7y => intro w hSw; (try dsimp only at hSw); go_simp <;> rfl
        simp only [Act.put, List.setIfInBounds_toArray, List.set_cons_zero, List.set_cons_succ]
        refine wpAnyH_take (i := 12) (v := ?t8v) (by simp only [List.getElem?_toArray, List.getElem?_cons_succ, List.getElem?_cons_zero] <;> rfl) (by kernel_rfl) (by kernel_rfl) (by kernel_rfl) (by exact fun _ _ _ h => h) (Or.inl ⟨by rfl, ?t8y⟩) hHeld ?t8r
        case t8y => intro w hSw; (try dsimp only at hSw); go_simp <;> rfl
        simp only [Act.put, List.setIfInBounds_toArray, List.set_cons_zero, List.set_cons_succ]
        refine wpAnyH_ready (rs := [8]) (by kernel_rfl) (by simp) ?_
        refine AllReadyH.cons (by simp only [List.getElem?_toArray, List.getElem?_cons_succ, List.getElem?_cons_zero] <;> rfl) (fun K hK => ?_) AllReadyH.nil
        go_simp
        refine (err_any c8).mono ?_
        rintro e w' ⟨rfl, rfl⟩
        go_wp2_with fail
        refine hK.out _ _ ⟨trivial, g1, g2⟩ (fun hHeld => ?_)
        clear hK K
        refine wpAnyH_take (i := 13) (v := ?t9v) (by simp only [List.getElem?_toArray, List.getElem?_cons_succ, List.getElem?_cons_zero] <;> rfl) (by kernel_rfl) (by kernel_rfl) (by kernel_rfl) (by exact fun _ _ _ h => h) (Or.inl ⟨by rfl, ?t9y⟩) hHeld ?t9r
        case t9y => intro w hSw; (try dsimp only at hSw); go_simp <;> rfl
        simp only [Act.put, List.setIfInBounds_toArray, List.set_cons_zero, List.set_cons_succ]
        refine wpAnyH_take (i := 14) (v := ?t10v) (by simp only [List.getElem?_toArray, List.getElem?_cons_succ, List.getElem?_cons_zero] <;> rfl) (by kernel_rfl) (by kernel_rfl) (by kernel_rfl) (by exact fun _ _ _ h => h) (Or.inl ⟨by rfl, ?t10y⟩) hHeld ?t10r
        case t10y => intro w hSw; (try dsimp only at hSw); go_simp <;> rfl
        simp only [Act.put, List.setIfInBounds_toArray, List.set_cons_zero, List.set_cons_succ]
        refine wpAnyH_take (i := 15) (v := ?t11v) (by simp only [List.getElem?_toArray, List.getElem?_cons_succ, List.getElem?_cons_zero] <;> rfl) (by kernel_rfl) (by kernel_rfl) (by kernel_rfl) (by exact fun _ _ _ h => h) (Or.inl ⟨by rfl, ?t11y⟩) hHeld ?t11r
        case t11y => intro w hSw; (try dsimp only at hSw); go_simp <;> rfl
        simp only [Act.put, List.setIfInBounds_toArray, List.set_cons_zero, List.set_cons_succ]
        refine wpAnyH_take (i := 16) (v := ?t12v) (by simp only [List.getElem?_toArray, List.getElem?_cons_succ, List.getElem?_cons_zero] <;> rfl) (by kernel_rfl) (by kernel_rfl) (by kernel_rfl) (by exact fun _ _ _ h => h) (Or.inl ⟨by rfl, ?t12y⟩) hHeld ?t12r
        case t12y => intro w hSw; (try dsimp only at hSw); go_simp <;> rfl
        simp only [Act.put, List.setIfInBounds_toArray, List.set_cons_zero, List.set_cons_succ]
        refine wpAnyH_take (i := 18) (v := ?t13v) (by simp only [List.getElem?_toArray, List.getElem?_cons_succ, List.getElem?_cons_zero] <;> rfl) (by kernel_rfl) (by kernel_rfl) (by kernel_rfl) (by exact fun _ _ _ h => h) (Or.inl ⟨by rfl, ?t13y⟩) hHeld ?t13r
        case t13y => intro w hSw; (try dsimp only at hSw); go_simp <;> rfl
        simp only [Act.put, List.setIfInBounds_toArray, List.set_cons_zero, List.set_cons_succ]
        refine wpAnyH_take (i := 19) (v := ?t14v) (by simp only [List.getElem?_toArray, List.getElem?_cons_succ, List.getElem?_cons_zero] <;> rfl) (by kernel_rfl) (by kernel_rfl) (by kernel_rfl) (by exact fun _ _ _ h => h) (Or.inl ⟨by rfl, ?t14y⟩) hHeld ?t14r
        case t14y => intro w hSw; (try dsimp only at hSw); go_simp <;> rfl
        simp only [Act.put, List.setIfInBounds_toArray, List.set_cons_zero, List.set_cons_succ]
        refine wpAnyH_take (i := 20) (v := ?t15v) (by simp only [List.getElem?_toArray, List.getElem?_cons_succ, List.getElem?_cons_zero] <;> rfl) (by kernel_rfl) (by kernel_rfl) (by kernel_rfl) (by exact fun _ _ _ h => h) (Or.inl ⟨by rfl, ?t15y⟩) hHeld ?t15r
        case t15y => intro w hSw; (try dsimp only at hSw); go_simp <;> rfl
        simp only [Act.put, List.setIfInBounds_toArray, List.set_cons_zero, List.set_cons_succ]
        refine wpAnyH_take (i := 21) (v := ?t16v) (by simp only [List.getElem?_toArray, List.getElem?_cons_succ, List.getElem?_cons_zero] <;> rfl) (by kernel_rfl) (by kernel_rfl) (by kernel_rfl) (by exact fun _ _ _ h => h) (Or.inl ⟨by rfl, ?t16y⟩) hHeld ?t16r
        case t16y => intro w hSw; (try dsimp only at hSw); go_simp <;> rfl
        simp only [Act.put, List.setIfInBounds_toArray, List.set_cons_zero, List.set_cons_succ]
        refine wpAnyH_ready (rs := [17]) (by kernel_rfl) (by simp) ?_
        refine AllReadyH.cons (by simp only [List.getElem?_toArray, List.getElem?_cons_succ, List.getElem?_cons_zero] <;> rfl) (fun K hK => ?_) AllReadyH.nil
        go_simp
        refine (at_any c8).mono ?_
        rintro e w' ⟨rfl, rfl⟩
        go_wp2_with fail
        refine hK.out _ _ ⟨trivial, g1, g2⟩ (fun hHeld => ?_)
        clear hK K
        refine wpAnyH_take (i := 22) (v := ?t17v) (by simp only [List.getElem?_toArray, List.getElem?_cons_succ, List.getElem?_cons_zero] <;> rfl) (by kernel_rfl) (by kernel_rfl) (by kernel_rfl) (by exact fun _ _ _ h => h) (Or.inl ⟨by rfl, ?t17y⟩) hHeld ?t17r
        case t17y => intro w hSw; (try dsimp only at hSw); go_simp <;> rfl
        simp only [Act.put, List.setIfInBounds_toArray, List.set_cons_zero, List.set_cons_succ]
        refine wpAnyH_take (i := 23) (v := ?t18v) (by simp only [List.getElem?_toArray, List.getElem?_cons_succ, List.getElem?_cons_zero] <;> rfl) (by kernel_rfl) (by kernel_rfl) (by kernel_rfl) (by exact fun _ _ _ h => h) (Or.inl ⟨by rfl, ?t18y⟩) hHeld ?t18r
        case t18y => intro w hSw; (try dsimp only at hSw); go_simp <;> rfl
        simp only [Act.put, List.setIfInBounds_toArray, List.set_cons_zero, List.set_cons_succ]
        refine wpAnyH_done (by kernel_rfl) ?_ _
        obtain ⟨z0, z1, z2, z3, z4, z5, z6⟩ := HX0.out.keep0 K8
        have ypt := ypt _ K8 y8
        go_wp2_with fail
        refine ypt.mono ?_
        rintro e w9 ⟨rfl, y9, k9⟩
        have c9 := c8.keep k9 (by omega)
        have x9 := x8.keep k9 (by omega)
        have p9 := p8.keep k9 (by omega) (by omega)
        have K9 : Keep0 w w9 := K8.step k9 (fun i hi hh => by omega)
        clear ypt k9 K8 c8 x8 p8 y8 z0 z1 z2 z3 z4 z5 z6
        go_wp2
        go_roundw
        case rel => exact ⟨k + 1, RR.2.1, RR.2.2, P2, by go_num, by omega, HN, c9, x9, p9, HP2, y9, K9⟩
        case measure => simp [intOf]; omega
    · have i1 : ¬ (k : Int) < l.length := by omega
      have ek : l.take k = l := List.take_of_length_le (by omega)
      have hP := HP.out
      rw [ek] at hP
      have hok : ∀ y ∈ l, Ok15 y := by
        intro y hy
        obtain ⟨q, hq, rfl⟩ := List.mem_iff_getElem.1 hy
        exact sGreat_ok (HF.out _ (List.getElem_mem hq)) (HQ.out q hq (by omega))
      have yv := V.put ao cap l hp (by decide) (by have := HL.out; omega) hok (SibsBy.old HC.out hK (by omega) (by omega))
      rw [hP] at yv
      have hps := pSibs_size M l (⟨#[]⟩, 0) HF.out
      rw [hP] at hps
      have e00 : ((⟨#[]⟩ : ByteArray), (0 : Int)).1.size = 0 := rfl
      have j1 : (P.1.size : Int) ≤ 9223372036854775807 := by have := HL.out; omega
      have ye := fun W r (h : Pen W pb r P.1 M P.2) => pend_any h
      have yf := fun W (h : RPen W yb P.1 M P.2) => rpend_any h
      obtain ⟨P1, P2⟩ := P
      have j1 : (P1.size : Int) ≤ 9223372036854775807 := j1
      clear HQ HP hP hok hps e00 hc hx ek
      go_wp2_with fail
      refine yv.mono ?_
      rintro e w6 ⟨rfl, r', p6, k6, hr6⟩
      have y6 := hy.keep k6 (by unfold two; omega)
      have K6 : Keep0 w w6 := hK.step k6 (fun i hi hh => by unfold two at hh; omega)
      have ye := ye _ _ p6
      clear yv hp hy hK k6 hr6
      go_wp2_with fail
      refine ye.mono ?_
      rintro e w' ⟨rfl, rfl⟩
      have yf := yf _ y6
      clear ye
      go_wp2_with fail
      refine yf.mono ?_
      rintro e w7 ⟨rfl, hw7⟩
      have k7 := keepN hw7
      have p7 := p6.keep0 k7
      have y7 := y6.keep0 k7
      have K7 := K6.trans k7
      obtain ⟨q0, q1, q2, q3, q4⟩ := y7.cells
      clear yf hw7 k7 p6 y6 K6 q1 q2 q3 q4
      generalize pEnd P1 P2 = PE at *
      go_wp2_with fail
      go_quiet ((go_at_call 30; exact plen_q p7))
      go_wp2
      go_ret
      exact ⟨by simp, K7.drewN _⟩
theorem siblingTakes_law (V : SibCode) (w : World) (s : ByteArray) (hs : s.size ≤ maxLen) (mx : Int) (hmx : (Lit.int .i64 mx).wf = true) (ao : Option Addr) (cap : Nat) (l : List Sb) (hl : l.length ≤ maxLen) (hf : ∀ k ∈ l, FitsS k) (hc : SibsAt w ao l) :
    Calls Try.prog 5 #[.string s, .int .i64 mx, .slice ao l.length cap] w fun e w' => e = .returned (.bool true) ∧ Keep0 w w' := by
  by_cases h : s.size ≤ 3000 ∧ l.length ≤ 6
  · exact siblingTakes_small V w s h.1 mx (bounds_i64 hmx).2 ao cap l h.2 hf hc
  · exact siblingTakes_great V w s hs mx ao cap _ hl h
end Go.Proofs.Ytfpahdnhnhkcdaa
