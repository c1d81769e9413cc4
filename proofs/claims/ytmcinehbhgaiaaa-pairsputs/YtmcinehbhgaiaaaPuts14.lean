/-
  The walk of the law PairsPuts, out of what package pairs' functions answer (PairCode) and of the document's own answers. (Written by tools/law14.py.)
  Conditions: none beyond that the arguments can be read as data.
-/
import Derived.Test.YtmcinehbhgaiaaaLaw14
import Derived.Test.YtmcinehbhgaiaaaL1
import Derived.BigQuiet
import Derived.Test.YtmcinehbhgaiaaaTakes14
namespace Go.Proofs.Ytmcinehbhgaiaaa
open Go.RowKit

/-- What was written without an error is the pairs' bytes. -/
theorem pPair_zero {M : Int} {q : ByteArray × Int} {x : Pr} (h : (pPair M q x).2 = 0) : q.2 = 0 ∧ (pPair M q x).1 = q.1 ++ ePair x := by
  unfold pPair at h ⊢
  obtain ⟨h1, _, h2⟩ := wPut_zero (T := (wPut M 32768 (wPut M 32 q x.n) x.v).1) (Prod.ext rfl h)
  obtain ⟨h3, _, h4⟩ := wPut_zero (T := (wPut M 32 q x.n).1) (Prod.ext rfl h1)
  refine ⟨h3, ?_⟩
  rw [h2, h4]
  unfold ePair bEncT
  simp only [ByteArray.append_assoc]
theorem pPairs_zero {M : Int} : ∀ {l : List Pr} {q : ByteArray × Int}, (pPairs M q l).2 = 0 → q.2 = 0 ∧ (pPairs M q l).1 = q.1 ++ ePairs l
  | [], q, h => ⟨h, by show q.1 = q.1 ++ ⟨#[]⟩; exact ByteArray.append_empty.symm⟩
  | x :: l, q, h => by
    obtain ⟨h1, h2⟩ := pPairs_zero (l := l) (q := pPair M q x) h
    obtain ⟨h3, h4⟩ := pPair_zero h1
    refine ⟨h3, ?_⟩
    show (pPairs M (pPair M q x) l).1 = q.1 ++ (ePair x ++ ePairs l)
    rw [h2, h4, ByteArray.append_assoc]
theorem pPrs_zero {M : Int} {l : List Pr} (h : (pPrs M (⟨#[]⟩, 0) l).2 = 0) : qCheck l = 0 ∧ (pPrs M (⟨#[]⟩, 0) l).1 = ePrs l := by
  by_cases h0 : qCheck l = 0
  · refine ⟨h0, ?_⟩
    rw [pPrs_yes h0] at h ⊢
    obtain ⟨h1, h2⟩ := pPairs_zero h
    obtain ⟨_, h3⟩ := pOne_zero (T := (pOne M (⟨#[]⟩, 0) (vText l.length)).1) (Prod.ext rfl h1)
    rw [h2, h3]
    unfold ePrs
    show (⟨#[]⟩ : ByteArray) ++ vText l.length ++ ePairs l = _
    have e : (⟨#[]⟩ : ByteArray) ++ vText l.length = vText l.length := ByteArray.empty_append
    rw [e]
  · rw [pPrs_no h0] at h
    exact (pFail_zero (x := 0) h0 h).elim
theorem pPrs_size {M : Int} {l : List Pr} : (pPrs M (⟨#[]⟩, 0) l).1.size ≤ 300000 := by
  by_cases h0 : qCheck l = 0
  · obtain ⟨h1, h2⟩ := (qCheck_zero l).1 h0
    have h3 := pPairs_size M l (pOne M (⟨#[]⟩, 0) (vText l.length)) (fun x hx => (h2.1 x hx).2)
    have h4 := pOne_size M (⟨#[]⟩, 0) (vText l.length)
    have h5 := (vText_le (n := l.length) (by omega)).2
    have h6 : ((⟨#[]⟩ : ByteArray), (0 : Int)).1.size = 0 := rfl
    rw [pPrs_yes h0]
    omega
  · rw [pPrs_no h0]; exact Nat.zero_le _
set_option maxRecDepth 100000 in
set_option maxHeartbeats 8000000 in
theorem pairsPuts_law (V : PairCode) (w : World) (ao : Option Addr) (cap : Nat) (l : List Pr) (fl : FitsP l) (hcp : CapP l cap) (hA : PrsAt w ao l) (mx : Int) (hmx : (Lit.int .i64 mx).wf = true) :
    Calls Try.prog 3 #[.slice ao l.length cap, .int .i64 mx] w fun e w' => e = .returned (.bool true) ∧ Keep0 w w' := by
  have yg := fun W (h : PrsAt W ao l) => rgreat14 W ao cap l fl h
  cases hg : qGreat l with
  | true =>
    rw [hg] at yg
    clear hg
    go_enter Try.func3, Try.ntmps3
    go_wp2_with fail
    refine (awake14 V w).mono ?_
    rintro e w1 ⟨rfl, K1⟩
    have yg := yg _ (hA.keep0 K1)
    go_wp2_with fail
    refine yg.mono ?_
    rintro e w2 ⟨rfl, k2⟩
    subst k2
    have K2 := K1
    clear yg K1
    go_wp2
    go_ret
    exact ⟨rfl, K2⟩
  | false =>
    rw [hg] at yg
    obtain ⟨h20, h100⟩ := greatq_no hg
    have ok : Ok14 l cap := ⟨by omega, fl.2, hcp⟩
    have hb := (bounds_i64 hmx).2
    have yp := fun W => pnew_any W mx hb
    have yq := fun W => rpnew_any W mx
    obtain ⟨M, hM⟩ : ∃ M, pMax mx = M := ⟨_, rfl⟩
    rw [hM] at yp yq
    have ypt := fun W b (h : Pen W b b ⟨#[]⟩ M 0) (hc : PrsAt W ao l) (hn : 0 < l.length → ApartE (two b b) ao) => V.put ao cap l h (by decide) ok (fun x hx => by have := h100 x hx; omega) hc hn
    have yrt := fun W b (h : RPen W b ⟨#[]⟩ M 0) (hc : PrsAt W ao l) (hn : 0 < l.length → ApartE (fun k => k = b) ao) => rput14 h (by decide) ao cap l fl hc hn
    have hz := pPrs_zero (M := M) (l := l)
    have hsz := pPrs_size (M := M) (l := l)
    have yc := fun W (h : PrsAt W ao l) => V.check W ao cap l ok h
    have yd := fun W (h : PrsAt W ao l) => rcheck14 W ao cap l fl h
    have hsame : qSame l l = true := qSame_iff.2 rfl
    have ysm := fun W p cp (h : PrsAt W p l) (h' : PrsAt W ao l) => rsame14 W p ao cp cap _ _ fl.1 fl.1 h h'
    rw [hsame] at ysm
    have HOLD : Hid (0 < l.length → ∀ g off m, ao = some ⟨g, off, m⟩ → g < w.heap.size) := fun hl g off m e => by
      obtain ⟨b, o, e', h1, _⟩ := hA 0 hl
      rw [e] at e'
      cases e'
      exact World.block_lt_of_cell? w _ h1
    have HCO : Hid (qCheck l = 0 → rX [] rPrs (ePrs l) 0 0 = (l, ((ePrs l).size : Int), 0)) := by
      intro h
      rw [rX_yes]
      exact prs_codec.only h
    generalize qCheck l = C at *
    obtain ⟨P, hP⟩ : ∃ P, pPrs M (⟨#[]⟩, 0) l = P := ⟨_, rfl⟩
    rw [hP] at ypt yrt hz hsz
    have ye := fun W b r (h : Pen W b r P.1 M P.2) => pend_any h
    have yf := fun W b (h : RPen W b P.1 M P.2) => rpend_any h
    obtain ⟨P1, P2⟩ := P
    have HZ : Hid (P2 = 0 → C = 0 ∧ P1 = ePrs l) := hz
    have hsz : P1.size ≤ 300000 := hsz
    have j1 : (P1.size : Int) ≤ 9223372036854775807 := by omega
    have HAw : Hid (PrsAt w ao l) := hA
    clear hg hmx hM hz hP hsame hb hA h20 h100 hcp
    go_enter Try.func3, Try.ntmps3
    go_wp2_with fail
    refine (awake14 V w).mono ?_
    rintro e w1 ⟨rfl, K1⟩
    have yg := yg _ (HAw.out.keep0 K1)
    have z1 := K1.size
    go_wp2_with fail
    refine yg.mono ?_
    rintro e w2 ⟨rfl, k2⟩
    subst k2
    have K2 := K1
    clear yg K1
    go_wp2_with fail
    refine (yp w1).mono ?_
    rintro e w3 ⟨rfl, p3, k3⟩
    have K3 := K2.trans k3
    have hpl := p3.lt
    have hpb : w.heap.size ≤ w1.heap.size := by omega
    generalize w1.heap.size = pb at *
    clear yp k3 K2
    go_wp2_with fail
    refine (yq w3).mono ?_
    rintro e w4 ⟨rfl, x4, k4⟩
    have p4 := p3.keep0 k4
    have K4 := K3.trans k4
    have hxl := x4.lt
    have hxb : pb < w3.heap.size := hpl
    generalize w3.heap.size = xb at *
    have ypt := ypt _ _ p4 (HAw.out.keep0 K4) (fun hl g off m e hh => by have := HOLD.out hl g off m e; unfold two at hh; omega)
    clear yq k4 K3 p3
    go_wp2_with fail
    refine ypt.mono ?_
    rintro e w5 ⟨rfl, r5, p5, k5, hr5⟩
    have x5 := x4.keep k5 (by unfold two; omega)
    have K5 : Keep0 w w5 := K4.step k5 (fun i hi hh => by unfold two at hh; omega)
    have yrt := yrt _ _ x5 (HAw.out.keep0 K5) (fun hl g off m e hh => by have := HOLD.out hl g off m e; omega)
    have z5 := k5.size
    clear ypt k5 K4 p4 x4
    go_wp2_with fail
    refine yrt.mono ?_
    rintro e w6 ⟨rfl, x6, k6⟩
    have p6 := p5.keep k6 (by omega) (by omega)
    have K6 : Keep0 w w6 := K5.step k6 (fun i hi hh => by omega)
    have ye := ye _ _ _ p6
    clear yrt k6 K5 p5 x5
    go_wp2_with fail
    refine ye.mono ?_
    rintro e w' ⟨rfl, rfl⟩
    have yf := yf _ _ x6
    clear ye
    go_wp2_with fail
    refine yf.mono ?_
    rintro e w7 ⟨rfl, hw7⟩
    have k7 := keepN hw7
    have p7 := p6.keep0 k7
    have x7 := x6.keep0 k7
    have K7 := K6.trans k7
    clear yf hw7 k7 p6 x6 K6
    go_wp2_with fail
    have KD : Keep0 w7 w7.drew := (Keep.refl _ w7).drew
    have pD := p7.keep0 KD
    have xD := x7.keep0 KD
    have KK := K7.trans KD
    have yc := yc _ (HAw.out.keep0 KK)
    clear p7 x7 K7 KD
    refine wp_region_held_drew (S := fun _ => True) (by kernel_rfl) trivial (fun hHeld => ?_)
    generalize w7.drew = wD at *
    refine wpAnyH_take (i := 0) (v := ?t0v) (by simp only [List.getElem?_toArray, List.getElem?_cons_zero] <;> rfl) (by kernel_rfl) (by kernel_rfl) (by kernel_rfl) (by exact fun _ _ _ h => h) (Or.inl ⟨by rfl, ?t0y⟩) hHeld ?t0r
    case t0y => intro w hSw; (try dsimp only at hSw); go_simp <;> rfl
    simp only [Act.put, List.setIfInBounds_toArray, List.set_cons_zero, List.set_cons_succ]
    refine wpAnyH_take (i := 2) (v := ?t1v) (by simp only [List.getElem?_toArray, List.getElem?_cons_succ, List.getElem?_cons_zero] <;> rfl) (by kernel_rfl) (by kernel_rfl) (by kernel_rfl) (by exact fun _ _ _ h => h) (Or.inl ⟨by rfl, ?t1y⟩) hHeld ?t1r
    case t1y => intro w hSw; (try dsimp only at hSw); go_simp <;> rfl
    simp only [Act.put, List.setIfInBounds_toArray, List.set_cons_zero, List.set_cons_succ]
    refine wpAnyH_ready (rs := [1]) (by kernel_rfl) (by simp) ?_
    refine AllReadyH.cons (by simp only [List.getElem?_toArray, List.getElem?_cons_succ, List.getElem?_cons_zero] <;> rfl) (fun K hK => ?_) AllReadyH.nil
    go_simp
    refine yc.mono ?_
    rintro e w8 ⟨rfl, k8⟩
    have p8 := pD.keep0 k8
    have x8 := xD.keep0 k8
    have K8 := KK.trans k8
    have yd := yd _ (HAw.out.keep0 K8)
    clear yc k8 KK pD xD
    go_wp2_with fail
    refine hK.out _ _ trivial (fun hHeld => ?_)
    clear hK K
    refine wpAnyH_ready (rs := [3]) (by kernel_rfl) (by simp) ?_
    refine AllReadyH.cons (by simp only [List.getElem?_toArray, List.getElem?_cons_succ, List.getElem?_cons_zero] <;> rfl) (fun K hK => ?_) AllReadyH.nil
    go_simp
    refine yd.mono ?_
    rintro e wA ⟨rfl, hw9⟩
    have pA := p8.keep0 (keepN hw9)
    have xA := x8.keep0 (keepN hw9)
    have KA := K8.trans (keepN hw9)
    obtain ⟨q0, q1, q2, q3, q4⟩ := xA.cells
    clear yd hw9 K8 p8 x8 q1 q2 q3 q4
    go_wp2_with fail
    refine hK.out _ _ trivial (fun hHeld => ?_)
    clear hK K
    clear hHeld
    refine wpAnyH_strong (S' := fun w' => True ∧ w'.cell? ⟨xb, 0, none⟩ = some (.string P1)) (fun _ h => h.1) ⟨trivial, q0⟩ (fun hHeld => ?_)
    refine wpAnyH_take (i := 4) (v := ?t2v) (by simp only [List.getElem?_toArray, List.getElem?_cons_succ, List.getElem?_cons_zero] <;> rfl) (by kernel_rfl) (by kernel_rfl) (by kernel_rfl) (by exact fun _ _ _ h => h) (Or.inl ⟨by rfl, ?t2y⟩) hHeld ?t2r
    case t2y => intro w hSw; (try dsimp only at hSw); go_simp <;> rfl
    simp only [Act.put, List.setIfInBounds_toArray, List.set_cons_zero, List.set_cons_succ]
    refine wpAnyH_take (i := 5) (v := ?t3v) (by simp only [List.getElem?_toArray, List.getElem?_cons_succ, List.getElem?_cons_zero] <;> rfl) (by kernel_rfl) (by kernel_rfl) (by kernel_rfl) (by exact fun _ _ _ h => h) (Or.inl ⟨by rfl, ?t3y⟩) hHeld ?t3r
    case t3y => intro w hSw; (try dsimp only at hSw); go_simp <;> rfl
    simp only [Act.put, List.setIfInBounds_toArray, List.set_cons_zero, List.set_cons_succ]
    refine wpAnyH_take (i := 6) (v := ?t4v) (by simp only [List.getElem?_toArray, List.getElem?_cons_succ, List.getElem?_cons_zero] <;> rfl) (by kernel_rfl) (by kernel_rfl) (by kernel_rfl) (by exact fun _ _ _ h => h) (Or.inl ⟨by rfl, ?t4y⟩) hHeld ?t4r
    case t4y => intro w hSw; (try dsimp only at hSw); go_simp <;> rfl
    simp only [Act.put, List.setIfInBounds_toArray, List.set_cons_zero, List.set_cons_succ]
    refine wpAnyH_take (i := 7) (v := ?t5v) (by simp only [List.getElem?_toArray, List.getElem?_cons_succ, List.getElem?_cons_zero] <;> rfl) (by kernel_rfl) (by kernel_rfl) (by kernel_rfl) (by exact fun _ _ _ h => h) (Or.inl ⟨by rfl, ?t5y⟩) hHeld ?t5r
    case t5y => intro w hSw; (try dsimp only at hSw); go_simp <;> rfl
    simp only [Act.put, List.setIfInBounds_toArray, List.set_cons_zero, List.set_cons_succ]
    refine wpAnyH_take (i := 8) (v := ?t6v) (by simp only [List.getElem?_toArray, List.getElem?_cons_succ, List.getElem?_cons_zero] <;> rfl) (by kernel_rfl) (by kernel_rfl) (by kernel_rfl) (by exact fun _ _ _ h => h) (Or.inl ⟨by rfl, ?t6y⟩) hHeld ?t6r
    case t6y => intro w hSw; (try dsimp only at hSw); go_simp <;> rfl
    simp only [Act.put, List.setIfInBounds_toArray, List.set_cons_zero, List.set_cons_succ]
    refine wpAnyH_take (i := 9) (v := ?t7v) (by simp only [List.getElem?_toArray, List.getElem?_cons_succ, List.getElem?_cons_zero] <;> rfl) (by kernel_rfl) (by kernel_rfl) (by kernel_rfl) (by exact fun _ _ _ h => h) (Or.inl ⟨by rfl, ?t7y⟩) hHeld ?t7r
    case t7y => intro w hSw; (try dsimp only at hSw); go_simp <;> rfl
    simp only [Act.put, List.setIfInBounds_toArray, List.set_cons_zero, List.set_cons_succ]
    refine wpAnyH_take (i := 10) (v := ?t8v) (by simp only [List.getElem?_toArray, List.getElem?_cons_succ, List.getElem?_cons_zero] <;> rfl) (by kernel_rfl) (by kernel_rfl) (by kernel_rfl) (by exact fun _ _ _ h => h) (Or.inl ⟨by rfl, ?t8y⟩) hHeld ?t8r
    case t8y => intro w hSw; (try dsimp only at hSw); go_simp <;> rfl
    simp only [Act.put, List.setIfInBounds_toArray, List.set_cons_zero, List.set_cons_succ]
    refine wpAnyH_take (i := 11) (v := ?t9v) (by simp only [List.getElem?_toArray, List.getElem?_cons_succ, List.getElem?_cons_zero] <;> rfl) (by kernel_rfl) (by kernel_rfl) (by kernel_rfl) (by exact fun _ _ _ h => h) (Or.inl ⟨by rfl, ?t9y⟩) hHeld ?t9r
    case t9y => intro w hSw; (try dsimp only at hSw); go_simp <;> rfl
    simp only [Act.put, List.setIfInBounds_toArray, List.set_cons_zero, List.set_cons_succ]
    refine wpAnyH_take (i := 12) (v := ?t10v) (by simp only [List.getElem?_toArray, List.getElem?_cons_succ, List.getElem?_cons_zero] <;> rfl) (by kernel_rfl) (by kernel_rfl) (by kernel_rfl) (by exact fun _ _ _ h => h) (Or.inl ⟨by rfl, ?t10y⟩) hHeld ?t10r
    case t10y => intro w hSw; (try dsimp only at hSw); go_simp <;> rfl
    simp only [Act.put, List.setIfInBounds_toArray, List.set_cons_zero, List.set_cons_succ]
    refine wpAnyH_take (i := 13) (v := ?t11v) (by simp only [List.getElem?_toArray, List.getElem?_cons_succ, List.getElem?_cons_zero] <;> rfl) (by kernel_rfl) (by kernel_rfl) (by kernel_rfl) (by exact fun _ _ _ h => h) (Or.inl ⟨by rfl, ?t11y⟩) hHeld ?t11r
    case t11y => intro w hSw; (try dsimp only at hSw); go_simp <;> rfl
    simp only [Act.put, List.setIfInBounds_toArray, List.set_cons_zero, List.set_cons_succ]
    refine wpAnyH_take (i := 14) (v := ?t12v) (by simp only [List.getElem?_toArray, List.getElem?_cons_succ, List.getElem?_cons_zero] <;> rfl) (by kernel_rfl) (by kernel_rfl) (by kernel_rfl) (by exact fun _ _ _ h => h) (Or.inl ⟨by rfl, ?t12y⟩) hHeld ?t12r
    case t12y => intro w hSw; (try dsimp only at hSw); go_simp <;> rfl
    simp only [Act.put, List.setIfInBounds_toArray, List.set_cons_zero, List.set_cons_succ]
    refine wpAnyH_take (i := 15) (v := ?t13v) (by simp only [List.getElem?_toArray, List.getElem?_cons_succ, List.getElem?_cons_zero] <;> rfl) (by kernel_rfl) (by kernel_rfl) (by kernel_rfl) (by exact fun _ _ _ h => h) (Or.inl ⟨by rfl, ?t13y⟩) hHeld ?t13r
    case t13y => intro w hSw; (try dsimp only at hSw); go_simp <;> rfl
    simp only [Act.put, List.setIfInBounds_toArray, List.set_cons_zero, List.set_cons_succ]
    refine wpAnyH_take (i := 16) (v := ?t14v) (by simp only [List.getElem?_toArray, List.getElem?_cons_succ, List.getElem?_cons_zero] <;> rfl) (by kernel_rfl) (by kernel_rfl) (by kernel_rfl) (by exact fun _ _ _ h => h) (Or.inl ⟨by rfl, ?t14y⟩) hHeld ?t14r
    case t14y => intro w hSw; (try dsimp only at hSw); go_simp <;> rfl
    simp only [Act.put, List.setIfInBounds_toArray, List.set_cons_zero, List.set_cons_succ]
    refine wpAnyH_take (i := 18) (v := ?t15v) (by simp only [List.getElem?_toArray, List.getElem?_cons_succ, List.getElem?_cons_zero] <;> rfl) (by kernel_rfl) (by kernel_rfl) (by kernel_rfl) (by exact fun _ _ _ h => h) (Or.inl ⟨by rfl, ?t15y⟩) hHeld ?t15r
    case t15y => intro w hSw; (try dsimp only at hSw); go_simp <;> rfl
    simp only [Act.put, List.setIfInBounds_toArray, List.set_cons_zero, List.set_cons_succ]
    refine wpAnyH_take (i := 19) (v := ?t16v) (by simp only [List.getElem?_toArray, List.getElem?_cons_succ, List.getElem?_cons_zero] <;> rfl) (by kernel_rfl) (by kernel_rfl) (by kernel_rfl) (by exact fun _ _ _ h => h) (Or.inl ⟨by rfl, ?t16y⟩) hHeld ?t16r
    case t16y => intro w hSw; (try dsimp only at hSw); go_simp <;> rfl
    simp only [Act.put, List.setIfInBounds_toArray, List.set_cons_zero, List.set_cons_succ]
    refine wpAnyH_take (i := 20) (v := ?t17v) (by simp only [List.getElem?_toArray, List.getElem?_cons_succ, List.getElem?_cons_zero] <;> rfl) (by kernel_rfl) (by kernel_rfl) (by kernel_rfl) (by exact fun _ _ _ h => h) (Or.inl ⟨by rfl, ?t17y⟩) hHeld ?t17r
    case t17y => intro w hSw; (try dsimp only at hSw); go_simp <;> rfl
    simp only [Act.put, List.setIfInBounds_toArray, List.set_cons_zero, List.set_cons_succ]
    refine wpAnyH_take (i := 21) (v := ?t18v) (by simp only [List.getElem?_toArray, List.getElem?_cons_succ, List.getElem?_cons_zero] <;> rfl) (by kernel_rfl) (by kernel_rfl) (by kernel_rfl) (by exact fun _ _ _ h => h) (Or.inl ⟨by rfl, ?t18y⟩) hHeld ?t18r
    case t18y => intro w hSw; (try dsimp only at hSw); go_simp <;> rfl
    simp only [Act.put, List.setIfInBounds_toArray, List.set_cons_zero, List.set_cons_succ]
    refine wpAnyH_take (i := 22) (v := ?t19v) (by simp only [List.getElem?_toArray, List.getElem?_cons_succ, List.getElem?_cons_zero] <;> rfl) (by kernel_rfl) (by kernel_rfl) (by kernel_rfl) (by exact fun _ _ _ h => h) (Or.inl ⟨by rfl, ?t19y⟩) hHeld ?t19r
    case t19y => intro w hSw; (try dsimp only at hSw); go_simp <;> rfl
    simp only [Act.put, List.setIfInBounds_toArray, List.set_cons_zero, List.set_cons_succ]
    refine wpAnyH_ready (rs := [17]) (by kernel_rfl) (by simp) ?_
    refine AllReadyH.cons (by simp only [List.getElem?_toArray, List.getElem?_cons_succ, List.getElem?_cons_zero] <;> rfl) (fun K hK => ?_) AllReadyH.nil
    go_simp
    refine (plen_any pA).mono ?_
    rintro e w' ⟨rfl, rfl⟩
    go_wp2_with fail
    refine hK.out _ _ ⟨trivial, q0⟩ (fun hHeld => ?_)
    clear hK K
    refine wpAnyH_take (i := 23) (v := ?t20v) (by simp only [List.getElem?_toArray, List.getElem?_cons_succ, List.getElem?_cons_zero] <;> rfl) (by kernel_rfl) (by kernel_rfl) (by kernel_rfl) (by exact fun _ _ _ h => h) (Or.inl ⟨by rfl, ?t20y⟩) hHeld ?t20r
    case t20y => intro w hSw; (try dsimp only at hSw); go_simp <;> rfl
    simp only [Act.put, List.setIfInBounds_toArray, List.set_cons_zero, List.set_cons_succ]
    refine wpAnyH_take (i := 24) (v := ?t21v) (by simp only [List.getElem?_toArray, List.getElem?_cons_succ, List.getElem?_cons_zero] <;> rfl) (by kernel_rfl) (by kernel_rfl) (by kernel_rfl) (by exact fun _ _ _ h => h) (Or.inl ⟨by rfl, ?t21y⟩) hHeld ?t21r
    case t21y => intro w hSw; (try dsimp only at hSw); go_simp <;> rfl
    simp only [Act.put, List.setIfInBounds_toArray, List.set_cons_zero, List.set_cons_succ]
    refine wpAnyH_done (by kernel_rfl) ?_ _
    by_cases h0 : P2 = 0
    case neg =>
      have e0 : (P2 != 0) = true := by simpa using h0
      go_wp2
      go_ret
      exact ⟨rfl, KA⟩
    obtain ⟨hC, hP1⟩ := HZ.out h0
    have hco := HCO.out hC
    subst h0
    have hpe : pEnd P1 0 = P1 := if_pos rfl
    rw [hpe]
    have yn := new_any wA P1 (by unfold maxLen; omega)
    have yt := fun W b (h : Cur W b P1 0 0) => V.take h (by omega)
    rw [hP1] at yt
    rw [hco] at yt
    rw [← hP1] at yt
    have yx := fun W b (h : Cur W b P1 (P1.size : Int) 0) => end_any h
    have hce : cEnd P1 (P1.size : Int) 0 = 0 := if_neg (by omega)
    rw [hce] at yx
    clear hce hpe hC hP1 hco HZ HCO pA xA
    go_wp2_with fail
    refine yn.mono ?_
    rintro e wB ⟨rfl, cB, kB⟩
    have KB := KA.trans kB
    have zA := KA.size
    generalize wA.heap.size = cb at *
    have yt := yt _ _ cB
    have hcl := cB.lt
    clear yn kB KA
    go_wp2_with fail
    refine yt.mono ?_
    rintro e wC ⟨vo, vc, rfl, cC, vC, vn, kC⟩
    have KC : Keep0 w wC := KB.step kC (fun i hi hh => by omega)
    have yx := yx _ _ cC
    clear yt kC KB cB
    go_wp2_with fail
    refine yx.mono ?_
    rintro e wE ⟨rfl, cE, kE⟩
    have KE : Keep0 w wE := KC.step kE (fun i hi hh => by omega)
    have vE := vC.keep kE (fun g o m e hh => by have := vn g o m e; omega)
    have ysm := ysm _ vo vc vE (HAw.out.keep0 KE)
    clear yx kE KC cC vC cE
    go_wp2_with fail
    refine ysm.mono ?_
    rintro e wF ⟨rfl, hwF⟩
    have KF := KE.trans (keepN hwF)
    clear ysm hwF KE
    go_wp2
    go_ret
    exact ⟨rfl, KF⟩
end Go.Proofs.Ytmcinehbhgaiaaa
