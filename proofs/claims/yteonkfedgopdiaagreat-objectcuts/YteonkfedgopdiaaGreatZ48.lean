/-
  What this seat's claims lean on of the texts Decodes16, Cuts16.
  Conditions: as each theorem states.
-/
import Derived.WalkKit
import Derived.ProofKit
import Derived.Below
import Derived.Deep.Draws
import Derived.Deep.RegionHeld
import Derived.Test.YteonkfedgopdiaaGreatChecked
import Derived.OpenShut
import Derived.ShutString
import Derived.WalkSpells
import Derived.WalkLawsBesides
import Derived.Deep.QuietTactic
import Derived.BigQuiet
import Derived.Laws.Bits64b
import Derived.PlainAid
import Derived.Lib.AppendStr
import Derived.Deep.AppendLies
import Derived.Laws.IdiomStrings
import Derived.Laws.BytesArg
import Derived.Deep.RegionWith
import Derived.Laws.AppendOwn
import Derived.Deep.DeepAppendWide
import Derived.Deep.Upon
import Derived.Maps.AppendAt
import Derived.Laws.Rows
import Derived.Deep.Slices
import Derived.Deep.CutRange
import Derived.Deep.RegionLaw
import Derived.Test.YteonkfedgopdiaaGreatZ26
import Derived.Test.YteonkfedgopdiaaGreatZ1
namespace Go.Proofs.YteonkfedgopdiaaGreat
open Go.RowKit
theorem rSeq_bad16 {α β : Type} {d : α × β} {A : Rdr α} {B : α → Rdr β} {s : ByteArray} {a : Int} (h : (rSeq d A B s a).2.2 ≠ 0) : (rSeq d A B s a).1 = d := by
  by_cases h1 : (A s a).2.2 = 0
  · by_cases h2 : (B (A s a).1 s (A s a).2.1).2.2 = 0
    · rw [rSeq_yes h1 h2] at h; exact absurd h2 h
    · rw [rSeq_mid h1 h2]
  · rw [rSeq_no h1]
theorem ob_zero {s : ByteArray} {a : Int} (h : (rOb s a).2.2 ≠ 0) : (rOb s a).1 = zOb := by
  have e := rSeq_bad16 (d := ((⟨#[]⟩ : ByteArray), ((0 : Nat), ([] : List Sb)))) (A := rKey) (B := fun _ => rObT) (s := s) (a := a) h
  show (fun q : ByteArray × (Nat × List Sb) => (⟨q.1, q.2.2⟩ : Ob)) (rSeq (⟨#[]⟩, (0, [])) rKey (fun _ => rObT) s a).1 = _
  rw [e]
  rfl
theorem take_ok16 (s : ByteArray) {a : Int} (h0 : 0 ≤ a) (h1 : a ≤ s.size) : Ok16 (rOb s a).1 := by
  by_cases he : (rOb s a).2.2 = 0
  · exact (ob_codec.read h0 h1 he).1.ok
  · rw [ob_zero he]
    exact zOb_ok
theorem decO_ok (s : ByteArray) : Ok16 (decO s).1 := by
  by_cases h : (decO s).2 = 0
  · exact (ob_codec.dec_zero (z := zOb) h).1.ok
  · have e : (decO s).1 = zOb := dec_no h
    rw [e]
    exact zOb_ok
set_option maxRecDepth 100000 in
set_option maxHeartbeats 8000000 in
theorem objectDecodes_law (V : ObCode) (w : World) (s : ByteArray) (hs : s.size ≤ maxLen) :
    Calls Tryz.prog 4 #[.string s] w fun e w' => e = .returned (.bool true) ∧ Keep0 w w' := by
  by_cases hl : (s.size : Int) ≤ 3000
  case neg =>
    have i0 : (s.size : Int) ≤ 9223372036854775807 := by unfold maxLen at hs; omega
    have i1 : (3000 : Int) < s.size := by omega
    go_enter Tryz.func4, Tryz.ntmps4
    go_wp2_with fail
    refine (awake16 V w).mono ?_
    rintro e w1 ⟨rfl, K1⟩
    go_wp2
    go_ret
    exact ⟨rfl, K1⟩
  have i0 : (s.size : Int) ≤ 9223372036854775807 := by omega
  have i1 : ¬ (3000 : Int) < s.size := by omega
  have HS : Hid (s.size ≤ 3000) := by show _ ≤ _; omega
  have ok := decO_ok s
  have okT : Ok16 (rOb s 0).1 := take_ok16 s (by omega) (by omega)
  have hz : (decO s).2 = 0 → okOb (decO s).1 ∧ eOb (decO s).1 = s := ob_codec.dec_zero (z := zOb)
  have yn := fun W => new_any W s hs
  obtain ⟨⟨D, E⟩, hDE⟩ : ∃ D, decO s = D := ⟨_, rfl⟩
  obtain ⟨⟨Q, A, X⟩, hQ⟩ : ∃ D, rOb s 0 = D := ⟨_, rfl⟩
  rw [hDE] at ok hz
  rw [hQ] at okT
  have ok : Ok16 D := ok
  have okT : Ok16 Q := okT
  have hz : E = 0 → okOb D ∧ eOb D = s := hz
  have yd : ∀ W, Calls Tryz.prog 16 #[.string s] W fun e w' => ∃ ao cap, e = .returned (.tuple #[.agg #[.string D.key, .slice ao D.l.length cap], .int .i64 E]) ∧ SibsAt w' ao D.l ∧ (D.l.length ≤ cap ∧ cap ≤ maxLen) ∧ Keep0 W w' := by
    intro W
    have := V.decode W s (by have := HS.out; omega)
    rw [hDE] at this
    refine this.mono ?_
    rintro e w' ⟨ao, cap, L, h1, h2, h3, h3', h4⟩
    have h2 : L.map Pl.x = D.l := h2
    exact ⟨ao, cap, h1, by rw [← h2]; exact h3.at_.sibs, by rw [← h2, List.length_map]; exact h3', h4⟩
  have yr : ∀ W, Calls Tryz.prog 17 #[.string s] W fun e w' => ∃ ao cap, e = .returned (.tuple #[.agg #[.string D.key, .slice ao D.l.length cap], .int .i64 E]) ∧ SibsAt w' ao D.l ∧ Keep0 W w' := by
    intro W
    have := rdecode16 W s hs
    rw [hDE] at this
    refine this.mono ?_
    rintro e w' ⟨ao, cap, L, h1, h2, h3, _, h4⟩
    have h2 : L.map Pl.x = D.l := h2
    exact ⟨ao, cap, h1, by rw [← h2]; exact h3.at_.sibs, h4⟩
  have yv : ∀ W b, Cur W b s 0 0 → Calls Tryz.prog 19 #[ptr b] W fun e w' => ∃ ao cap L, e = .returned (.agg #[.string Q.key, .slice ao Q.l.length cap]) ∧ L.map Pl.x = Q.l ∧ Cur w' b s A X ∧ NewL W.heap.size w' ao L ∧ Keep1 b W w' := by
    intro W b h
    have := V.take h (by have := HS.out; omega)
    rw [rX_yes, hQ] at this
    exact this.mono (fun _ _ h => by obtain ⟨ao, cap, L, h1, h2, h3, h4, _, h5⟩ := h; exact ⟨ao, cap, L, h1, h2, h3, h4, h5⟩)
  have yt : ∀ W b, Cur W b s 0 0 → Calls Tryz.prog 20 #[ptr b] W fun e w' => ∃ ao cap L, e = .returned (.agg #[.string Q.key, .slice ao Q.l.length cap]) ∧ L.map Pl.x = Q.l ∧ Cur w' b s A X ∧ NewL W.heap.size w' ao L ∧ Keep1 b W w' := by
    intro W b h
    have := rtake16 h
    rw [rX_yes, hQ] at this
    exact this.mono (fun _ _ h => by obtain ⟨ao, cap, L, h1, h2, h3, h4, _, h5⟩ := h; exact ⟨ao, cap, L, h1, h2, h3, h4, h5⟩)
  have ys := fun W ao cap bo cb (h : SibsAt W ao D.l) (h' : SibsAt W bo D.l) => rsame16 W ao cap D bo cb D ok.fit ok.fit h h'
  rw [oSame_iff.2 rfl] at ys
  have ym := fun W ao cap bo cb (h : SibsAt W ao Q.l) (h' : SibsAt W bo Q.l) => rsame16 W ao cap Q bo cb Q okT.fit okT.fit h h'
  rw [oSame_iff.2 rfl] at ym
  have ye := fun W ao cap (hq : D.l.length ≤ cap ∧ cap ≤ maxLen) (h : SibsAt W ao D.l) => V.encode W ao cap D ok hq h
  have yc := fun W ao cap (h : SibsAt W ao D.l) => rcheck16 W ao cap D ok.fit h
  clear hDE hQ okT
  have hcase : E ≠ 0 ∨ (E = 0 ∧ encO D = (s, 0) ∧ oCheck D = 0) := by
    by_cases h0 : E = 0
    · obtain ⟨h1, h2⟩ := hz h0
      refine .inr ⟨h0, ?_, h1.1⟩
      unfold encO
      rw [if_pos h1.1, h2, if_pos (by omega)]
    · exact .inl h0
  clear hz ok
  go_enter Tryz.func4, Tryz.ntmps4
  go_wp2_with fail
  refine (awake16 V w).mono ?_
  rintro e w1 ⟨rfl, K1⟩
  go_wp2_with fail
  refine (yd w1).mono ?_
  rintro e w2 ⟨ao, cap, rfl, x1, hcp, k2⟩
  have HCP : Hid (D.l.length ≤ cap ∧ cap ≤ maxLen) := hcp
  clear hcp
  have K2 := K1.trans k2
  have kB : Keep0 w2 (w2.alloc (.cells #[.string D.key, .slice ao D.l.length cap] 24)) := (Keep.refl _ _).alloc _
  have hX := DAt.new w2 24 (.string D.key) (.slice ao D.l.length cap)
  have x1 := x1.keep0 kB
  have K3 := K2.trans kB
  clear K1 k2 yd K2 kB
  go_wp2_with fail
  generalize (w2.alloc (.cells #[.string D.key, .slice ao D.l.length cap] 24)) = w3 at *
  obtain ⟨g1, hg1⟩ : ∃ g1, w2.heap.size = g1 := ⟨_, rfl⟩
  rw [hg1] at hX ⊢
  clear hg1
  refine (yr w3).mono ?_
  rintro e w4 ⟨bo, cb, rfl, y1, k4⟩
  have K4 := K3.trans k4
  have kC : Keep0 w4 (w4.alloc (.cells #[.string D.key, .slice bo D.l.length cb] 24)) := (Keep.refl _ _).alloc _
  have hZ := DAt.new w4 24 (.string D.key) (.slice bo D.l.length cb)
  have hX := (hX.keep0 k4).keep0 kC
  have x1 := (x1.keep0 k4).keep0 kC
  have y1 := y1.keep0 kC
  have K5 := K4.trans kC
  clear K3 k4 yr K4 kC
  obtain ⟨a0, a1, af0, af1⟩ := hX.cells
  obtain ⟨b0, b1, bf0, bf1⟩ := hZ.cells
  go_wp2_with fail
  generalize (w4.alloc (.cells #[.string D.key, .slice bo D.l.length cb] 24)) = w5 at *
  generalize w4.heap.size = g2 at *
  refine (ys w5 ao cap bo cb x1 y1).mono ?_
  rintro e w6 ⟨rfl, k6⟩
  have K6 := K5.trans k6
  have hX6 := hX.keep0 k6
  have x6 := x1.keep0 k6
  clear K5 k6 y1 b0 b1 bf0 bf1 ys hX hZ x1 a0 a1 af0 af1
  go_wp2_with fail
  refine (yn w6).mono ?_
  rintro e w7 ⟨rfl, c7, k7⟩
  have kX : Keep0 w7 (w7.alloc (.cells #[.string s, .int .i64 0, .int .i64 0] 55)) := (Keep.refl _ _).alloc _
  have xN := Cur.new w7 s 55 hs
  have c8 := c7.keep0 kX
  have K68 := k7.trans kX
  have hcb := c7.lt
  clear k7 kX c7 yn
  go_wp2_with fail
  generalize (w7.alloc (.cells #[.string s, .int .i64 0, .int .i64 0] 55)) = w8 at *
  generalize w7.heap.size = xb at *
  obtain ⟨gc, hgc⟩ : ∃ gc, w6.heap.size = gc := ⟨_, rfl⟩
  rw [hgc] at hcb c8 ⊢
  have HXs : Hid (SibsAt w6 ao D.l) := x6
  have HKK : Hid (Keep0 w w6) := K6
  have HK68 : Hid (Keep0 w6 w8) := K68
  have HX8 : Hid (DAt w6 g1 (.string D.key) (.slice ao D.l.length cap)) := hX6
  have HGC : Hid (w6.heap.size = gc) := hgc
  clear K6 hX6 x6 K68 hgc
  have KD : Keep0 w8 w8.drew := (Keep.refl _ w8).drew
  have cD := c8.keep0 KD
  have xD := xN.keep0 KD
  clear c8 xN
  refine wp_region_held_drew (S := fun _ => True) (by kernel_rfl) trivial (fun hHeld => ?_)
  have kd : Keep (fun g => g = gc ∨ g = xb) w8 w8.drew := KD.any
  generalize w8.drew = wD at *
  refine wpAnyH_take (i := 0) (v := ?t0v) (by simp only [List.getElem?_toArray, List.getElem?_cons_zero] <;> rfl) (by kernel_rfl) (by kernel_rfl) (by kernel_rfl) (by exact fun _ _ _ h => h) (Or.inl ⟨by rfl, ?t0y⟩) hHeld ?t0r
  case t0y => intro w hSw; (try dsimp only at hSw); go_simp <;> rfl
  simp only [Act.put, List.setIfInBounds_toArray, List.set_cons_zero, List.set_cons_succ]
  refine wpAnyH_take (i := 2) (v := ?t1v) (by simp only [List.getElem?_toArray, List.getElem?_cons_succ, List.getElem?_cons_zero] <;> rfl) (by kernel_rfl) (by kernel_rfl) (by kernel_rfl) (by exact fun _ _ _ h => h) (Or.inl ⟨by rfl, ?t1y⟩) hHeld ?t1r
  case t1y => intro w hSw; (try dsimp only at hSw); go_simp <;> rfl
  simp only [Act.put, List.setIfInBounds_toArray, List.set_cons_zero, List.set_cons_succ]
  refine wpAnyH_ready (rs := [1]) (by kernel_rfl) (by simp) ?_
  refine AllReadyH.cons (by simp only [List.getElem?_toArray, List.getElem?_cons_succ, List.getElem?_cons_zero] <;> rfl) (fun K hK => ?_) AllReadyH.nil
  go_simp
  refine (yv _ _ cD).mono ?_
  rintro e w61 ⟨o1, n1, L1, rfl, hL1, c61, v61, k61⟩
  have x61 := xD.keep k61 (by omega)
  have hlx := xD.lt
  have k61b : Keep (fun g => g = gc ∨ g = xb) w8 w61 := kd.trans (k61.mono (fun g _ e => Or.inl e))
  have z61 := k61.size
  clear yv cD xD k61 kd
  go_wp2_with fail
  refine hK.out _ _ trivial (fun hHeld => ?_)
  clear hK K
  refine wpAnyH_ready (rs := [3]) (by kernel_rfl) (by simp) ?_
  refine AllReadyH.cons (by simp only [List.getElem?_toArray, List.getElem?_cons_succ, List.getElem?_cons_zero] <;> rfl) (fun K hK => ?_) AllReadyH.nil
  go_simp
  refine (yt _ _ x61).mono ?_
  rintro e w7a ⟨o2, n2, L2, rfl, hL2, x7, r7, k7⟩
  have c7 := c61.keep k7 (by omega)
  have v7 := v61.keep k7 (fun g hg e => by omega)
  have vs : SibsAt w7a o1 Q.l := by rw [← hL1]; exact v7.at_.sibs
  have rs : SibsAt w7a o2 Q.l := by rw [← hL2]; exact r7.at_.sibs
  have k7b : Keep (fun g => g = gc ∨ g = xb) w8 w7a := k61b.trans (k7.mono (fun g _ e => Or.inr e))
  have g1x := x7.cells.2.1
  have g2x := x7.cells.2.2.1
  clear yt c61 x61 v61 k61b k7 v7 r7 hL1 hL2
  go_wp2_with fail
  refine hK.out _ _ trivial (fun hHeld => ?_)
  clear hK K
  clear hHeld
  refine wpAnyH_strong (S' := fun w' => True ∧ w'.cell? ⟨xb, 1, none⟩ = some (.int .i64 A) ∧ w'.cell? ⟨xb, 2, none⟩ = some (.int .i64 X)) (fun _ h => h.1) ⟨trivial, g1x, g2x⟩ (fun hHeld => ?_)
  refine wpAnyH_ready (rs := [4]) (by kernel_rfl) (by simp) ?_
  refine AllReadyH.cons (by simp only [List.getElem?_toArray, List.getElem?_cons_succ, List.getElem?_cons_zero] <;> rfl) (fun K hK => ?_) AllReadyH.nil
  go_simp
  refine (ym _ _ _ _ _ vs rs).mono ?_
  rintro e w9 ⟨rfl, k8⟩
  have c8 := c7.keep0 k8
  have k89 : Keep (fun g => g = gc ∨ g = xb) w8 w9 := k7b.step0 k8
  have g1x := k8.cell g1x (fun f => f)
  have g2x := k8.cell g2x (fun f => f)
  clear k8 c7 x7 vs rs ym k7b
  go_wp2_with fail
  refine hK.out _ _ ⟨trivial, g1x, g2x⟩ (fun hHeld => ?_)
  clear hK K
  refine wpAnyH_take (i := 5) (v := ?t2v) (by simp only [List.getElem?_toArray, List.getElem?_cons_succ, List.getElem?_cons_zero] <;> rfl) (by kernel_rfl) (by kernel_rfl) (by kernel_rfl) (by exact fun _ _ _ h => h) (Or.inl ⟨by rfl, ?t2y⟩) hHeld ?t2r
  case t2y => intro w hSw; (try dsimp only at hSw); go_simp <;> rfl
  simp only [Act.put, List.setIfInBounds_toArray, List.set_cons_zero, List.set_cons_succ]
  refine wpAnyH_take (i := 6) (v := ?t3v) (by simp only [List.getElem?_toArray, List.getElem?_cons_succ, List.getElem?_cons_zero] <;> rfl) (by kernel_rfl) (by kernel_rfl) (by kernel_rfl) (by exact fun _ _ _ h => h) (Or.inl ⟨by rfl, ?t3y⟩) hHeld ?t3r
  case t3y => intro w hSw; (try dsimp only at hSw); go_simp <;> rfl
  simp only [Act.put, List.setIfInBounds_toArray, List.set_cons_zero, List.set_cons_succ]
  refine wpAnyH_take (i := 7) (v := ?t4v) (by simp only [List.getElem?_toArray, List.getElem?_cons_succ, List.getElem?_cons_zero] <;> rfl) (by kernel_rfl) (by kernel_rfl) (by kernel_rfl) (by exact fun _ _ _ h => h) (Or.inl ⟨by rfl, ?t4y⟩) hHeld ?t4r
  case t4y => intro w hSw; (try dsimp only at hSw); go_simp <;> rfl
  simp only [Act.put, List.setIfInBounds_toArray, List.set_cons_zero, List.set_cons_succ]
  refine wpAnyH_take (i := 9) (v := ?t5v) (by simp only [List.getElem?_toArray, List.getElem?_cons_succ, List.getElem?_cons_zero] <;> rfl) (by kernel_rfl) (by kernel_rfl) (by kernel_rfl) (by exact fun _ _ _ h => h) (Or.inl ⟨by rfl, ?t5y⟩) hHeld ?t5r
  case t5y => intro w hSw; (try dsimp only at hSw); go_simp <;> rfl
  simp only [Act.put, List.setIfInBounds_toArray, List.set_cons_zero, List.set_cons_succ]
  refine wpAnyH_take (i := 10) (v := ?t6v) (by simp only [List.getElem?_toArray, List.getElem?_cons_succ, List.getElem?_cons_zero] <;> rfl) (by kernel_rfl) (by kernel_rfl) (by kernel_rfl) (by exact fun _ _ _ h => h) (Or.inl ⟨by rfl, ?t6y⟩) hHeld ?t6r
  case t6y => intro w hSw; (try dsimp only at hSw); go_simp <;> rfl
  simp only [Act.put, List.setIfInBounds_toArray, List.set_cons_zero, List.set_cons_succ]
  refine wpAnyH_take (i := 11) (v := ?t7v) (by simp only [List.getElem?_toArray, List.getElem?_cons_succ, List.getElem?_cons_zero] <;> rfl) (by kernel_rfl) (by kernel_rfl) (by kernel_rfl) (by exact fun _ _ _ h => h) (Or.inl ⟨by rfl, ?t7y⟩) hHeld ?t7r
  case t7y => intro w hSw; (try dsimp only at hSw); go_simp <;> rfl
  simp only [Act.put, List.setIfInBounds_toArray, List.set_cons_zero, List.set_cons_succ]
  refine wpAnyH_take (i := 12) (v := ?t8v) (by simp only [List.getElem?_toArray, List.getElem?_cons_succ, List.getElem?_cons_zero] <;> rfl) (by kernel_rfl) (by kernel_rfl) (by kernel_rfl) (by exact fun _ _ _ h => h) (Or.inl ⟨by rfl, ?t8y⟩) hHeld ?t8r
  case t8y => intro w hSw; (try dsimp only at hSw); go_simp <;> rfl
  simp only [Act.put, List.setIfInBounds_toArray, List.set_cons_zero, List.set_cons_succ]
  refine wpAnyH_ready (rs := [8]) (by kernel_rfl) (by simp) ?_
  refine AllReadyH.cons (by simp only [List.getElem?_toArray, List.getElem?_cons_succ, List.getElem?_cons_zero] <;> rfl) (fun K hK => ?_) AllReadyH.nil
  go_simp
  refine (err_any c8).mono ?_
  rintro e w' ⟨rfl, rfl⟩
  go_wp2_with fail
  refine hK.out _ _ ⟨trivial, g1x, g2x⟩ (fun hHeld => ?_)
  clear hK K
  refine wpAnyH_take (i := 13) (v := ?t9v) (by simp only [List.getElem?_toArray, List.getElem?_cons_succ, List.getElem?_cons_zero] <;> rfl) (by kernel_rfl) (by kernel_rfl) (by kernel_rfl) (by exact fun _ _ _ h => h) (Or.inl ⟨by rfl, ?t9y⟩) hHeld ?t9r
  case t9y => intro w hSw; (try dsimp only at hSw); go_simp <;> rfl
  simp only [Act.put, List.setIfInBounds_toArray, List.set_cons_zero, List.set_cons_succ]
  refine wpAnyH_take (i := 14) (v := ?t10v) (by simp only [List.getElem?_toArray, List.getElem?_cons_succ, List.getElem?_cons_zero] <;> rfl) (by kernel_rfl) (by kernel_rfl) (by kernel_rfl) (by exact fun _ _ _ h => h) (Or.inl ⟨by rfl, ?t10y⟩) hHeld ?t10r
  case t10y => intro w hSw; (try dsimp only at hSw); go_simp <;> rfl
  simp only [Act.put, List.setIfInBounds_toArray, List.set_cons_zero, List.set_cons_succ]
  refine wpAnyH_take (i := 15) (v := ?t11v) (by simp only [List.getElem?_toArray, List.getElem?_cons_succ, List.getElem?_cons_zero] <;> rfl) (by kernel_rfl) (by kernel_rfl) (by kernel_rfl) (by exact fun _ _ _ h => h) (Or.inl ⟨by rfl, ?t11y⟩) hHeld ?t11r
  case t11y => intro w hSw; (try dsimp only at hSw); go_simp <;> rfl
  simp only [Act.put, List.setIfInBounds_toArray, List.set_cons_zero, List.set_cons_succ]
  refine wpAnyH_take (i := 16) (v := ?t12v) (by simp only [List.getElem?_toArray, List.getElem?_cons_succ, List.getElem?_cons_zero] <;> rfl) (by kernel_rfl) (by kernel_rfl) (by kernel_rfl) (by exact fun _ _ _ h => h) (Or.inl ⟨by rfl, ?t12y⟩) hHeld ?t12r
  case t12y => intro w hSw; (try dsimp only at hSw); go_simp <;> rfl
  simp only [Act.put, List.setIfInBounds_toArray, List.set_cons_zero, List.set_cons_succ]
  refine wpAnyH_take (i := 18) (v := ?t13v) (by simp only [List.getElem?_toArray, List.getElem?_cons_succ, List.getElem?_cons_zero] <;> rfl) (by kernel_rfl) (by kernel_rfl) (by kernel_rfl) (by exact fun _ _ _ h => h) (Or.inl ⟨by rfl, ?t13y⟩) hHeld ?t13r
  case t13y => intro w hSw; (try dsimp only at hSw); go_simp <;> rfl
  simp only [Act.put, List.setIfInBounds_toArray, List.set_cons_zero, List.set_cons_succ]
  refine wpAnyH_take (i := 19) (v := ?t14v) (by simp only [List.getElem?_toArray, List.getElem?_cons_succ, List.getElem?_cons_zero] <;> rfl) (by kernel_rfl) (by kernel_rfl) (by kernel_rfl) (by exact fun _ _ _ h => h) (Or.inl ⟨by rfl, ?t14y⟩) hHeld ?t14r
  case t14y => intro w hSw; (try dsimp only at hSw); go_simp <;> rfl
  simp only [Act.put, List.setIfInBounds_toArray, List.set_cons_zero, List.set_cons_succ]
  refine wpAnyH_take (i := 20) (v := ?t15v) (by simp only [List.getElem?_toArray, List.getElem?_cons_succ, List.getElem?_cons_zero] <;> rfl) (by kernel_rfl) (by kernel_rfl) (by kernel_rfl) (by exact fun _ _ _ h => h) (Or.inl ⟨by rfl, ?t15y⟩) hHeld ?t15r
  case t15y => intro w hSw; (try dsimp only at hSw); go_simp <;> rfl
  simp only [Act.put, List.setIfInBounds_toArray, List.set_cons_zero, List.set_cons_succ]
  refine wpAnyH_take (i := 21) (v := ?t16v) (by simp only [List.getElem?_toArray, List.getElem?_cons_succ, List.getElem?_cons_zero] <;> rfl) (by kernel_rfl) (by kernel_rfl) (by kernel_rfl) (by exact fun _ _ _ h => h) (Or.inl ⟨by rfl, ?t16y⟩) hHeld ?t16r
  case t16y => intro w hSw; (try dsimp only at hSw); go_simp <;> rfl
  simp only [Act.put, List.setIfInBounds_toArray, List.set_cons_zero, List.set_cons_succ]
  refine wpAnyH_ready (rs := [17]) (by kernel_rfl) (by simp) ?_
  refine AllReadyH.cons (by simp only [List.getElem?_toArray, List.getElem?_cons_succ, List.getElem?_cons_zero] <;> rfl) (fun K hK => ?_) AllReadyH.nil
  go_simp
  refine (at_any c8).mono ?_
  rintro e w' ⟨rfl, rfl⟩
  go_wp2_with fail
  refine hK.out _ _ ⟨trivial, g1x, g2x⟩ (fun hHeld => ?_)
  clear hK K
  refine wpAnyH_take (i := 22) (v := ?t17v) (by simp only [List.getElem?_toArray, List.getElem?_cons_succ, List.getElem?_cons_zero] <;> rfl) (by kernel_rfl) (by kernel_rfl) (by kernel_rfl) (by exact fun _ _ _ h => h) (Or.inl ⟨by rfl, ?t17y⟩) hHeld ?t17r
  case t17y => intro w hSw; (try dsimp only at hSw); go_simp <;> rfl
  simp only [Act.put, List.setIfInBounds_toArray, List.set_cons_zero, List.set_cons_succ]
  refine wpAnyH_take (i := 23) (v := ?t18v) (by simp only [List.getElem?_toArray, List.getElem?_cons_succ, List.getElem?_cons_zero] <;> rfl) (by kernel_rfl) (by kernel_rfl) (by kernel_rfl) (by exact fun _ _ _ h => h) (Or.inl ⟨by rfl, ?t18y⟩) hHeld ?t18r
  case t18y => intro w hSw; (try dsimp only at hSw); go_simp <;> rfl
  simp only [Act.put, List.setIfInBounds_toArray, List.set_cons_zero, List.set_cons_succ]
  refine wpAnyH_done (by kernel_rfl) ?_ _
  clear hHeld c8 g1x g2x
  have K69 : Keep0 w6 w9 := HK68.out.step k89 (fun i hi hh => by have := HGC.out; rcases hh with hh | hh <;> omega)
  have hX9 := HX8.out.keep0 K69
  have K9 : Keep0 w w9 := HKK.out.trans K69
  obtain ⟨a0, a1, af0, af1⟩ := hX9.cells
  have x9 : SibsAt w9 ao D.l := HXs.out.keep0 K69
  clear hX9 k89 K69
  rcases hcase with h0 | ⟨h0, hen, hck⟩
  · have e0 : (E != 0) = true := by simpa using h0
    have e1 : ¬ E = 0 := h0
    clear h0 ye yc
    go_wp2
    go_ret
    exact ⟨rfl, K9⟩
  subst h0
  rw [hen] at ye
  rw [hck] at yc
  clear hen hck
  go_wp2_with fail
  refine (ye _ ao cap HCP.out x9).mono ?_
  rintro e w10 ⟨rfl, k10⟩
  have K10 := K9.trans k10
  have x10 := x9.keep0 k10
  replace a0 := k10.cell a0 (fun f => f)
  replace a1 := k10.cell a1 (fun f => f)
  clear K9 k10 x9 ye af0 af1
  go_wp2_with fail
  refine (yc _ ao cap x10).mono ?_
  rintro e w11 ⟨rfl, k11⟩
  have K11 := K10.trans k11
  clear K10 k11 x10 yc
  go_wp2
  go_ret
  exact ⟨by simp, K11⟩
end Go.Proofs.YteonkfedgopdiaaGreat
namespace Go.Proofs.YteonkfedgopdiaaGreat
open Go.RowKit
set_option maxRecDepth 100000 in
set_option maxHeartbeats 8000000 in
theorem objectCuts_law (V : ObCode) (w : World) (ao : Option Addr) (cap : Nat) (x : Ob) (fx : FitsO x) (_ : x.l.length ≤ cap ∧ cap ≤ maxLen) (hA : SibsAt w ao x.l) (t : ByteArray) (ht : t.size ≤ maxLen) :
    Calls Tryz.prog 6 #[.agg #[.string x.key, .slice ao x.l.length cap], .string t] w fun e w' => e = .returned (.bool true) ∧ Keep0 w w' := by
  have yg := fun W (h : SibsAt W ao x.l) => rgreat16 W ao cap x fx h
  have i0 : (t.size : Int) ≤ 9223372036854775807 := by unfold maxLen at ht; omega
  have kB : Keep0 w (w.alloc (.cells #[.string x.key, .slice ao x.l.length cap] 24)) := (Keep.refl _ w).alloc _
  have hX := DAt.new w 24 (.string x.key) (.slice ao x.l.length cap)
  have yw := awake16 V (w.alloc (.cells #[.string x.key, .slice ao x.l.length cap] 24))
  have hA := hA.keep0 kB
  cases ga : oGreat x with
  | true =>
    rw [ga] at yg
    go_enter Tryz.func6, Tryz.ntmps6
    go_wp2_with fail
    generalize (w.alloc (.cells #[.string x.key, .slice ao x.l.length cap] 24)) = W0 at *
    generalize w.heap.size = g at *
    refine yw.mono ?_
    rintro e w1 ⟨rfl, k1⟩
    have K1 := kB.trans k1
    obtain ⟨a0, a1, af0, af1⟩ := (hX.keep0 k1).cells
    have hA1 := hA.keep0 k1
    clear kB k1 hX yw hA
    go_wp2_with fail
    refine (yg w1 hA1).mono ?_
    rintro e w2 ⟨rfl, k2⟩
    have K2 := K1.trans k2
    replace a0 := k2.cell a0 (fun f => f)
    replace a1 := k2.cell a1 (fun f => f)
    have hA2 := hA1.keep0 k2
    clear K1 k2 yg hA1
    go_wp2
    go_ret
    exact ⟨rfl, K2⟩
  | false =>
    rw [ga] at yg
    by_cases h1 : t.size = 0
    · have i1 : (t.size : Int) = 0 := by omega
      go_enter Tryz.func6, Tryz.ntmps6
      go_wp2_with fail
      generalize (w.alloc (.cells #[.string x.key, .slice ao x.l.length cap] 24)) = W0 at *
      generalize w.heap.size = g at *
      refine yw.mono ?_
      rintro e w1 ⟨rfl, k1⟩
      have K1 := kB.trans k1
      obtain ⟨a0, a1, af0, af1⟩ := (hX.keep0 k1).cells
      have hA1 := hA.keep0 k1
      clear kB k1 hX yw hA
      go_wp2_with fail
      refine (yg w1 hA1).mono ?_
      rintro e w2 ⟨rfl, k2⟩
      have K2 := K1.trans k2
      replace a0 := k2.cell a0 (fun f => f)
      replace a1 := k2.cell a1 (fun f => f)
      have hA2 := hA1.keep0 k2
      clear K1 k2 yg hA1
      go_wp2
      go_ret
      exact ⟨rfl, K2⟩
    have i1 : ((t.size : Int) == 0) = false := beq_eq_false_iff_ne.2 (by omega)
    have i1' : ¬ (t.size : Int) = 0 := by omega
    by_cases h2 : 100 < t.size
    · have i2 : (100 : Int) < t.size := by omega
      go_enter Tryz.func6, Tryz.ntmps6
      go_wp2_with fail
      generalize (w.alloc (.cells #[.string x.key, .slice ao x.l.length cap] 24)) = W0 at *
      generalize w.heap.size = g at *
      refine yw.mono ?_
      rintro e w1 ⟨rfl, k1⟩
      have K1 := kB.trans k1
      obtain ⟨a0, a1, af0, af1⟩ := (hX.keep0 k1).cells
      have hA1 := hA.keep0 k1
      clear kB k1 hX yw hA
      go_wp2_with fail
      refine (yg w1 hA1).mono ?_
      rintro e w2 ⟨rfl, k2⟩
      have K2 := K1.trans k2
      replace a0 := k2.cell a0 (fun f => f)
      replace a1 := k2.cell a1 (fun f => f)
      have hA2 := hA1.keep0 k2
      clear K1 k2 yg hA1
      go_wp2
      go_ret
      exact ⟨rfl, K2⟩
    have i2 : ¬ (100 : Int) < t.size := by omega
    have yr := fun W (h : SibsAt W ao x.l) => rencode16 W ao cap x fx h
    have hez := encO_zero (o := x)
    have hsz := encO_size x
    obtain ⟨S, hS⟩ : ∃ S, (encO x).1 = S := ⟨_, rfl⟩
    obtain ⟨E, hE⟩ : ∃ E, (encO x).2 = E := ⟨_, rfl⟩
    rw [hS, hE] at yr
    rw [hS] at hsz hez
    rw [hE] at hez
    have j0 : (S.size : Int) ≤ 9223372036854775807 := by omega
    clear hS hE
    by_cases h0 : E = 0
    case neg =>
      have e0 : (E != 0) = true := by simpa using h0
      clear h0 hez
      go_enter Tryz.func6, Tryz.ntmps6
      go_wp2_with fail
      generalize (w.alloc (.cells #[.string x.key, .slice ao x.l.length cap] 24)) = W0 at *
      generalize w.heap.size = g at *
      refine yw.mono ?_
      rintro e w1 ⟨rfl, k1⟩
      have K1 := kB.trans k1
      obtain ⟨a0, a1, af0, af1⟩ := (hX.keep0 k1).cells
      have hA1 := hA.keep0 k1
      clear kB k1 hX yw hA
      go_wp2_with fail
      refine (yg w1 hA1).mono ?_
      rintro e w2 ⟨rfl, k2⟩
      have K2 := K1.trans k2
      replace a0 := k2.cell a0 (fun f => f)
      replace a1 := k2.cell a1 (fun f => f)
      have hA2 := hA1.keep0 k2
      clear K1 k2 yg hA1
      go_wp2_with fail
      refine (yr w2 hA2).mono ?_
      rintro e w3 ⟨rfl, k3⟩
      have K3 := K2.trans k3
      clear K2 k3 yr a0 a1 af0 af1 hA2
      go_wp2
      go_ret
      exact ⟨rfl, K3⟩
    obtain ⟨s1, s2, s3⟩ := hez h0
    subst h0
    by_cases h6 : 6000 < S.size
    · have j6 : (6000 : Int) < S.size := by omega
      clear s1 s2 s3 hez
      go_enter Tryz.func6, Tryz.ntmps6
      go_wp2_with fail
      generalize (w.alloc (.cells #[.string x.key, .slice ao x.l.length cap] 24)) = W0 at *
      generalize w.heap.size = g at *
      refine yw.mono ?_
      rintro e w1 ⟨rfl, k1⟩
      have K1 := kB.trans k1
      obtain ⟨a0, a1, af0, af1⟩ := (hX.keep0 k1).cells
      have hA1 := hA.keep0 k1
      clear kB k1 hX yw hA
      go_wp2_with fail
      refine (yg w1 hA1).mono ?_
      rintro e w2 ⟨rfl, k2⟩
      have K2 := K1.trans k2
      replace a0 := k2.cell a0 (fun f => f)
      replace a1 := k2.cell a1 (fun f => f)
      have hA2 := hA1.keep0 k2
      clear K1 k2 yg hA1
      go_wp2_with fail
      refine (yr w2 hA2).mono ?_
      rintro e w3 ⟨rfl, k3⟩
      have K3 := K2.trans k3
      clear K2 k3 yr a0 a1 af0 af1 hA2
      go_wp2
      go_ret
      exact ⟨rfl, K3⟩
    have hok : okOb x := ⟨s1, fun y hy => (fx.sib y hy).u⟩
    have HS : Hid (∀ i, i < (eOb x).size → (decO ((eOb x).extract 0 i)).2 = 2) := fun i hi => ob_codec.dec_short (z := zOb) hok hi
    have HM : Hid ((decO (eOb x ++ t)).2 = 8) := ob_codec.dec_more (z := zOb) hok (by omega)
    rw [← s3] at HS HM
    clear s1 s2 s3 hez hok
    have hF' : (S.size : Int) ≤ 9223372036854775807 := by omega
    have hF6 : ¬ (6000 : Int) < S.size := by omega
    have hcat : ¬ 9223372036854775807 < S.size + t.size := by omega
    go_enter Tryz.func6, Tryz.ntmps6
    go_wp2_with fail
    generalize (w.alloc (.cells #[.string x.key, .slice ao x.l.length cap] 24)) = W0 at *
    generalize w.heap.size = g at *
    refine yw.mono ?_
    rintro e w1 ⟨rfl, k1⟩
    have K1 := kB.trans k1
    obtain ⟨a0, a1, af0, af1⟩ := (hX.keep0 k1).cells
    have hA1 := hA.keep0 k1
    clear kB k1 hX yw hA
    go_wp2_with fail
    refine (yg w1 hA1).mono ?_
    rintro e w2 ⟨rfl, k2⟩
    have K2 := K1.trans k2
    replace a0 := k2.cell a0 (fun f => f)
    replace a1 := k2.cell a1 (fun f => f)
    have hA2 := hA1.keep0 k2
    clear K1 k2 yg hA1
    go_wp2_with fail
    refine (yr w2 hA2).mono ?_
    rintro e w3 ⟨rfl, k3⟩
    have K3 := K2.trans k3
    clear K2 k3 yr a0 a1 af0 af1 hA2
    go_wp2_with fail
    go_loopw [7] (fun i wr => ∃ (j : Nat), i = .int .i64 (j : Int) ∧ j ≤ S.size ∧ Keep0 w wr) (fun i _ => S.size - (intOf i).toNat)
    case atStart => exact ⟨0, rfl, by omega, K3⟩
    case round =>
      obtain ⟨j, rfl, hj, hK⟩ := hrel
      clear K3
      by_cases hlt : j < S.size
      · have j1 : (j : Int) < S.size := by omega
        have yd := V.decode wr (S.extract 0 j) (by rw [ByteArray.size_extract]; omega)
        have hd := HS.out j hlt
        obtain ⟨D, hD⟩ : ∃ D, decO (S.extract 0 j) = D := ⟨_, rfl⟩
        rw [hD] at yd hd
        obtain ⟨D1, D2⟩ := D
        have hd : D2 = 2 := hd
        subst hd
        clear hD
        go_wp2_with fail
        refine yd.mono ?_
        rintro e w4 ⟨bo, cb, L, rfl, -, -, -, k4⟩
        have K4 : ∀ o, Keep0 w (w4.alloc o) := fun o => (hK.trans k4).alloc o
        clear yd k4 hK
        go_wp2
        go_roundw
        case rel => exact ⟨j + 1, by go_num, by omega, K4 _⟩
        case measure => simp [intOf]; omega
      · have j1 : ¬ (j : Int) < S.size := by omega
        have yd := V.decode wr (S ++ t) (by rw [ByteArray.size_append]; omega)
        have hd := HM.out
        obtain ⟨D, hD⟩ : ∃ D, decO (S ++ t) = D := ⟨_, rfl⟩
        rw [hD] at yd hd
        obtain ⟨D1, D2⟩ := D
        have hd : D2 = 8 := hd
        subst hd
        clear hD
        go_wp2_with fail
        refine yd.mono ?_
        rintro e w4 ⟨bo, cb, L, rfl, -, -, -, k4⟩
        have K4 : ∀ o, Keep0 w (w4.alloc o) := fun o => (hK.trans k4).alloc o
        clear yd k4 hK
        go_wp2
        go_ret
        exact ⟨rfl, K4 _⟩
end Go.Proofs.YteonkfedgopdiaaGreat
