/-
  The walk of the law BlobTakes, out of the contracts of packages blob and cursor and of the document's own answers.
  Conditions: none beyond that a text takes at most the greatest length that a string may have.
-/
import Derived.Test.YtfbcifdliofmiaaLaw06
import Derived.Test.YtfbcifdliofmiaaOpen06
import Derived.Test.YtfbcifdliofmiaaHeld
namespace Go.Proofs.Ytfbcifdliofmiaa
open Go.RowKit

theorem takes6_great (s : ByteArray) (ao : Option Addr) (len cap : Nat) (w : World) (hl : ¬ ((s.size : Int) ≤ 200 ∧ (len : Int) ≤ 40)) : Calls Try.prog 3 #[.string s, .slice ao len cap] w fun e w' => e = .returned (.bool true) ∧ Keep0 w w' := by
  by_cases h2 : (s.size : Int) ≤ 200
  · have h4 : ¬ (len : Int) ≤ 40 := fun h => hl ⟨h2, h⟩
    clear hl
    go_enter Try.func3, Try.ntmps3
    go_wp2_with (go_at_call 6; refine (awake06 w).mono ?_; rintro e w1 ⟨rfl, k1⟩)
    go_ret
    exact ⟨rfl, k1⟩
  · clear hl
    go_enter Try.func3, Try.ntmps3
    go_wp2_with (go_at_call 6; refine (awake06 w).mono ?_; rintro e w1 ⟨rfl, k1⟩)
    go_ret
    exact ⟨rfl, k1⟩

set_option maxRecDepth 100000 in
set_option maxHeartbeats 8000000 in
theorem takes6_law (w : World) (s : ByteArray) (hs : s.size ≤ maxLen) (ao : Option Addr) (cap : Nat) (al : List BAct) (hc : BActsAt w ao al) :
    Calls Try.prog 3 #[.string s, .slice ao al.length cap] w fun e w' => e = .returned (.bool true) ∧ Keep0 w w' := by
  by_cases hl : (s.size : Int) ≤ 200 ∧ (al.length : Int) ≤ 40
  · obtain ⟨hl, hm⟩ := hl
    have HC : Hid (BActsAt w ao al) := hc
    clear hc
    go_enter Try.func3, Try.ntmps3
    go_wp2_with (first | (go_at_call 6; refine (awake06 w).mono ?_; rintro e w1 ⟨rfl, k1⟩) | (go_at_call 7; refine (new_any _ s hs).mono ?_; rintro e w2 ⟨rfl, h2, k2⟩))
    have hne : w1.heap.size < w2.heap.size := h2.lt
    have s1 := k1.size
    have hcS : Cur (w2.alloc (.cells #[.string s, .int .i64 0, .int .i64 0] 28)) w1.heap.size s 0 0 := h2.keep0 ((Keep.refl _ _).alloc _)
    have hxS : Cur (w2.alloc (.cells #[.string s, .int .i64 0, .int .i64 0] 28)) w2.heap.size s 0 0 := Cur.new _ s _ hs
    have kS : Keep0 w (w2.alloc (.cells #[.string s, .int .i64 0, .int .i64 0] 28)) := (k1.step0 k2).alloc _
    generalize w2.alloc (.cells #[.string s, .int .i64 0, .int .i64 0] 28) = WS at *
    generalize w1.heap.size = b1 at *
    generalize w2.heap.size = b2 at *
    clear k1 k2 h2
    go_loopw [7] (fun i wr => ∃ (j : Nat) (a x : Int), j ≤ al.length ∧ i = .int .i64 j ∧ Cur wr b1 s a x ∧ Cur wr b2 s a x ∧ Keep0 w wr) (fun i _ => al.length - (intOf i).toNat)
    case atStart => exact ⟨0, 0, 0, by omega, rfl, hcS, hxS, kS⟩
    case round =>
      obtain ⟨j, a, x, hj, rfl, hc, hx, hkp⟩ := hrel
      clear hcS hxS kS
      by_cases hlt : j < al.length
      · obtain ⟨hok, bb, off, rfl, hbb, g0, g1, g2, g3, g4⟩ := HC.out j hlt
        have g0 := hkp.cell g0 (fun f => f)
        have g1 := hkp.cell g1 (fun f => f)
        have g2 := hkp.cell g2 (fun f => f)
        have g3 := hkp.cell g3 (fun f => f)
        have g4 := hkp.cell g4 (fun f => f)
        have hX := hok.x.2
        clear hok
        generalize al[j].K = K at *
        generalize al[j].X = X at *
        generalize al[j].N = N at *
        generalize al[j].S = T at *
        generalize al[j].B = F at *
        have hlt' : (j : Int) < al.length := by omega
        have lc := hc.lt
        have lx := hx.lt
        have k0 : Keep0 wr (wr.alloc (.cells #[.int .i64 K, .int .i64 X, .int .i64 N, .string T, .bool F] 30)) := (Keep.refl _ wr).alloc _
        have f1 : (wr.alloc (.cells #[.int .i64 K, .int .i64 X, .int .i64 N, .string T, .bool F] 30)).cell? ⟨wr.heap.size, 1, none⟩ = some (.int .i64 X) := cell_alloc wr _ rfl
        have hc0 := hc.keep0 k0
        have hx0 := hx.keep0 k0
        have kw0 := hkp.step0 k0
        clear HC
        by_cases hK0 : K = 0
        · subst hK0
          go_wp2_with fail
          generalize wr.alloc (.cells #[.int .i64 0, .int .i64 X, .int .i64 N, .string T, .bool F] 30) = W0 at *
          have hB0 : wr.heap.size = wr.heap.size := rfl
          generalize hB : wr.heap.size = B0 at *
          clear hB hB0 g0 g1 g2 g3 g4 hc hx hkp k0
          have hcD : Cur W0.drew _ _ _ _ := hc0.keep0 (Keep.refl _ W0).drew
          have hxD : Cur W0.drew _ _ _ _ := hx0.keep0 (Keep.refl _ W0).drew
          have kD := kw0.drew
          have fD : W0.drew.cell? ⟨B0, 1, none⟩ = some (.int .i64 X) := f1
          refine wp_region_held_drew (S := fun w' => w'.cell? ⟨B0, 1, none⟩ = some (.int .i64 X)) (by kernel_rfl) fD (fun hHeld => ?_)
          refine wpAnyH_take (i := 0) (v := ?p00v) (by simp only [List.getElem?_toArray, List.getElem?_cons_zero] <;> rfl) (by kernel_rfl) (by kernel_rfl) (by kernel_rfl) (by exact fun _ _ _ h => h) (Or.inl ⟨by rfl, ?p00y⟩) hHeld ?p00r
          case p00y => intro w hSw; (try dsimp only at hSw); go_simp <;> rfl
          simp only [Act.put, List.setIfInBounds_toArray, List.set_cons_zero, List.set_cons_succ]
          refine wpAnyH_take (i := 1) (v := ?p01v) (by simp only [List.getElem?_toArray, List.getElem?_cons_succ, List.getElem?_cons_zero] <;> rfl) (by kernel_rfl) (by kernel_rfl) (by kernel_rfl) (by exact fun _ _ _ h => h) (Or.inl ⟨by rfl, ?p01y⟩) hHeld ?p01r
          case p01y => intro w hSw; (try dsimp only at hSw); go_simp <;> rfl
          simp only [Act.put, List.setIfInBounds_toArray, List.set_cons_zero, List.set_cons_succ]
          refine wpAnyH_take (i := 2) (v := ?p02v) (by simp only [List.getElem?_toArray, List.getElem?_cons_succ, List.getElem?_cons_zero] <;> rfl) (by kernel_rfl) (by kernel_rfl) (by kernel_rfl) (by exact fun _ _ _ h => h) (Or.inl ⟨by rfl, ?p02y⟩) hHeld ?p02r
          case p02y => intro w hSw; (try dsimp only at hSw); go_simp <;> rfl
          simp only [Act.put, List.setIfInBounds_toArray, List.set_cons_zero, List.set_cons_succ]
          refine wpAnyH_take (i := 4) (v := ?p03v) (by simp only [List.getElem?_toArray, List.getElem?_cons_succ, List.getElem?_cons_zero] <;> rfl) (by kernel_rfl) (by kernel_rfl) (by kernel_rfl) (by exact fun _ _ _ h => h) (Or.inl ⟨by rfl, ?p03y⟩) hHeld ?p03r
          case p03y => intro w hSw; (try dsimp only at hSw); go_simp <;> rfl
          simp only [Act.put, List.setIfInBounds_toArray, List.set_cons_zero, List.set_cons_succ]
          refine wpAnyH_take (i := 5) (v := ?p04v) (by simp only [List.getElem?_toArray, List.getElem?_cons_succ, List.getElem?_cons_zero] <;> rfl) (by kernel_rfl) (by kernel_rfl) (by kernel_rfl) (by exact fun _ _ _ h => h) (Or.inl ⟨by rfl, ?p04y⟩) hHeld ?p04r
          case p04y => intro w hSw; (try dsimp only at hSw); go_simp <;> rfl
          simp only [Act.put, List.setIfInBounds_toArray, List.set_cons_zero, List.set_cons_succ]
          refine wpAnyH_take (i := 6) (v := ?p05v) (by simp only [List.getElem?_toArray, List.getElem?_cons_succ, List.getElem?_cons_zero] <;> rfl) (by kernel_rfl) (by kernel_rfl) (by kernel_rfl) (by exact fun _ _ _ h => h) (Or.inl ⟨by rfl, ?p05y⟩) hHeld ?p05r
          case p05y => intro w hSw; (try dsimp only at hSw); go_simp <;> rfl
          simp only [Act.put, List.setIfInBounds_toArray, List.set_cons_zero, List.set_cons_succ]
          refine wpAnyH_ready (rs := [3]) (by kernel_rfl) (by simp) ?_
          refine AllReadyH.cons (by simp only [List.getElem?_toArray, List.getElem?_cons_succ, List.getElem?_cons_zero] <;> rfl) (fun K hK => ?_) AllReadyH.nil
          go_simp
          refine (blob6_any X hX hcD).mono ?_
          rintro e w4 ⟨rfl, hc4, k4⟩
          have hx4 := hxD.keep k4 (by omega)
          have f4 := k4.cell fD (by simp only; omega)
          have kw4 : Keep0 w w4 := kD.step1 k4 (by omega)
          go_wp2_with fail
          refine hK.out _ _ f4 (fun hHeld => ?_)
          clear hK K
          refine wpAnyH_ready (rs := [7]) (by kernel_rfl) (by simp) ?_
          refine AllReadyH.cons (by simp only [List.getElem?_toArray, List.getElem?_cons_succ, List.getElem?_cons_zero] <;> rfl) (fun K hK => ?_) AllReadyH.nil
          go_simp
          refine (rblob_any X hX hx4).mono ?_
          rintro e w5 ⟨rfl, hx5, k5⟩
          have hc5 := hc4.keep k5 (by omega)
          have f5 := k5.cell f4 (by simp only; omega)
          have kw5 : Keep0 w w5 := kw4.step1 k5 (by omega)
          go_wp2_with fail
          refine hK.out _ _ f5 (fun hHeld => ?_)
          clear hK K
          refine wpAnyH_take (i := 8) (v := ?p06v) (by simp only [List.getElem?_toArray, List.getElem?_cons_succ, List.getElem?_cons_zero] <;> rfl) (by kernel_rfl) (by kernel_rfl) (by kernel_rfl) (by exact fun _ _ _ h => h) (Or.inl ⟨by rfl, ?p06y⟩) hHeld ?p06r
          case p06y => intro w hSw; (try dsimp only at hSw); go_simp <;> rfl
          simp only [Act.put, List.setIfInBounds_toArray, List.set_cons_zero, List.set_cons_succ]
          refine wpAnyH_take (i := 9) (v := ?p07v) (by simp only [List.getElem?_toArray, List.getElem?_cons_succ, List.getElem?_cons_zero] <;> rfl) (by kernel_rfl) (by kernel_rfl) (by kernel_rfl) (by exact fun _ _ _ h => h) (Or.inl ⟨by rfl, ?p07y⟩) hHeld ?p07r
          case p07y => intro w hSw; (try dsimp only at hSw); go_simp <;> rfl
          simp only [Act.put, List.setIfInBounds_toArray, List.set_cons_zero, List.set_cons_succ]
          refine wpAnyH_done (by kernel_rfl) ?_ _
          clear hc0 hx0 hcD hxD hc4 hx4 fD f1 f4 f5 k4 k5 kD kw0 kw4
          obtain ⟨ca, cx, cz, cf1, cf2⟩ := hx5.cells
          go_wp2_with fail
          go_quiet ((first | (go_at_call 14; exact err_q hc5) | (go_at_call 15; exact at_q hc5)))
          go_wp2
          go_roundw
          case rel => exact ⟨j + 1, _, _, by omega, by go_num, hc5.keep0 ((Keep.refl _ _).drewN _), hx5.keep0 ((Keep.refl _ _).drewN _), kw5.drewN _⟩
          case measure => simp [intOf]; omega
        · have hK0' : (K == 0) = false := by simpa using hK0
          by_cases hK1 : K = 1
          · subst hK1
            go_wp2_with fail
            generalize wr.alloc (.cells #[.int .i64 1, .int .i64 X, .int .i64 N, .string T, .bool F] 30) = W0 at *
            have hB0 : wr.heap.size = wr.heap.size := rfl
            generalize hB : wr.heap.size = B0 at *
            clear hB hB0 g0 g1 g2 g3 g4 hc hx hkp k0
            have hcD : Cur W0.drew _ _ _ _ := hc0.keep0 (Keep.refl _ W0).drew
            have hxD : Cur W0.drew _ _ _ _ := hx0.keep0 (Keep.refl _ W0).drew
            have kD := kw0.drew
            have fD : W0.drew.cell? ⟨B0, 1, none⟩ = some (.int .i64 X) := f1
            refine wp_region_held_drew (S := fun w' => w'.cell? ⟨B0, 1, none⟩ = some (.int .i64 X)) (by kernel_rfl) fD (fun hHeld => ?_)
            refine wpAnyH_take (i := 0) (v := ?p10v) (by simp only [List.getElem?_toArray, List.getElem?_cons_zero] <;> rfl) (by kernel_rfl) (by kernel_rfl) (by kernel_rfl) (by exact fun _ _ _ h => h) (Or.inl ⟨by rfl, ?p10y⟩) hHeld ?p10r
            case p10y => intro w hSw; (try dsimp only at hSw); go_simp <;> rfl
            simp only [Act.put, List.setIfInBounds_toArray, List.set_cons_zero, List.set_cons_succ]
            refine wpAnyH_take (i := 1) (v := ?p11v) (by simp only [List.getElem?_toArray, List.getElem?_cons_succ, List.getElem?_cons_zero] <;> rfl) (by kernel_rfl) (by kernel_rfl) (by kernel_rfl) (by exact fun _ _ _ h => h) (Or.inl ⟨by rfl, ?p11y⟩) hHeld ?p11r
            case p11y => intro w hSw; (try dsimp only at hSw); go_simp <;> rfl
            simp only [Act.put, List.setIfInBounds_toArray, List.set_cons_zero, List.set_cons_succ]
            refine wpAnyH_take (i := 2) (v := ?p12v) (by simp only [List.getElem?_toArray, List.getElem?_cons_succ, List.getElem?_cons_zero] <;> rfl) (by kernel_rfl) (by kernel_rfl) (by kernel_rfl) (by exact fun _ _ _ h => h) (Or.inl ⟨by rfl, ?p12y⟩) hHeld ?p12r
            case p12y => intro w hSw; (try dsimp only at hSw); go_simp <;> rfl
            simp only [Act.put, List.setIfInBounds_toArray, List.set_cons_zero, List.set_cons_succ]
            refine wpAnyH_take (i := 4) (v := ?p13v) (by simp only [List.getElem?_toArray, List.getElem?_cons_succ, List.getElem?_cons_zero] <;> rfl) (by kernel_rfl) (by kernel_rfl) (by kernel_rfl) (by exact fun _ _ _ h => h) (Or.inl ⟨by rfl, ?p13y⟩) hHeld ?p13r
            case p13y => intro w hSw; (try dsimp only at hSw); go_simp <;> rfl
            simp only [Act.put, List.setIfInBounds_toArray, List.set_cons_zero, List.set_cons_succ]
            refine wpAnyH_take (i := 5) (v := ?p14v) (by simp only [List.getElem?_toArray, List.getElem?_cons_succ, List.getElem?_cons_zero] <;> rfl) (by kernel_rfl) (by kernel_rfl) (by kernel_rfl) (by exact fun _ _ _ h => h) (Or.inl ⟨by rfl, ?p14y⟩) hHeld ?p14r
            case p14y => intro w hSw; (try dsimp only at hSw); go_simp <;> rfl
            simp only [Act.put, List.setIfInBounds_toArray, List.set_cons_zero, List.set_cons_succ]
            refine wpAnyH_take (i := 6) (v := ?p15v) (by simp only [List.getElem?_toArray, List.getElem?_cons_succ, List.getElem?_cons_zero] <;> rfl) (by kernel_rfl) (by kernel_rfl) (by kernel_rfl) (by exact fun _ _ _ h => h) (Or.inl ⟨by rfl, ?p15y⟩) hHeld ?p15r
            case p15y => intro w hSw; (try dsimp only at hSw); go_simp <;> rfl
            simp only [Act.put, List.setIfInBounds_toArray, List.set_cons_zero, List.set_cons_succ]
            refine wpAnyH_ready (rs := [3]) (by kernel_rfl) (by simp) ?_
            refine AllReadyH.cons (by simp only [List.getElem?_toArray, List.getElem?_cons_succ, List.getElem?_cons_zero] <;> rfl) (fun K hK => ?_) AllReadyH.nil
            go_simp
            refine (count6_any X hX hcD).mono ?_
            rintro e w4 ⟨rfl, hc4, k4⟩
            have hx4 := hxD.keep k4 (by omega)
            have f4 := k4.cell fD (by simp only; omega)
            have kw4 : Keep0 w w4 := kD.step1 k4 (by omega)
            go_wp2_with fail
            refine hK.out _ _ f4 (fun hHeld => ?_)
            clear hK K
            refine wpAnyH_ready (rs := [7]) (by kernel_rfl) (by simp) ?_
            refine AllReadyH.cons (by simp only [List.getElem?_toArray, List.getElem?_cons_succ, List.getElem?_cons_zero] <;> rfl) (fun K hK => ?_) AllReadyH.nil
            go_simp
            refine (rcount_any X hX hx4).mono ?_
            rintro e w5 ⟨rfl, hx5, k5⟩
            have hc5 := hc4.keep k5 (by omega)
            have f5 := k5.cell f4 (by simp only; omega)
            have kw5 : Keep0 w w5 := kw4.step1 k5 (by omega)
            go_wp2_with fail
            refine hK.out _ _ f5 (fun hHeld => ?_)
            clear hK K
            refine wpAnyH_take (i := 8) (v := ?p16v) (by simp only [List.getElem?_toArray, List.getElem?_cons_succ, List.getElem?_cons_zero] <;> rfl) (by kernel_rfl) (by kernel_rfl) (by kernel_rfl) (by exact fun _ _ _ h => h) (Or.inl ⟨by rfl, ?p16y⟩) hHeld ?p16r
            case p16y => intro w hSw; (try dsimp only at hSw); go_simp <;> rfl
            simp only [Act.put, List.setIfInBounds_toArray, List.set_cons_zero, List.set_cons_succ]
            refine wpAnyH_take (i := 9) (v := ?p17v) (by simp only [List.getElem?_toArray, List.getElem?_cons_succ, List.getElem?_cons_zero] <;> rfl) (by kernel_rfl) (by kernel_rfl) (by kernel_rfl) (by exact fun _ _ _ h => h) (Or.inl ⟨by rfl, ?p17y⟩) hHeld ?p17r
            case p17y => intro w hSw; (try dsimp only at hSw); go_simp <;> rfl
            simp only [Act.put, List.setIfInBounds_toArray, List.set_cons_zero, List.set_cons_succ]
            refine wpAnyH_done (by kernel_rfl) ?_ _
            clear hc0 hx0 hcD hxD hc4 hx4 fD f1 f4 f5 k4 k5 kD kw0 kw4
            obtain ⟨ca, cx, cz, cf1, cf2⟩ := hx5.cells
            go_wp2_with fail
            go_quiet ((first | (go_at_call 14; exact err_q hc5) | (go_at_call 15; exact at_q hc5)))
            go_wp2
            go_roundw
            case rel => exact ⟨j + 1, _, _, by omega, by go_num, hc5.keep0 ((Keep.refl _ _).drewN _), hx5.keep0 ((Keep.refl _ _).drewN _), kw5.drewN _⟩
            case measure => simp [intOf]; omega
          · have hK1' : (K == 1) = false := by simpa using hK1
            go_wp2_with fail
            generalize wr.alloc (.cells #[.int .i64 K, .int .i64 X, .int .i64 N, .string T, .bool F] 30) = W0 at *
            have hB0 : wr.heap.size = wr.heap.size := rfl
            generalize hB : wr.heap.size = B0 at *
            clear hB hB0 g0 g1 g2 g3 g4 hc hx hkp k0
            refine (flag6_any hc0).mono ?_
            rintro e w4 ⟨rfl, hc4, k4⟩
            have hx4 := hx0.keep k4 (by omega)
            have kw4 : Keep0 w w4 := kw0.step1 k4 (by omega)
            go_wp2_with fail
            refine (rflag_any hx4).mono ?_
            rintro e w5 ⟨rfl, hx5, k5⟩
            have hc5 := hc4.keep k5 (by omega)
            have kw5 : Keep0 w w5 := kw4.step1 k5 (by omega)
            clear hc0 hx0 hc4 hx4 f1 k4 k5 kw0 kw4
            obtain ⟨ca, cx, cz, cf1, cf2⟩ := hx5.cells
            go_wp2_with fail
            go_quiet ((first | (go_at_call 14; exact err_q hc5) | (go_at_call 15; exact at_q hc5)))
            go_wp2
            go_roundw
            case rel => exact ⟨j + 1, _, _, by omega, by go_num, hc5.keep0 ((Keep.refl _ _).drewN _), hx5.keep0 ((Keep.refl _ _).drewN _), kw5.drewN _⟩
            case measure => simp [intOf]; omega
      · go_wp2
        go_ret
        exact ⟨rfl, hkp⟩
  · exact takes6_great s ao al.length cap w hl
end Go.Proofs.Ytfbcifdliofmiaa
