/-
  The walk of the law FramerPushes, out of the contracts of package framer and of the document's own framer.
  Conditions: none beyond that the argument can be read as data.
-/
import Derived.Test.YtmgfalkelembkaaLaw09
import Derived.Test.YtmgfalkelembkaaRefFramer
import Derived.Test.YtmgfalkelembkaaOpen05
import Derived.Test.YtmgfalkelembkaaL7a
namespace Go.Proofs.Ytmgfalkelembkaa
open Go.RowKit

theorem cat_next (l : List ByteArray) {k : Nat} (hk : k < l.length) : (cat9 (l.take (k + 1))).size = (cat9 (l.take k)).size + l[k].size := by
  rw [List.take_succ_eq_append_getElem hk, cat_app, ByteArray.size_append]
/-- What 'small' answers. -/
def RSmall (l : List ByteArray) (w : World) (e : Ending) (w' : World) : Prop := ∃ b : Bool, e = .returned (.bool b) ∧ (b = true → l.length ≤ 60 ∧ (cat9 l).size ≤ 2000) ∧ w = w'
theorem RSmall.no {l : List ByteArray} {w : World} {e : Ending} (h : e = .returned (.bool false)) : RSmall l w e w := ⟨false, h, (fun h => by cases h), rfl⟩
theorem RSmall.yes {l : List ByteArray} {w : World} {e : Ending} (h : e = .returned (.bool true)) (h1 : l.length ≤ 60 ∧ (cat9 l).size ≤ 2000) : RSmall l w e w := ⟨true, h, fun _ => h1, rfl⟩
set_option maxRecDepth 100000 in
set_option maxHeartbeats 4000000 in
theorem small09 (w : World) (ao : Option Addr) (cap : Nat) (l : List ByteArray) (hl : l.length ≤ maxLen) (hls : ∀ s ∈ l, s.size ≤ maxLen) (hc : TxAt w ao l) :
    Calls Try.prog 7 #[.slice ao l.length cap] w (RSmall l w) := by
  have HC : Hid (TxAt w ao l) := hc
  have HS : Hid (∀ s ∈ l, s.size ≤ maxLen) := hls
  have hl' : (l.length : Int) ≤ 9223372036854775807 := by unfold maxLen at hl; omega
  have HE : Hid (l.take l.length = l) := List.take_length
  clear hc hls
  go_enter Try.func7, Try.ntmps7
  go_wp2_with fail
  go_loopw [3, 4] (fun n i wr => ∃ (k m : Nat), i = .int .i64 (k : Int) ∧ n = .int .i64 (m : Int) ∧ k ≤ l.length ∧ k ≤ 60 ∧ m = (cat9 (l.take k)).size ∧ m ≤ 2000 * k ∧ wr = w) (fun _ i _ => l.length - (intOf i).toNat)
  case atStart => exact ⟨0, 0, rfl, rfl, by omega, by omega, rfl, by omega, rfl⟩
  case round =>
    obtain ⟨k, m, rfl, rfl, hk, hk6, hm, hm2, rfl⟩ := hrel
    have HM : Hid (m = (cat9 (l.take k)).size) := hm
    clear hm
    by_cases hlt : k < l.length
    · have i1 : (k : Int) < l.length := by omega
      by_cases h6 : k < 60
      · have i2 : (k : Int) < 60 := by omega
        obtain ⟨bb, off, rfl, x0⟩ := HC.out k hlt
        have hsz := HS.out l[k] (List.getElem_mem hlt)
        have i3 : (l[k].size : Int) ≤ 9223372036854775807 := by unfold maxLen at hsz; omega
        have HN : Hid ((cat9 (l.take (k + 1))).size = (cat9 (l.take k)).size + l[k].size) := cat_next l hlt
        generalize l[k] = C at *
        clear hsz
        by_cases h2 : C.size ≤ 2000
        · have i4 : ¬ (2000 : Int) < C.size := by omega
          obtain ⟨q, hq⟩ : ∃ q : Nat, m + C.size = q := ⟨_, rfl⟩
          have i5 : (m : Int) + (C.size : Int) = (q : Int) := by omega
          have i6 : IntKind.i64.wrap (q : Int) = (q : Int) := by rw [IntKind.wrap_i64]; omega
          go_wp2
          go_roundw
          case rel => exact ⟨k + 1, q, by go_num, by go_num, by omega, by omega, by rw [HN.out, ← HM.out, hq], by omega, by first | rfl | trivial⟩
          case measure => simp [intOf]; omega
        · have i4 : (2000 : Int) < C.size := by omega
          go_wp2
          go_ret
          exact RSmall.no rfl
      · have i2 : ¬ (k : Int) < 60 := by omega
        have i7 : ¬ (l.length : Int) ≤ 60 := by omega
        go_wp2
        go_ret
        exact RSmall.no rfl
    · have i1 : ¬ (k : Int) < l.length := by omega
      have ek : k = l.length := by omega
      have HM' : Hid (m = (cat9 l).size) := by
        have := HM.out
        rw [ek, HE.out] at this
        exact this
      by_cases h6 : l.length ≤ 60
      · have i7 : (l.length : Int) ≤ 60 := by omega
        by_cases h2 : m ≤ 2000
        · have i8 : (m : Int) ≤ 2000 := by omega
          go_wp2
          go_ret
          exact RSmall.yes rfl ⟨h6, by rw [← HM'.out]; exact h2⟩
        · have i8 : ¬ (m : Int) ≤ 2000 := by omega
          go_wp2
          go_ret
          exact RSmall.no rfl
      · have i7 : ¬ (l.length : Int) ≤ 60 := by omega
        go_wp2
        go_ret
        exact RSmall.no rfl
set_option maxRecDepth 100000 in
set_option maxHeartbeats 8000000 in
theorem framerPushes_law (w : World) (ao : Option Addr) (cap : Nat) (l : List ByteArray) (hl : l.length ≤ maxLen) (hls : ∀ s ∈ l, s.size ≤ maxLen) (hc0 : StrsAt w ao l) :
    Calls Try.prog 3 #[.slice ao l.length cap] w fun e w' => e = .returned (.bool true) ∧ Keep0 w w' := by
  have hc : TxAt w ao l := fun k hk => by
    obtain ⟨b, off, e, _, h⟩ := hc0 k hk
    exact ⟨b, off, e, h⟩
  have HB : Hid (StrsAt w ao l) := hc0
  have HC : Hid (TxAt w ao l) := hc
  have hl' : (l.length : Int) ≤ 9223372036854775807 := by unfold maxLen at hl; omega
  clear hc0
  go_enter Try.func3, Try.ntmps3
  go_wp2_with fail
  refine (awake09 w).mono ?_
  rintro e w1 ⟨rfl, K1⟩
  have ys := small09 w1 ao cap l hl hls (hc.keep0 K1)
  clear hc hls hl
  go_wp2_with fail
  refine ys.mono ?_
  rintro e w' ⟨b, rfl, hb, rfl⟩
  have HS : Hid (b = true → l.length ≤ 60 ∧ (cat9 l).size ≤ 2000) := hb
  clear ys hb
  cases b with
  | false =>
    go_wp2
    go_ret
    exact ⟨rfl, K1⟩
  | true =>
    go_wp2_with fail
    refine (fpush_nil _ _).mono ?_
    rintro e w' ⟨rfl, rfl⟩
    go_wp2_with fail
    refine (ferr_nil _).mono ?_
    rintro e w' ⟨rfl, rfl⟩
    go_wp2_with fail
    refine (fkept_nil _).mono ?_
    rintro e w' ⟨rfl, rfl⟩
    go_wp2_with fail
    refine (ftold_nil _).mono ?_
    rintro e w' ⟨rfl, rfl⟩
    go_wp2_with fail
    refine (fnew_any _).mono ?_
    rintro e w2 ⟨rfl, h2, k2⟩
    have K2 := K1.trans k2
    have s1 := K1.size
    generalize w1.heap.size = fb at *
    have hlt2 := h2.lt
    have h3 := h2.keep0 ((Keep.refl (fun _ => False) w2).alloc (.cells #[.string ⟨#[]⟩, .int .i64 0, .bool false] 34))
    have r3 := RmAt.new w2 34
    have K3 := K2.alloc (.cells #[.string ⟨#[]⟩, .int .i64 0, .bool false] 34)
    clear h2 k2 K1 K2
    go_wp2_with fail
    generalize w2.alloc (.cells #[.string ⟨#[]⟩, .int .i64 0, .bool false] 34) = w3 at *
    generalize w2.heap.size = xb at *
    go_loopw [6] (fun i wr => ∃ (k : Nat) (P : ByteArray), i = .int .i64 (k : Int) ∧ k ≤ l.length ∧ P = push9s ⟨#[]⟩ (l.take k) ∧ FmAt wr fb P ∧ RmAt wr xb P ∧ Keep0 w wr) (fun i _ => l.length - (intOf i).toNat)
    case atStart => exact ⟨0, ⟨#[]⟩, rfl, Nat.zero_le _, rfl, h3, r3, K3⟩
    case round =>
      obtain ⟨k, P, rfl, hk, hP, hF, hR, hK⟩ := hrel
      clear h3 r3 K3
      have hlF := hF.lt
      have hlR := hR.lt
      by_cases hlt : k < l.length
      · have i1 : (k : Int) < l.length := by omega
        obtain ⟨bb, off, rfl, hbb, x0⟩ := HB.out k hlt
        have x1 : wr.cell? ⟨bb, off + k, none⟩ = some (.string l[k]) := hK.cell x0 (fun f => f)
        have hroom := push9s_room l hlt
        rw [← hP] at hroom
        have hcat := (HS.out (by first | rfl | trivial)).2
        have hps := push_size P l[k]
        have HP : Hid (push9 P l[k] = push9s ⟨#[]⟩ (l.take (k + 1))) := by
          show push9 P l[k] = _
          rw [push9s_next l hlt, hP]
        have ef := push_fs P l[k]
        have el := fs_len (push9 P l[k])
        rw [ef, List.length_append] at el
        have HT : Hid ((told9 P l[k]).length ≤ maxLen) := by show _ ≤ _; unfold maxLen; omega
        have HZ : Hid (P.size + l[k].size ≤ 1000000 ∧ (push9 P l[k]).size ≤ 1000000) := ⟨by omega, by omega⟩
        have yp := fun W (h : FmAt W fb P) => fpush_any h l[k] HZ.out.1
        have yr := fun W (h : RmAt W xb P) => rpush_any h l[k] HZ.out.1
        have hcD : FmAt wr.drew fb P := hF.keep0 (Keep.refl _ wr).drew
        have hxD : RmAt wr.drew xb P := hR.keep0 (Keep.refl _ wr).drew
        have hcellD : wr.drew.cell? ⟨bb, off + k, none⟩ = some (.string l[k]) := x1
        have kD : Keep0 w wr.drew := hK.drew
        have hsD : wr.drew.heap.size = wr.heap.size := rfl
        have hb1 : bb ≠ fb := by omega
        have hb2 : bb ≠ xb := by omega
        generalize push9 P l[k] = P' at *
        generalize told9 P l[k] = TD at *
        generalize l[k] = C at *
        clear x0 hroom hcat hps ef el hP
        go_wp2_with fail
        clear hF hR x1 hK HB HC
        refine wp_region_held_drew (S := fun w' => w'.cell? ⟨bb, off + k, none⟩ = some (.string C)) (by kernel_rfl) hcellD (fun hHeld => ?_)
        generalize wr.drew = wD at *
        refine wpAnyH_take (i := 0) (v := ?t0v) (by simp only [List.getElem?_toArray, List.getElem?_cons_zero] <;> rfl) (by kernel_rfl) (by kernel_rfl) (by kernel_rfl) (by exact fun _ _ _ h => h) (Or.inl ⟨by rfl, ?t0y⟩) hHeld ?t0r
        case t0y => intro w hSw; (try dsimp only at hSw); go_simp <;> rfl
        simp only [Act.put, List.setIfInBounds_toArray, List.set_cons_zero, List.set_cons_succ]
        refine wpAnyH_take (i := 1) (v := ?t1v) (by simp only [List.getElem?_toArray, List.getElem?_cons_succ, List.getElem?_cons_zero] <;> rfl) (by kernel_rfl) (by kernel_rfl) (by kernel_rfl) (by exact fun _ _ _ h => h) (Or.inl ⟨by rfl, ?t1y⟩) hHeld ?t1r
        case t1y => intro w hSw; (try dsimp only at hSw); go_simp <;> rfl
        simp only [Act.put, List.setIfInBounds_toArray, List.set_cons_zero, List.set_cons_succ]
        refine wpAnyH_take (i := 2) (v := ?t2v) (by simp only [List.getElem?_toArray, List.getElem?_cons_succ, List.getElem?_cons_zero] <;> rfl) (by kernel_rfl) (by kernel_rfl) (by kernel_rfl) (by exact fun _ _ _ h => h) (Or.inl ⟨by rfl, ?t2y⟩) hHeld ?t2r
        case t2y => intro w hSw; (try dsimp only at hSw); go_simp <;> rfl
        simp only [Act.put, List.setIfInBounds_toArray, List.set_cons_zero, List.set_cons_succ]
        refine wpAnyH_take (i := 3) (v := ?t3v) (by simp only [List.getElem?_toArray, List.getElem?_cons_succ, List.getElem?_cons_zero] <;> rfl) (by kernel_rfl) (by kernel_rfl) (by kernel_rfl) (by exact fun _ _ _ h => h) (Or.inl ⟨by rfl, ?t3y⟩) hHeld ?t3r
        case t3y => intro w hSw; (try dsimp only at hSw); go_simp <;> rfl
        simp only [Act.put, List.setIfInBounds_toArray, List.set_cons_zero, List.set_cons_succ]
        refine wpAnyH_take (i := 4) (v := ?t4v) (by simp only [List.getElem?_toArray, List.getElem?_cons_succ, List.getElem?_cons_zero] <;> rfl) (by kernel_rfl) (by kernel_rfl) (by kernel_rfl) (by exact fun _ _ _ h => h) (Or.inl ⟨by rfl, ?t4y⟩) hHeld ?t4r
        case t4y => intro w hSw; (try dsimp only at hSw); go_simp <;> rfl
        simp only [Act.put, List.setIfInBounds_toArray, List.set_cons_zero, List.set_cons_succ]
        refine wpAnyH_take (i := 6) (v := ?t5v) (by simp only [List.getElem?_toArray, List.getElem?_cons_succ, List.getElem?_cons_zero] <;> rfl) (by kernel_rfl) (by kernel_rfl) (by kernel_rfl) (by exact fun _ _ _ h => h) (Or.inl ⟨by rfl, ?t5y⟩) hHeld ?t5r
        case t5y => intro w hSw; (try dsimp only at hSw); go_simp <;> rfl
        simp only [Act.put, List.setIfInBounds_toArray, List.set_cons_zero, List.set_cons_succ]
        refine wpAnyH_take (i := 7) (v := ?t6v) (by simp only [List.getElem?_toArray, List.getElem?_cons_succ, List.getElem?_cons_zero] <;> rfl) (by kernel_rfl) (by kernel_rfl) (by kernel_rfl) (by exact fun _ _ _ h => h) (Or.inl ⟨by rfl, ?t6y⟩) hHeld ?t6r
        case t6y => intro w hSw; (try dsimp only at hSw); go_simp <;> rfl
        simp only [Act.put, List.setIfInBounds_toArray, List.set_cons_zero, List.set_cons_succ]
        refine wpAnyH_take (i := 8) (v := ?t7v) (by simp only [List.getElem?_toArray, List.getElem?_cons_succ, List.getElem?_cons_zero] <;> rfl) (by kernel_rfl) (by kernel_rfl) (by kernel_rfl) (by exact fun _ _ _ h => h) (Or.inl ⟨by rfl, ?t7y⟩) hHeld ?t7r
        case t7y => intro w hSw; (try dsimp only at hSw); go_simp <;> rfl
        simp only [Act.put, List.setIfInBounds_toArray, List.set_cons_zero, List.set_cons_succ]
        refine wpAnyH_take (i := 9) (v := ?t8v) (by simp only [List.getElem?_toArray, List.getElem?_cons_succ, List.getElem?_cons_zero] <;> rfl) (by kernel_rfl) (by kernel_rfl) (by kernel_rfl) (by exact fun _ _ _ h => h) (Or.inl ⟨by rfl, ?t8y⟩) hHeld ?t8r
        case t8y => intro w hSw; (try dsimp only at hSw); go_simp <;> rfl
        simp only [Act.put, List.setIfInBounds_toArray, List.set_cons_zero, List.set_cons_succ]
        refine wpAnyH_take (i := 10) (v := ?t9v) (by simp only [List.getElem?_toArray, List.getElem?_cons_succ, List.getElem?_cons_zero] <;> rfl) (by kernel_rfl) (by kernel_rfl) (by kernel_rfl) (by exact fun _ _ _ h => h) (Or.inl ⟨by rfl, ?t9y⟩) hHeld ?t9r
        case t9y => intro w hSw; (try dsimp only at hSw); go_simp <;> rfl
        simp only [Act.put, List.setIfInBounds_toArray, List.set_cons_zero, List.set_cons_succ]
        refine wpAnyH_ready (rs := [5]) (by kernel_rfl) (by simp) ?_
        refine AllReadyH.cons (by simp only [List.getElem?_toArray, List.getElem?_cons_succ, List.getElem?_cons_zero] <;> rfl) (fun K hK => ?_) AllReadyH.nil
        go_simp
        refine (yp _ hcD).mono ?_
        rintro e w4 ⟨po, pc, rfl, fp, np, h4, k4⟩
        have r4 := hxD.keep k4 (by omega)
        have c4 := k4.cell hcellD hb1
        have K4 : Keep0 w w4 := kD.step k4 (fun i hi hh => by omega)
        have s4 := k4.size
        clear yp hcD hxD hcellD kD k4
        go_wp2_with fail
        refine hK.out _ _ c4 (fun hHeld => ?_)
        clear hK K
        refine wpAnyH_ready (rs := [11]) (by kernel_rfl) (by simp) ?_
        refine AllReadyH.cons (by simp only [List.getElem?_toArray, List.getElem?_cons_succ, List.getElem?_cons_zero] <;> rfl) (fun K hK => ?_) AllReadyH.nil
        go_simp
        refine (yr _ r4).mono ?_
        rintro e w5 ⟨qo, qc, rfl, fq, nq, r5, k5⟩
        have h5 := h4.keep k5 (by omega)
        have c5 := k5.cell c4 hb2
        have K5 : Keep0 w w5 := K4.step k5 (fun i hi hh => by omega)
        have fp5 := fp.keep k5 (fun g o m e hh => by have := np g o m e; omega)
        clear yr r4 h4 c4 K4 k5 fp np nq s4
        go_wp2_with fail
        refine hK.out _ _ c5 (fun hHeld => ?_)
        clear hK K
        refine wpAnyH_ready (rs := [12]) (by kernel_rfl) (by simp) ?_
        refine AllReadyH.cons (by simp only [List.getElem?_toArray, List.getElem?_cons_succ, List.getElem?_cons_zero] <;> rfl) (fun K hK => ?_) AllReadyH.nil
        go_simp
        refine (same_yes _ _ _ _ _ _ HT.out fp5 fq).mono ?_
        rintro e w6 ⟨rfl, hw6⟩
        have k6 := keepN hw6
        have h6 := h5.keep0 k6
        have r6 := r5.keep0 k6
        have c6 := k6.cell c5 (fun f => f)
        have K6 := K5.trans k6
        have g6 : w6.cell? ⟨xb, 1, none⟩ = some (.int .i64 ((fs P').length : Int)) := by
          obtain ⟨t, ht⟩ := r6
          exact (three_cells ht).2.1
        clear hw6 k6 h5 r5 c5 K5 fp5 fq
        go_wp2_with fail
        refine hK.out _ _ c6 (fun hHeld => ?_)
        clear hK K
        clear hHeld
        refine wpAnyH_strong (S' := fun w' => w'.cell? ⟨bb, off + k, none⟩ = some (.string C) ∧ w'.cell? ⟨xb, 1, none⟩ = some (.int .i64 ((fs P').length : Int))) (fun _ h => h.1) ⟨c6, g6⟩ (fun hHeld => ?_)
        refine wpAnyH_take (i := 13) (v := ?t10v) (by simp only [List.getElem?_toArray, List.getElem?_cons_succ, List.getElem?_cons_zero] <;> rfl) (by kernel_rfl) (by kernel_rfl) (by kernel_rfl) (by exact fun _ _ _ h => h) (Or.inl ⟨by rfl, ?t10y⟩) hHeld ?t10r
        case t10y => intro w hSw; (try dsimp only at hSw); go_simp <;> rfl
        simp only [Act.put, List.setIfInBounds_toArray, List.set_cons_zero, List.set_cons_succ]
        refine wpAnyH_take (i := 14) (v := ?t11v) (by simp only [List.getElem?_toArray, List.getElem?_cons_succ, List.getElem?_cons_zero] <;> rfl) (by kernel_rfl) (by kernel_rfl) (by kernel_rfl) (by exact fun _ _ _ h => h) (Or.inl ⟨by rfl, ?t11y⟩) hHeld ?t11r
        case t11y => intro w hSw; (try dsimp only at hSw); go_simp <;> rfl
        simp only [Act.put, List.setIfInBounds_toArray, List.set_cons_zero, List.set_cons_succ]
        refine wpAnyH_take (i := 15) (v := ?t12v) (by simp only [List.getElem?_toArray, List.getElem?_cons_succ, List.getElem?_cons_zero] <;> rfl) (by kernel_rfl) (by kernel_rfl) (by kernel_rfl) (by exact fun _ _ _ h => h) (Or.inl ⟨by rfl, ?t12y⟩) hHeld ?t12r
        case t12y => intro w hSw; (try dsimp only at hSw); go_simp <;> rfl
        simp only [Act.put, List.setIfInBounds_toArray, List.set_cons_zero, List.set_cons_succ]
        refine wpAnyH_take (i := 17) (v := ?t13v) (by simp only [List.getElem?_toArray, List.getElem?_cons_succ, List.getElem?_cons_zero] <;> rfl) (by kernel_rfl) (by kernel_rfl) (by kernel_rfl) (by exact fun _ _ _ h => h) (Or.inl ⟨by rfl, ?t13y⟩) hHeld ?t13r
        case t13y => intro w hSw; (try dsimp only at hSw); go_simp <;> rfl
        simp only [Act.put, List.setIfInBounds_toArray, List.set_cons_zero, List.set_cons_succ]
        refine wpAnyH_ready (rs := [16]) (by kernel_rfl) (by simp) ?_
        refine AllReadyH.cons (by simp only [List.getElem?_toArray, List.getElem?_cons_succ, List.getElem?_cons_zero] <;> rfl) (fun K hK => ?_) AllReadyH.nil
        go_simp
        refine (ferr_any h6).mono ?_
        rintro e w' ⟨rfl, rfl⟩
        go_wp2_with fail
        refine hK.out _ _ ⟨c6, g6⟩ (fun hHeld => ?_)
        clear hK K
        refine wpAnyH_ready (rs := [18]) (by kernel_rfl) (by simp) ?_
        refine AllReadyH.cons (by simp only [List.getElem?_toArray, List.getElem?_cons_succ, List.getElem?_cons_zero] <;> rfl) (fun K hK => ?_) AllReadyH.nil
        go_simp
        refine (rerr_any r6 HZ.out.2).mono ?_
        rintro e w7 ⟨rfl, k7⟩
        have h7 := h6.keep0 k7
        have r7 := r6.keep0 k7
        have c7 := k7.cell c6 (fun f => f)
        have g7 := k7.cell g6 (fun f => f)
        have K7 := K6.trans k7
        clear k7 h6 r6 c6 g6 K6
        go_wp2_with fail
        refine hK.out _ _ ⟨c7, g7⟩ (fun hHeld => ?_)
        clear hK K
        refine wpAnyH_take (i := 19) (v := ?t14v) (by simp only [List.getElem?_toArray, List.getElem?_cons_succ, List.getElem?_cons_zero] <;> rfl) (by kernel_rfl) (by kernel_rfl) (by kernel_rfl) (by exact fun _ _ _ h => h) (Or.inl ⟨by rfl, ?t14y⟩) hHeld ?t14r
        case t14y => intro w hSw; (try dsimp only at hSw); go_simp <;> rfl
        simp only [Act.put, List.setIfInBounds_toArray, List.set_cons_zero, List.set_cons_succ]
        refine wpAnyH_take (i := 20) (v := ?t15v) (by simp only [List.getElem?_toArray, List.getElem?_cons_succ, List.getElem?_cons_zero] <;> rfl) (by kernel_rfl) (by kernel_rfl) (by kernel_rfl) (by exact fun _ _ _ h => h) (Or.inl ⟨by rfl, ?t15y⟩) hHeld ?t15r
        case t15y => intro w hSw; (try dsimp only at hSw); go_simp <;> rfl
        simp only [Act.put, List.setIfInBounds_toArray, List.set_cons_zero, List.set_cons_succ]
        refine wpAnyH_take (i := 21) (v := ?t16v) (by simp only [List.getElem?_toArray, List.getElem?_cons_succ, List.getElem?_cons_zero] <;> rfl) (by kernel_rfl) (by kernel_rfl) (by kernel_rfl) (by exact fun _ _ _ h => h) (Or.inl ⟨by rfl, ?t16y⟩) hHeld ?t16r
        case t16y => intro w hSw; (try dsimp only at hSw); go_simp <;> rfl
        simp only [Act.put, List.setIfInBounds_toArray, List.set_cons_zero, List.set_cons_succ]
        refine wpAnyH_take (i := 22) (v := ?t17v) (by simp only [List.getElem?_toArray, List.getElem?_cons_succ, List.getElem?_cons_zero] <;> rfl) (by kernel_rfl) (by kernel_rfl) (by kernel_rfl) (by exact fun _ _ _ h => h) (Or.inl ⟨by rfl, ?t17y⟩) hHeld ?t17r
        case t17y => intro w hSw; (try dsimp only at hSw); go_simp <;> rfl
        simp only [Act.put, List.setIfInBounds_toArray, List.set_cons_zero, List.set_cons_succ]
        refine wpAnyH_take (i := 24) (v := ?t18v) (by simp only [List.getElem?_toArray, List.getElem?_cons_succ, List.getElem?_cons_zero] <;> rfl) (by kernel_rfl) (by kernel_rfl) (by kernel_rfl) (by exact fun _ _ _ h => h) (Or.inl ⟨by rfl, ?t18y⟩) hHeld ?t18r
        case t18y => intro w hSw; (try dsimp only at hSw); go_simp <;> rfl
        simp only [Act.put, List.setIfInBounds_toArray, List.set_cons_zero, List.set_cons_succ]
        refine wpAnyH_ready (rs := [23]) (by kernel_rfl) (by simp) ?_
        refine AllReadyH.cons (by simp only [List.getElem?_toArray, List.getElem?_cons_succ, List.getElem?_cons_zero] <;> rfl) (fun K hK => ?_) AllReadyH.nil
        go_simp
        refine (fkept_any h7 HZ.out.2).mono ?_
        rintro e w' ⟨rfl, rfl⟩
        go_wp2_with fail
        refine hK.out _ _ ⟨c7, g7⟩ (fun hHeld => ?_)
        clear hK K
        refine wpAnyH_ready (rs := [25]) (by kernel_rfl) (by simp) ?_
        refine AllReadyH.cons (by simp only [List.getElem?_toArray, List.getElem?_cons_succ, List.getElem?_cons_zero] <;> rfl) (fun K hK => ?_) AllReadyH.nil
        go_simp
        refine (rkept_any r7 HZ.out.2).mono ?_
        rintro e w8 ⟨rfl, k8⟩
        have h8 := h7.keep0 k8
        have r8 := r7.keep0 k8
        have c8 := k8.cell c7 (fun f => f)
        have g8 := k8.cell g7 (fun f => f)
        have K8 := K7.trans k8
        clear k8 h7 r7 c7 g7 K7
        go_wp2_with fail
        refine hK.out _ _ ⟨c8, g8⟩ (fun hHeld => ?_)
        clear hK K
        refine wpAnyH_take (i := 26) (v := ?t19v) (by simp only [List.getElem?_toArray, List.getElem?_cons_succ, List.getElem?_cons_zero] <;> rfl) (by kernel_rfl) (by kernel_rfl) (by kernel_rfl) (by exact fun _ _ _ h => h) (Or.inl ⟨by rfl, ?t19y⟩) hHeld ?t19r
        case t19y => intro w hSw; (try dsimp only at hSw); go_simp <;> rfl
        simp only [Act.put, List.setIfInBounds_toArray, List.set_cons_zero, List.set_cons_succ]
        refine wpAnyH_take (i := 27) (v := ?t20v) (by simp only [List.getElem?_toArray, List.getElem?_cons_succ, List.getElem?_cons_zero] <;> rfl) (by kernel_rfl) (by kernel_rfl) (by kernel_rfl) (by exact fun _ _ _ h => h) (Or.inl ⟨by rfl, ?t20y⟩) hHeld ?t20r
        case t20y => intro w hSw; (try dsimp only at hSw); go_simp <;> rfl
        simp only [Act.put, List.setIfInBounds_toArray, List.set_cons_zero, List.set_cons_succ]
        refine wpAnyH_take (i := 28) (v := ?t21v) (by simp only [List.getElem?_toArray, List.getElem?_cons_succ, List.getElem?_cons_zero] <;> rfl) (by kernel_rfl) (by kernel_rfl) (by kernel_rfl) (by exact fun _ _ _ h => h) (Or.inl ⟨by rfl, ?t21y⟩) hHeld ?t21r
        case t21y => intro w hSw; (try dsimp only at hSw); go_simp <;> rfl
        simp only [Act.put, List.setIfInBounds_toArray, List.set_cons_zero, List.set_cons_succ]
        refine wpAnyH_take (i := 29) (v := ?t22v) (by simp only [List.getElem?_toArray, List.getElem?_cons_succ, List.getElem?_cons_zero] <;> rfl) (by kernel_rfl) (by kernel_rfl) (by kernel_rfl) (by exact fun _ _ _ h => h) (Or.inl ⟨by rfl, ?t22y⟩) hHeld ?t22r
        case t22y => intro w hSw; (try dsimp only at hSw); go_simp <;> rfl
        simp only [Act.put, List.setIfInBounds_toArray, List.set_cons_zero, List.set_cons_succ]
        refine wpAnyH_take (i := 31) (v := ?t23v) (by simp only [List.getElem?_toArray, List.getElem?_cons_succ, List.getElem?_cons_zero] <;> rfl) (by kernel_rfl) (by kernel_rfl) (by kernel_rfl) (by exact fun _ _ _ h => h) (Or.inl ⟨by rfl, ?t23y⟩) hHeld ?t23r
        case t23y => intro w hSw; (try dsimp only at hSw); go_simp <;> rfl
        simp only [Act.put, List.setIfInBounds_toArray, List.set_cons_zero, List.set_cons_succ]
        refine wpAnyH_take (i := 32) (v := ?t24v) (by simp only [List.getElem?_toArray, List.getElem?_cons_succ, List.getElem?_cons_zero] <;> rfl) (by kernel_rfl) (by kernel_rfl) (by kernel_rfl) (by exact fun _ _ _ h => h) (Or.inl ⟨by rfl, ?t24y⟩) hHeld ?t24r
        case t24y => intro w hSw; (try dsimp only at hSw); go_simp <;> rfl
        simp only [Act.put, List.setIfInBounds_toArray, List.set_cons_zero, List.set_cons_succ]
        refine wpAnyH_take (i := 33) (v := ?t25v) (by simp only [List.getElem?_toArray, List.getElem?_cons_succ, List.getElem?_cons_zero] <;> rfl) (by kernel_rfl) (by kernel_rfl) (by kernel_rfl) (by exact fun _ _ _ h => h) (Or.inl ⟨by rfl, ?t25y⟩) hHeld ?t25r
        case t25y => intro w hSw; (try dsimp only at hSw); go_simp <;> rfl
        simp only [Act.put, List.setIfInBounds_toArray, List.set_cons_zero, List.set_cons_succ]
        refine wpAnyH_take (i := 34) (v := ?t26v) (by simp only [List.getElem?_toArray, List.getElem?_cons_succ, List.getElem?_cons_zero] <;> rfl) (by kernel_rfl) (by kernel_rfl) (by kernel_rfl) (by exact fun _ _ _ h => h) (Or.inl ⟨by rfl, ?t26y⟩) hHeld ?t26r
        case t26y => intro w hSw; (try dsimp only at hSw); go_simp <;> rfl
        simp only [Act.put, List.setIfInBounds_toArray, List.set_cons_zero, List.set_cons_succ]
        refine wpAnyH_ready (rs := [30]) (by kernel_rfl) (by simp) ?_
        refine AllReadyH.cons (by simp only [List.getElem?_toArray, List.getElem?_cons_succ, List.getElem?_cons_zero] <;> rfl) (fun K hK => ?_) AllReadyH.nil
        go_simp
        refine (ftold_any h8 HZ.out.2).mono ?_
        rintro e w' ⟨rfl, rfl⟩
        go_wp2_with fail
        refine hK.out _ _ ⟨c8, g8⟩ (fun hHeld => ?_)
        clear hK K
        refine wpAnyH_take (i := 35) (v := ?t27v) (by simp only [List.getElem?_toArray, List.getElem?_cons_succ, List.getElem?_cons_zero] <;> rfl) (by kernel_rfl) (by kernel_rfl) (by kernel_rfl) (by exact fun _ _ _ h => h) (Or.inl ⟨by rfl, ?t27y⟩) hHeld ?t27r
        case t27y => intro w hSw; (try dsimp only at hSw); go_simp <;> rfl
        simp only [Act.put, List.setIfInBounds_toArray, List.set_cons_zero, List.set_cons_succ]
        refine wpAnyH_take (i := 36) (v := ?t28v) (by simp only [List.getElem?_toArray, List.getElem?_cons_succ, List.getElem?_cons_zero] <;> rfl) (by kernel_rfl) (by kernel_rfl) (by kernel_rfl) (by exact fun _ _ _ h => h) (Or.inl ⟨by rfl, ?t28y⟩) hHeld ?t28r
        case t28y => intro w hSw; (try dsimp only at hSw); go_simp <;> rfl
        simp only [Act.put, List.setIfInBounds_toArray, List.set_cons_zero, List.set_cons_succ]
        refine wpAnyH_done (by kernel_rfl) ?_ _
        go_wp2_with fail
        go_roundw
        case rel => exact ⟨k + 1, P', by go_num, by omega, HP.out, h8, r8, K8⟩
        case measure => simp [intOf]; omega
      · have i1 : ¬ (k : Int) < l.length := by omega
        go_wp2
        go_ret
        exact ⟨rfl, hK⟩
end Go.Proofs.Ytmgfalkelembkaa
