/-
  The contract of the document's own Encode of frames, proved over this seat's translation.
  Conditions: a text takes at most the greatest length that a string may have.
-/
import Derived.Test.YtaleennijfefnaaGreatRefFrame2
import Derived.Test.YtaleennijfefnaaGreatHeld
namespace Go.Proofs.YtaleennijfefnaaGreat
open Go.RowKit

set_option maxRecDepth 100000 in
set_option maxHeartbeats 4000000 in
theorem rencode7_ok1 (w : World) (v k : UInt8) (p : ByteArray) (hn : (v.toNat : Int) = 1) (h1 : ¬ 65536 < p.size) :
    Calls Tryz.prog 16 #[fr (v.toNat : Int) (k.toNat : Int) p] w fun e w' => e = .returned (.tuple #[.string (fEnc v k p), .int .i64 0]) ∧ Keep0 w w' := by
  have e1 : ((v.toNat : Int) != 1) = false := by rw [hn]; rfl
  have h1' : ¬ (65536 : Int) < p.size := by omega
  have hsz : (p.size : Int) ≤ 65536 := by omega
  have hwr : IntKind.u64.wrap (p.size : Int) = p.size := by rw [IntKind.wrap_u64]; omega
  have f0 := FrAt.new w (v.toNat : Int) (k.toNat : Int) p 31
  have k0 : Keep0 w (w.alloc (.cells #[.int .u8 (v.toNat : Int), .int .u8 (k.toNat : Int), .string p] 31)) := (Keep.refl _ w).alloc _
  obtain ⟨d0, d1, d2, d3, d4, d5⟩ := f0.cells
  have y := fun W => rencode_any p.size W (by omega)
  have hcv : ∀ (W : World) (g : Nat), W.cell? ⟨g, 0, none⟩ = some (.int .u8 (v.toNat : Int)) → W.cell? ⟨g, 1, none⟩ = some (.int .u8 (k.toNat : Int)) → (convert 58 9 (.slice (some ⟨g, 0, none⟩) 2 2)).run Tryz.prog W = .ok (.string (one v ++ one k)) W :=
    fun W g hc hc1 => run_two (src := 58) (dst := 9) Tryz.underlying58 Tryz.underlying9 W g v k hc hc1
  have hv2 : (one v ++ one k).size = 2 := by rw [ByteArray.size_append, one_size, one_size]
  have hvt := vText_le (n := p.size) (by omega)
  have z1 : (one v ++ one k).size + (vText p.size).size ≤ 4611686018427387904 := by omega
  have z2 : (one v ++ one k ++ vText p.size).size + p.size ≤ 4611686018427387904 := by rw [ByteArray.size_append]; omega
  have z3 : (one v ++ one k).size + (vText p.size).size + p.size ≤ 4611686018427387904 := by omega
  have hB : (one v ++ one k ++ vText p.size ++ p).size = (one v ++ one k).size + (vText p.size).size + p.size := by rw [ByteArray.size_append, ByteArray.size_append]
  have x1 : ¬ 9223372036854775807 < 2 + (vText p.size).size := by omega
  have x2 : ¬ 9223372036854775807 < 2 + (vText p.size).size + p.size := by omega
  have hfin := fEnc_left v k p
  have hlt : cSum (one v ++ one k ++ vText p.size ++ p).data.toList < 4294967296 := cMore_lt 0 _
  have hbt : (bText 4 (cSum (one v ++ one k ++ vText p.size ++ p).data.toList)).size = 4 := bText_size _ _
  have hsum := fun W => rsum5_any W (one v ++ one k ++ vText p.size ++ p) (by unfold maxLen; omega)
  have hput := fun W b (h : RPen W b ⟨#[]⟩ 4 0) => rput4_any 4 (cSum (one v ++ one k ++ vText p.size ++ p).data.toList) (by omega) h (by decide)
  rw [bText4_put hlt] at hput
  have hnew := fun W => rpnew_any W 4
  have h4 : pMax 4 = 4 := rfl
  rw [h4] at hnew
  clear h4
  have e215 : (⟨#[215, 78]⟩ : ByteArray).size = 2 := rfl
  have HF : Hid ((⟨#[215, 78]⟩ : ByteArray) ++ (one v ++ one k ++ vText p.size ++ p) ++ bText 4 (cSum (one v ++ one k ++ vText p.size ++ p).data.toList) = fEnc v k p) := hfin
  clear hfin
  generalize cSum (one v ++ one k ++ vText p.size ++ p).data.toList = N at *
  generalize bText 4 N = BT at *
  generalize fEnc v k p = F at *
  generalize one v ++ one k = D at *
  unfold fr
  clear hn h1
  go_enter Tryz.func16, Tryz.ntmps16
  go_wp2_with fail
  generalize w.alloc (.cells #[.int .u8 (v.toNat : Int), .int .u8 (k.toNat : Int), .string p] 31) = W0 at *
  generalize w.heap.size = g at *
  clear d3 d4 d5 f0
  have kD : Keep0 w W0.drew := k0.drew
  have d0 : W0.drew.cell? ⟨g, 0, none⟩ = some (.int .u8 (v.toNat : Int)) := d0
  have d1 : W0.drew.cell? ⟨g, 1, none⟩ = some (.int .u8 (k.toNat : Int)) := d1
  have d2 : W0.drew.cell? ⟨g, 2, none⟩ = some (.string p) := d2
  refine wp_region_held_drew (S := fun w' => w'.cell? ⟨g, 0, none⟩ = some (.int .u8 (v.toNat : Int)) ∧ w'.cell? ⟨g, 1, none⟩ = some (.int .u8 (k.toNat : Int)) ∧ w'.cell? ⟨g, 2, none⟩ = some (.string p)) (by kernel_rfl) ⟨d0, d1, d2⟩ (fun hHeld => ?_)
  generalize W0.drew = WD at *
  clear k0
  refine wpAnyH_take (i := 0) (v := ?t0v) (by simp only [List.getElem?_toArray, List.getElem?_cons_zero] <;> rfl) (by kernel_rfl) (by kernel_rfl) (by kernel_rfl) (by exact fun _ _ _ h => h) (Or.inl ⟨by rfl, ?t0y⟩) hHeld ?t0r
  case t0y => intro w hSw; (try dsimp only at hSw); go_simp <;> rfl
  simp only [Act.put, List.setIfInBounds_toArray, List.set_cons_zero, List.set_cons_succ]
  refine wpAnyH_take (i := 1) (v := ?t1v) (by simp only [List.getElem?_toArray, List.getElem?_cons_succ, List.getElem?_cons_zero] <;> rfl) (by kernel_rfl) (by kernel_rfl) (by kernel_rfl) (by exact fun _ _ _ h => h) (Or.inl ⟨by rfl, ?t1y⟩) hHeld ?t1r
  case t1y => intro w hSw; (try dsimp only at hSw); go_simp <;> rfl
  simp only [Act.put, List.setIfInBounds_toArray, List.set_cons_zero, List.set_cons_succ]
  refine wpAnyH_take (i := 2) (v := ?t2v) (by simp only [List.getElem?_toArray, List.getElem?_cons_succ, List.getElem?_cons_zero] <;> rfl) (by kernel_rfl) (by kernel_rfl) (by kernel_rfl) (by exact fun _ _ _ h => h) (Or.inl ⟨by rfl, ?t2y⟩) hHeld ?t2r
  case t2y => intro w hSw; (try dsimp only at hSw); go_simp <;> rfl
  simp only [Act.put, List.setIfInBounds_toArray, List.set_cons_zero, List.set_cons_succ]
  refine wpAnyH_take (i := 3) (v := ?t3v) (by simp only [List.getElem?_toArray, List.getElem?_cons_succ, List.getElem?_cons_zero] <;> rfl) (by kernel_rfl) (by kernel_rfl) (by kernel_rfl) (by exact fun _ _ _ h => h) (Or.inl ⟨by rfl, ?t3y⟩) hHeld ?t3r
  case t3y => intro w hSw; (try dsimp only at hSw); go_simp <;> rfl
  simp only [Act.put, List.setIfInBounds_toArray, List.set_cons_zero, List.set_cons_succ]
  refine wpAnyH_take (i := 6) (v := ?t4v) (by simp only [List.getElem?_toArray, List.getElem?_cons_succ, List.getElem?_cons_zero] <;> rfl) (by kernel_rfl) (by kernel_rfl) (by kernel_rfl) (by exact fun _ _ _ h => h) (Or.inl ⟨by rfl, ?t4y⟩) hHeld ?t4r
  case t4y => intro w hSw; (try dsimp only at hSw); go_simp <;> rfl
  simp only [Act.put, List.setIfInBounds_toArray, List.set_cons_zero, List.set_cons_succ]
  refine wpAnyH_take (i := 7) (v := ?t5v) (by simp only [List.getElem?_toArray, List.getElem?_cons_succ, List.getElem?_cons_zero] <;> rfl) (by kernel_rfl) (by kernel_rfl) (by kernel_rfl) (by exact fun _ _ _ h => h) (Or.inl ⟨by rfl, ?t5y⟩) hHeld ?t5r
  case t5y => intro w hSw; (try dsimp only at hSw); go_simp <;> rfl
  simp only [Act.put, List.setIfInBounds_toArray, List.set_cons_zero, List.set_cons_succ]
  refine wpAnyH_take (i := 8) (v := ?t6v) (by simp only [List.getElem?_toArray, List.getElem?_cons_succ, List.getElem?_cons_zero] <;> rfl) (by kernel_rfl) (by kernel_rfl) (by kernel_rfl) (by exact fun _ _ _ h => h) (Or.inl ⟨by rfl, ?t6y⟩) hHeld ?t6r
  case t6y => intro w hSw; (try dsimp only at hSw); go_simp <;> rfl
  simp only [Act.put, List.setIfInBounds_toArray, List.set_cons_zero, List.set_cons_succ]
  refine wpAnyH_take (i := 9) (v := ?t7v) (by simp only [List.getElem?_toArray, List.getElem?_cons_succ, List.getElem?_cons_zero] <;> rfl) (by kernel_rfl) (by kernel_rfl) (by kernel_rfl) (by exact fun _ _ _ h => h) (Or.inl ⟨by rfl, ?t7y⟩) hHeld ?t7r
  case t7y => intro w hSw; (try dsimp only at hSw); go_simp <;> rfl
  simp only [Act.put, List.setIfInBounds_toArray, List.set_cons_zero, List.set_cons_succ]
  refine wpAnyH_take (i := 12) (v := ?t8v) (by simp only [List.getElem?_toArray, List.getElem?_cons_succ, List.getElem?_cons_zero] <;> rfl) (by kernel_rfl) (by kernel_rfl) (by kernel_rfl) (by exact fun _ _ _ h => h) (Or.inl ⟨by rfl, ?t8y⟩) hHeld ?t8r
  case t8y => intro w hSw; (try dsimp only at hSw); go_simp <;> rfl
  simp only [Act.put, List.setIfInBounds_toArray, List.set_cons_zero, List.set_cons_succ]
  refine wpAnyH_take (i := 13) (v := ?t9v) (by simp only [List.getElem?_toArray, List.getElem?_cons_succ, List.getElem?_cons_zero] <;> rfl) (by kernel_rfl) (by kernel_rfl) (by kernel_rfl) (by exact fun _ _ _ h => h) (Or.inl ⟨by rfl, ?t9y⟩) hHeld ?t9r
  case t9y => intro w hSw; (try dsimp only at hSw); go_simp <;> rfl
  simp only [Act.put, List.setIfInBounds_toArray, List.set_cons_zero, List.set_cons_succ]
  refine wpAnyH_ready (rs := [4, 10]) (by kernel_rfl) (by simp) ?_
  refine AllReadyH.cons (by simp only [List.getElem?_toArray, List.getElem?_cons_succ, List.getElem?_cons_zero] <;> rfl) (fun K hK => ?_) (AllReadyH.cons (by simp only [List.getElem?_toArray, List.getElem?_cons_succ, List.getElem?_cons_zero] <;> rfl) (fun K hK => ?_) AllReadyH.nil)
  · go_simp
    have k4 : Keep0 WD (WD.alloc (.cells #[.int .u8 (v.toNat : Int), .int .u8 (k.toNat : Int)] 5)) := (Keep.refl _ _).alloc _
    have n4 := cell_alloc WD (c := #[.int .u8 (v.toNat : Int), .int .u8 (k.toNat : Int)]) 5 (i := 0) rfl
    have m4 := cell_alloc WD (c := #[.int .u8 (v.toNat : Int), .int .u8 (k.toNat : Int)]) 5 (i := 1) rfl
    refine hK.out _ _ ⟨k4.cell d0 (fun f => f), k4.cell d1 (fun f => f), k4.cell d2 (fun f => f)⟩ (fun hHeld => ?_)
    clear hK K
    have K4 := kD.step0 k4
    have hs4 := hHeld
    clear hHeld
    refine wpAnyH_strong (S' := fun w' => (w'.cell? ⟨g, 0, none⟩ = some (.int .u8 (v.toNat : Int)) ∧ w'.cell? ⟨g, 1, none⟩ = some (.int .u8 (k.toNat : Int)) ∧ w'.cell? ⟨g, 2, none⟩ = some (.string p)) ∧ w'.cell? ⟨WD.heap.size, 0, none⟩ = some (.int .u8 (v.toNat : Int)) ∧ w'.cell? ⟨WD.heap.size, 1, none⟩ = some (.int .u8 (k.toNat : Int))) (fun _ h => h.1) ⟨hs4, n4, m4⟩ (fun hHeld => ?_)
    generalize WD.alloc (.cells #[.int .u8 (v.toNat : Int), .int .u8 (k.toNat : Int)] 5) = W4 at *
    refine wpAnyH_take (i := 5) (v := ?x0v) (by simp only [List.getElem?_toArray, List.getElem?_cons_succ, List.getElem?_cons_zero] <;> rfl) (by kernel_rfl) (by kernel_rfl) (by kernel_rfl) (by exact fun _ _ _ h => h) (Or.inl ⟨by rfl, ?x0y⟩) hHeld ?x0r
    case x0y => intro w hSw; (try dsimp only at hSw); go_simp <;> rfl
    simp only [Act.put, List.setIfInBounds_toArray, List.set_cons_zero, List.set_cons_succ]
    refine wpAnyH_ready (rs := [10]) (by kernel_rfl) (by simp) ?_
    refine AllReadyH.cons (by simp only [List.getElem?_toArray, List.getElem?_cons_succ, List.getElem?_cons_zero] <;> rfl) (fun K hK => ?_) AllReadyH.nil
    go_simp
    refine (y _).mono ?_
    rintro e w1 ⟨rfl, k1⟩
    have K1 := K4.step0 k1
    go_wp2_with fail
    refine hK.out _ _ ⟨⟨k1.cell hs4.1 (fun f => f), k1.cell hs4.2.1 (fun f => f), k1.cell hs4.2.2 (fun f => f)⟩, k1.cell n4 (fun f => f), k1.cell m4 (fun f => f)⟩ (fun hHeld => ?_)
    clear hK K
    refine wpAnyH_take (i := 11) (v := ?x1v) (by simp only [List.getElem?_toArray, List.getElem?_cons_succ, List.getElem?_cons_zero] <;> rfl) (by kernel_rfl) (by kernel_rfl) (by kernel_rfl) (by exact fun _ _ _ h => h) (Or.inl ⟨by rfl, ?x1y⟩) hHeld ?x1r
    case x1y => intro w hSw; (try dsimp only at hSw); go_simp <;> rfl
    simp only [Act.put, List.setIfInBounds_toArray, List.set_cons_zero, List.set_cons_succ]
    refine wpAnyH_take (i := 14) (v := ?x2v) (by simp only [List.getElem?_toArray, List.getElem?_cons_succ, List.getElem?_cons_zero] <;> rfl) (by kernel_rfl) (by kernel_rfl) (by kernel_rfl) (by exact fun _ _ _ h => h) (Or.inl ⟨by rfl, ?x2y⟩) hHeld ?x2r
    case x2y => intro w hSw; (try dsimp only at hSw); go_simp <;> rfl
    simp only [Act.put, List.setIfInBounds_toArray, List.set_cons_zero, List.set_cons_succ]
    refine wpAnyH_take (i := 15) (v := ?x3v) (by simp only [List.getElem?_toArray, List.getElem?_cons_succ, List.getElem?_cons_zero] <;> rfl) (by kernel_rfl) (by kernel_rfl) (by kernel_rfl) (by exact fun _ _ _ h => h) (Or.inl ⟨by rfl, ?x3y⟩) hHeld ?x3r
    case x3y => intro w hSw; (try dsimp only at hSw); go_simp <;> rfl
    simp only [Act.put, List.setIfInBounds_toArray, List.set_cons_zero, List.set_cons_succ]
    refine wpAnyH_done (by kernel_rfl) ?_ _
    clear hHeld
    have s1 := K1.size
    generalize D ++ vText p.size ++ p = B at *
    have y1 : (⟨#[215, 78]⟩ : ByteArray).size + B.size ≤ 4611686018427387904 := by rw [e215]; omega
    have y2 : ((⟨#[215, 78]⟩ : ByteArray) ++ B).size + BT.size ≤ 4611686018427387904 := by rw [ByteArray.size_append, e215]; omega
    have y3 : (⟨#[215, 78]⟩ : ByteArray).size + B.size + BT.size ≤ 4611686018427387904 := by rw [e215]; omega
    have y4 : ¬ 9223372036854775807 < 2 + B.size := by omega
    have y5 : ¬ 9223372036854775807 < 2 + B.size + BT.size := by omega
    clear hB hbt hwr z1 z2 z3 hvt y e215
    go_wp2_with fail
    refine (hnew _).mono ?_
    rintro e w5 ⟨rfl, h5, k5⟩
    have K5 := K1.step0 k5
    clear hnew
    go_wp2_with fail
    refine (hsum _).mono ?_
    rintro e w' ⟨rfl, rfl⟩
    clear hsum
    go_wp2_with fail
    refine (hput _ _ h5).mono ?_
    rintro e w6 ⟨rfl, h6, k6⟩
    have K6 := K5.step1 k6 s1
    obtain ⟨j0, j1, j2, j3, j4⟩ := h6.cells
    clear hput h5 k5 k6 K5
    go_wp2
    go_ret2
    refine ⟨?_, K6⟩
    rw [← HF.out]
    rfl
  · go_simp
    refine (y _).mono ?_
    rintro e w1 ⟨rfl, k1⟩
    have K1 := kD.step0 k1
    go_wp2_with fail
    refine hK.out _ _ ⟨k1.cell d0 (fun f => f), k1.cell d1 (fun f => f), k1.cell d2 (fun f => f)⟩ (fun hHeld => ?_)
    clear hK K
    have hs1 := hHeld
    refine wpAnyH_ready (rs := [4]) (by kernel_rfl) (by simp) ?_
    refine AllReadyH.cons (by simp only [List.getElem?_toArray, List.getElem?_cons_succ, List.getElem?_cons_zero] <;> rfl) (fun K hK => ?_) AllReadyH.nil
    go_simp
    have k4 : Keep0 w1 (w1.alloc (.cells #[.int .u8 (v.toNat : Int), .int .u8 (k.toNat : Int)] 5)) := (Keep.refl _ _).alloc _
    have n4 := cell_alloc w1 (c := #[.int .u8 (v.toNat : Int), .int .u8 (k.toNat : Int)]) 5 (i := 0) rfl
    have m4 := cell_alloc w1 (c := #[.int .u8 (v.toNat : Int), .int .u8 (k.toNat : Int)]) 5 (i := 1) rfl
    refine hK.out _ _ ⟨k4.cell hs1.1 (fun f => f), k4.cell hs1.2.1 (fun f => f), k4.cell hs1.2.2 (fun f => f)⟩ (fun hHeld => ?_)
    clear hK K
    have K4 := K1.step0 k4
    have hs4 := hHeld
    clear hHeld
    refine wpAnyH_strong (S' := fun w' => (w'.cell? ⟨g, 0, none⟩ = some (.int .u8 (v.toNat : Int)) ∧ w'.cell? ⟨g, 1, none⟩ = some (.int .u8 (k.toNat : Int)) ∧ w'.cell? ⟨g, 2, none⟩ = some (.string p)) ∧ w'.cell? ⟨w1.heap.size, 0, none⟩ = some (.int .u8 (v.toNat : Int)) ∧ w'.cell? ⟨w1.heap.size, 1, none⟩ = some (.int .u8 (k.toNat : Int))) (fun _ h => h.1) ⟨hs4, n4, m4⟩ (fun hHeld => ?_)
    clear K1
    have K1 := K4
    generalize w1.alloc (.cells #[.int .u8 (v.toNat : Int), .int .u8 (k.toNat : Int)] 5) = W4 at *
    refine wpAnyH_take (i := 5) (v := ?z0v) (by simp only [List.getElem?_toArray, List.getElem?_cons_succ, List.getElem?_cons_zero] <;> rfl) (by kernel_rfl) (by kernel_rfl) (by kernel_rfl) (by exact fun _ _ _ h => h) (Or.inl ⟨by rfl, ?z0y⟩) hHeld ?z0r
    case z0y => intro w hSw; (try dsimp only at hSw); go_simp <;> rfl
    simp only [Act.put, List.setIfInBounds_toArray, List.set_cons_zero, List.set_cons_succ]
    refine wpAnyH_take (i := 11) (v := ?z1v) (by simp only [List.getElem?_toArray, List.getElem?_cons_succ, List.getElem?_cons_zero] <;> rfl) (by kernel_rfl) (by kernel_rfl) (by kernel_rfl) (by exact fun _ _ _ h => h) (Or.inl ⟨by rfl, ?z1y⟩) hHeld ?z1r
    case z1y => intro w hSw; (try dsimp only at hSw); go_simp <;> rfl
    simp only [Act.put, List.setIfInBounds_toArray, List.set_cons_zero, List.set_cons_succ]
    refine wpAnyH_take (i := 14) (v := ?z2v) (by simp only [List.getElem?_toArray, List.getElem?_cons_succ, List.getElem?_cons_zero] <;> rfl) (by kernel_rfl) (by kernel_rfl) (by kernel_rfl) (by exact fun _ _ _ h => h) (Or.inl ⟨by rfl, ?z2y⟩) hHeld ?z2r
    case z2y => intro w hSw; (try dsimp only at hSw); go_simp <;> rfl
    simp only [Act.put, List.setIfInBounds_toArray, List.set_cons_zero, List.set_cons_succ]
    refine wpAnyH_take (i := 15) (v := ?z3v) (by simp only [List.getElem?_toArray, List.getElem?_cons_succ, List.getElem?_cons_zero] <;> rfl) (by kernel_rfl) (by kernel_rfl) (by kernel_rfl) (by exact fun _ _ _ h => h) (Or.inl ⟨by rfl, ?z3y⟩) hHeld ?z3r
    case z3y => intro w hSw; (try dsimp only at hSw); go_simp <;> rfl
    simp only [Act.put, List.setIfInBounds_toArray, List.set_cons_zero, List.set_cons_succ]
    refine wpAnyH_done (by kernel_rfl) ?_ _
    clear hHeld
    have s1 := K1.size
    generalize D ++ vText p.size ++ p = B at *
    have y1 : (⟨#[215, 78]⟩ : ByteArray).size + B.size ≤ 4611686018427387904 := by rw [e215]; omega
    have y2 : ((⟨#[215, 78]⟩ : ByteArray) ++ B).size + BT.size ≤ 4611686018427387904 := by rw [ByteArray.size_append, e215]; omega
    have y3 : (⟨#[215, 78]⟩ : ByteArray).size + B.size + BT.size ≤ 4611686018427387904 := by rw [e215]; omega
    have y4 : ¬ 9223372036854775807 < 2 + B.size := by omega
    have y5 : ¬ 9223372036854775807 < 2 + B.size + BT.size := by omega
    clear hB hbt hwr z1 z2 z3 hvt y e215
    go_wp2_with fail
    refine (hnew _).mono ?_
    rintro e w5 ⟨rfl, h5, k5⟩
    have K5 := K1.step0 k5
    clear hnew
    go_wp2_with fail
    refine (hsum _).mono ?_
    rintro e w' ⟨rfl, rfl⟩
    clear hsum
    go_wp2_with fail
    refine (hput _ _ h5).mono ?_
    rintro e w6 ⟨rfl, h6, k6⟩
    have K6 := K5.step1 k6 s1
    obtain ⟨j0, j1, j2, j3, j4⟩ := h6.cells
    clear hput h5 k5 k6 K5
    go_wp2
    go_ret2
    refine ⟨?_, K6⟩
    rw [← HF.out]
    rfl
set_option maxRecDepth 100000 in
set_option maxHeartbeats 4000000 in
theorem rencode7_ok2 (w : World) (v k : UInt8) (p : ByteArray) (hn : (v.toNat : Int) = 2) (h1 : ¬ 65536 < p.size) :
    Calls Tryz.prog 16 #[fr (v.toNat : Int) (k.toNat : Int) p] w fun e w' => e = .returned (.tuple #[.string (fEnc v k p), .int .i64 0]) ∧ Keep0 w w' := by
  have e1 : ((v.toNat : Int) != 1) = true := by rw [hn]; rfl
  have e2 : ((v.toNat : Int) != 2) = false := by rw [hn]; rfl
  have h1' : ¬ (65536 : Int) < p.size := by omega
  have hsz : (p.size : Int) ≤ 65536 := by omega
  have hwr : IntKind.u64.wrap (p.size : Int) = p.size := by rw [IntKind.wrap_u64]; omega
  have f0 := FrAt.new w (v.toNat : Int) (k.toNat : Int) p 31
  have k0 : Keep0 w (w.alloc (.cells #[.int .u8 (v.toNat : Int), .int .u8 (k.toNat : Int), .string p] 31)) := (Keep.refl _ w).alloc _
  obtain ⟨d0, d1, d2, d3, d4, d5⟩ := f0.cells
  have y := fun W => rencode_any p.size W (by omega)
  have hcv : ∀ (W : World) (g : Nat), W.cell? ⟨g, 0, none⟩ = some (.int .u8 (v.toNat : Int)) → W.cell? ⟨g, 1, none⟩ = some (.int .u8 (k.toNat : Int)) → (convert 58 9 (.slice (some ⟨g, 0, none⟩) 2 2)).run Tryz.prog W = .ok (.string (one v ++ one k)) W :=
    fun W g hc hc1 => run_two (src := 58) (dst := 9) Tryz.underlying58 Tryz.underlying9 W g v k hc hc1
  have hv2 : (one v ++ one k).size = 2 := by rw [ByteArray.size_append, one_size, one_size]
  have hvt := vText_le (n := p.size) (by omega)
  have z1 : (one v ++ one k).size + (vText p.size).size ≤ 4611686018427387904 := by omega
  have z2 : (one v ++ one k ++ vText p.size).size + p.size ≤ 4611686018427387904 := by rw [ByteArray.size_append]; omega
  have z3 : (one v ++ one k).size + (vText p.size).size + p.size ≤ 4611686018427387904 := by omega
  have hB : (one v ++ one k ++ vText p.size ++ p).size = (one v ++ one k).size + (vText p.size).size + p.size := by rw [ByteArray.size_append, ByteArray.size_append]
  have x1 : ¬ 9223372036854775807 < 2 + (vText p.size).size := by omega
  have x2 : ¬ 9223372036854775807 < 2 + (vText p.size).size + p.size := by omega
  have hfin := fEnc_left v k p
  have hlt : cSum (one v ++ one k ++ vText p.size ++ p).data.toList < 4294967296 := cMore_lt 0 _
  have hbt : (bText 4 (cSum (one v ++ one k ++ vText p.size ++ p).data.toList)).size = 4 := bText_size _ _
  have hsum := fun W => rsum5_any W (one v ++ one k ++ vText p.size ++ p) (by unfold maxLen; omega)
  have hput := fun W b (h : RPen W b ⟨#[]⟩ 4 0) => rput4_any 4 (cSum (one v ++ one k ++ vText p.size ++ p).data.toList) (by omega) h (by decide)
  rw [bText4_put hlt] at hput
  have hnew := fun W => rpnew_any W 4
  have h4 : pMax 4 = 4 := rfl
  rw [h4] at hnew
  clear h4
  have e215 : (⟨#[215, 78]⟩ : ByteArray).size = 2 := rfl
  have HF : Hid ((⟨#[215, 78]⟩ : ByteArray) ++ (one v ++ one k ++ vText p.size ++ p) ++ bText 4 (cSum (one v ++ one k ++ vText p.size ++ p).data.toList) = fEnc v k p) := hfin
  clear hfin
  generalize cSum (one v ++ one k ++ vText p.size ++ p).data.toList = N at *
  generalize bText 4 N = BT at *
  generalize fEnc v k p = F at *
  generalize one v ++ one k = D at *
  unfold fr
  clear hn h1
  go_enter Tryz.func16, Tryz.ntmps16
  go_wp2_with fail
  generalize w.alloc (.cells #[.int .u8 (v.toNat : Int), .int .u8 (k.toNat : Int), .string p] 31) = W0 at *
  generalize w.heap.size = g at *
  clear d3 d4 d5 f0
  have kD : Keep0 w W0.drew := k0.drew
  have d0 : W0.drew.cell? ⟨g, 0, none⟩ = some (.int .u8 (v.toNat : Int)) := d0
  have d1 : W0.drew.cell? ⟨g, 1, none⟩ = some (.int .u8 (k.toNat : Int)) := d1
  have d2 : W0.drew.cell? ⟨g, 2, none⟩ = some (.string p) := d2
  refine wp_region_held_drew (S := fun w' => w'.cell? ⟨g, 0, none⟩ = some (.int .u8 (v.toNat : Int)) ∧ w'.cell? ⟨g, 1, none⟩ = some (.int .u8 (k.toNat : Int)) ∧ w'.cell? ⟨g, 2, none⟩ = some (.string p)) (by kernel_rfl) ⟨d0, d1, d2⟩ (fun hHeld => ?_)
  generalize W0.drew = WD at *
  clear k0
  refine wpAnyH_take (i := 0) (v := ?t0v) (by simp only [List.getElem?_toArray, List.getElem?_cons_zero] <;> rfl) (by kernel_rfl) (by kernel_rfl) (by kernel_rfl) (by exact fun _ _ _ h => h) (Or.inl ⟨by rfl, ?t0y⟩) hHeld ?t0r
  case t0y => intro w hSw; (try dsimp only at hSw); go_simp <;> rfl
  simp only [Act.put, List.setIfInBounds_toArray, List.set_cons_zero, List.set_cons_succ]
  refine wpAnyH_take (i := 1) (v := ?t1v) (by simp only [List.getElem?_toArray, List.getElem?_cons_succ, List.getElem?_cons_zero] <;> rfl) (by kernel_rfl) (by kernel_rfl) (by kernel_rfl) (by exact fun _ _ _ h => h) (Or.inl ⟨by rfl, ?t1y⟩) hHeld ?t1r
  case t1y => intro w hSw; (try dsimp only at hSw); go_simp <;> rfl
  simp only [Act.put, List.setIfInBounds_toArray, List.set_cons_zero, List.set_cons_succ]
  refine wpAnyH_take (i := 2) (v := ?t2v) (by simp only [List.getElem?_toArray, List.getElem?_cons_succ, List.getElem?_cons_zero] <;> rfl) (by kernel_rfl) (by kernel_rfl) (by kernel_rfl) (by exact fun _ _ _ h => h) (Or.inl ⟨by rfl, ?t2y⟩) hHeld ?t2r
  case t2y => intro w hSw; (try dsimp only at hSw); go_simp <;> rfl
  simp only [Act.put, List.setIfInBounds_toArray, List.set_cons_zero, List.set_cons_succ]
  refine wpAnyH_take (i := 3) (v := ?t3v) (by simp only [List.getElem?_toArray, List.getElem?_cons_succ, List.getElem?_cons_zero] <;> rfl) (by kernel_rfl) (by kernel_rfl) (by kernel_rfl) (by exact fun _ _ _ h => h) (Or.inl ⟨by rfl, ?t3y⟩) hHeld ?t3r
  case t3y => intro w hSw; (try dsimp only at hSw); go_simp <;> rfl
  simp only [Act.put, List.setIfInBounds_toArray, List.set_cons_zero, List.set_cons_succ]
  refine wpAnyH_take (i := 6) (v := ?t4v) (by simp only [List.getElem?_toArray, List.getElem?_cons_succ, List.getElem?_cons_zero] <;> rfl) (by kernel_rfl) (by kernel_rfl) (by kernel_rfl) (by exact fun _ _ _ h => h) (Or.inl ⟨by rfl, ?t4y⟩) hHeld ?t4r
  case t4y => intro w hSw; (try dsimp only at hSw); go_simp <;> rfl
  simp only [Act.put, List.setIfInBounds_toArray, List.set_cons_zero, List.set_cons_succ]
  refine wpAnyH_take (i := 7) (v := ?t5v) (by simp only [List.getElem?_toArray, List.getElem?_cons_succ, List.getElem?_cons_zero] <;> rfl) (by kernel_rfl) (by kernel_rfl) (by kernel_rfl) (by exact fun _ _ _ h => h) (Or.inl ⟨by rfl, ?t5y⟩) hHeld ?t5r
  case t5y => intro w hSw; (try dsimp only at hSw); go_simp <;> rfl
  simp only [Act.put, List.setIfInBounds_toArray, List.set_cons_zero, List.set_cons_succ]
  refine wpAnyH_take (i := 8) (v := ?t6v) (by simp only [List.getElem?_toArray, List.getElem?_cons_succ, List.getElem?_cons_zero] <;> rfl) (by kernel_rfl) (by kernel_rfl) (by kernel_rfl) (by exact fun _ _ _ h => h) (Or.inl ⟨by rfl, ?t6y⟩) hHeld ?t6r
  case t6y => intro w hSw; (try dsimp only at hSw); go_simp <;> rfl
  simp only [Act.put, List.setIfInBounds_toArray, List.set_cons_zero, List.set_cons_succ]
  refine wpAnyH_take (i := 9) (v := ?t7v) (by simp only [List.getElem?_toArray, List.getElem?_cons_succ, List.getElem?_cons_zero] <;> rfl) (by kernel_rfl) (by kernel_rfl) (by kernel_rfl) (by exact fun _ _ _ h => h) (Or.inl ⟨by rfl, ?t7y⟩) hHeld ?t7r
  case t7y => intro w hSw; (try dsimp only at hSw); go_simp <;> rfl
  simp only [Act.put, List.setIfInBounds_toArray, List.set_cons_zero, List.set_cons_succ]
  refine wpAnyH_take (i := 12) (v := ?t8v) (by simp only [List.getElem?_toArray, List.getElem?_cons_succ, List.getElem?_cons_zero] <;> rfl) (by kernel_rfl) (by kernel_rfl) (by kernel_rfl) (by exact fun _ _ _ h => h) (Or.inl ⟨by rfl, ?t8y⟩) hHeld ?t8r
  case t8y => intro w hSw; (try dsimp only at hSw); go_simp <;> rfl
  simp only [Act.put, List.setIfInBounds_toArray, List.set_cons_zero, List.set_cons_succ]
  refine wpAnyH_take (i := 13) (v := ?t9v) (by simp only [List.getElem?_toArray, List.getElem?_cons_succ, List.getElem?_cons_zero] <;> rfl) (by kernel_rfl) (by kernel_rfl) (by kernel_rfl) (by exact fun _ _ _ h => h) (Or.inl ⟨by rfl, ?t9y⟩) hHeld ?t9r
  case t9y => intro w hSw; (try dsimp only at hSw); go_simp <;> rfl
  simp only [Act.put, List.setIfInBounds_toArray, List.set_cons_zero, List.set_cons_succ]
  refine wpAnyH_ready (rs := [4, 10]) (by kernel_rfl) (by simp) ?_
  refine AllReadyH.cons (by simp only [List.getElem?_toArray, List.getElem?_cons_succ, List.getElem?_cons_zero] <;> rfl) (fun K hK => ?_) (AllReadyH.cons (by simp only [List.getElem?_toArray, List.getElem?_cons_succ, List.getElem?_cons_zero] <;> rfl) (fun K hK => ?_) AllReadyH.nil)
  · go_simp
    have k4 : Keep0 WD (WD.alloc (.cells #[.int .u8 (v.toNat : Int), .int .u8 (k.toNat : Int)] 5)) := (Keep.refl _ _).alloc _
    have n4 := cell_alloc WD (c := #[.int .u8 (v.toNat : Int), .int .u8 (k.toNat : Int)]) 5 (i := 0) rfl
    have m4 := cell_alloc WD (c := #[.int .u8 (v.toNat : Int), .int .u8 (k.toNat : Int)]) 5 (i := 1) rfl
    refine hK.out _ _ ⟨k4.cell d0 (fun f => f), k4.cell d1 (fun f => f), k4.cell d2 (fun f => f)⟩ (fun hHeld => ?_)
    clear hK K
    have K4 := kD.step0 k4
    have hs4 := hHeld
    clear hHeld
    refine wpAnyH_strong (S' := fun w' => (w'.cell? ⟨g, 0, none⟩ = some (.int .u8 (v.toNat : Int)) ∧ w'.cell? ⟨g, 1, none⟩ = some (.int .u8 (k.toNat : Int)) ∧ w'.cell? ⟨g, 2, none⟩ = some (.string p)) ∧ w'.cell? ⟨WD.heap.size, 0, none⟩ = some (.int .u8 (v.toNat : Int)) ∧ w'.cell? ⟨WD.heap.size, 1, none⟩ = some (.int .u8 (k.toNat : Int))) (fun _ h => h.1) ⟨hs4, n4, m4⟩ (fun hHeld => ?_)
    generalize WD.alloc (.cells #[.int .u8 (v.toNat : Int), .int .u8 (k.toNat : Int)] 5) = W4 at *
    refine wpAnyH_take (i := 5) (v := ?x0v) (by simp only [List.getElem?_toArray, List.getElem?_cons_succ, List.getElem?_cons_zero] <;> rfl) (by kernel_rfl) (by kernel_rfl) (by kernel_rfl) (by exact fun _ _ _ h => h) (Or.inl ⟨by rfl, ?x0y⟩) hHeld ?x0r
    case x0y => intro w hSw; (try dsimp only at hSw); go_simp <;> rfl
    simp only [Act.put, List.setIfInBounds_toArray, List.set_cons_zero, List.set_cons_succ]
    refine wpAnyH_ready (rs := [10]) (by kernel_rfl) (by simp) ?_
    refine AllReadyH.cons (by simp only [List.getElem?_toArray, List.getElem?_cons_succ, List.getElem?_cons_zero] <;> rfl) (fun K hK => ?_) AllReadyH.nil
    go_simp
    refine (y _).mono ?_
    rintro e w1 ⟨rfl, k1⟩
    have K1 := K4.step0 k1
    go_wp2_with fail
    refine hK.out _ _ ⟨⟨k1.cell hs4.1 (fun f => f), k1.cell hs4.2.1 (fun f => f), k1.cell hs4.2.2 (fun f => f)⟩, k1.cell n4 (fun f => f), k1.cell m4 (fun f => f)⟩ (fun hHeld => ?_)
    clear hK K
    refine wpAnyH_take (i := 11) (v := ?x1v) (by simp only [List.getElem?_toArray, List.getElem?_cons_succ, List.getElem?_cons_zero] <;> rfl) (by kernel_rfl) (by kernel_rfl) (by kernel_rfl) (by exact fun _ _ _ h => h) (Or.inl ⟨by rfl, ?x1y⟩) hHeld ?x1r
    case x1y => intro w hSw; (try dsimp only at hSw); go_simp <;> rfl
    simp only [Act.put, List.setIfInBounds_toArray, List.set_cons_zero, List.set_cons_succ]
    refine wpAnyH_take (i := 14) (v := ?x2v) (by simp only [List.getElem?_toArray, List.getElem?_cons_succ, List.getElem?_cons_zero] <;> rfl) (by kernel_rfl) (by kernel_rfl) (by kernel_rfl) (by exact fun _ _ _ h => h) (Or.inl ⟨by rfl, ?x2y⟩) hHeld ?x2r
    case x2y => intro w hSw; (try dsimp only at hSw); go_simp <;> rfl
    simp only [Act.put, List.setIfInBounds_toArray, List.set_cons_zero, List.set_cons_succ]
    refine wpAnyH_take (i := 15) (v := ?x3v) (by simp only [List.getElem?_toArray, List.getElem?_cons_succ, List.getElem?_cons_zero] <;> rfl) (by kernel_rfl) (by kernel_rfl) (by kernel_rfl) (by exact fun _ _ _ h => h) (Or.inl ⟨by rfl, ?x3y⟩) hHeld ?x3r
    case x3y => intro w hSw; (try dsimp only at hSw); go_simp <;> rfl
    simp only [Act.put, List.setIfInBounds_toArray, List.set_cons_zero, List.set_cons_succ]
    refine wpAnyH_done (by kernel_rfl) ?_ _
    clear hHeld
    have s1 := K1.size
    generalize D ++ vText p.size ++ p = B at *
    have y1 : (⟨#[215, 78]⟩ : ByteArray).size + B.size ≤ 4611686018427387904 := by rw [e215]; omega
    have y2 : ((⟨#[215, 78]⟩ : ByteArray) ++ B).size + BT.size ≤ 4611686018427387904 := by rw [ByteArray.size_append, e215]; omega
    have y3 : (⟨#[215, 78]⟩ : ByteArray).size + B.size + BT.size ≤ 4611686018427387904 := by rw [e215]; omega
    have y4 : ¬ 9223372036854775807 < 2 + B.size := by omega
    have y5 : ¬ 9223372036854775807 < 2 + B.size + BT.size := by omega
    clear hB hbt hwr z1 z2 z3 hvt y e215
    go_wp2_with fail
    refine (hnew _).mono ?_
    rintro e w5 ⟨rfl, h5, k5⟩
    have K5 := K1.step0 k5
    clear hnew
    go_wp2_with fail
    refine (hsum _).mono ?_
    rintro e w' ⟨rfl, rfl⟩
    clear hsum
    go_wp2_with fail
    refine (hput _ _ h5).mono ?_
    rintro e w6 ⟨rfl, h6, k6⟩
    have K6 := K5.step1 k6 s1
    obtain ⟨j0, j1, j2, j3, j4⟩ := h6.cells
    clear hput h5 k5 k6 K5
    go_wp2
    go_ret2
    refine ⟨?_, K6⟩
    rw [← HF.out]
    rfl
  · go_simp
    refine (y _).mono ?_
    rintro e w1 ⟨rfl, k1⟩
    have K1 := kD.step0 k1
    go_wp2_with fail
    refine hK.out _ _ ⟨k1.cell d0 (fun f => f), k1.cell d1 (fun f => f), k1.cell d2 (fun f => f)⟩ (fun hHeld => ?_)
    clear hK K
    have hs1 := hHeld
    refine wpAnyH_ready (rs := [4]) (by kernel_rfl) (by simp) ?_
    refine AllReadyH.cons (by simp only [List.getElem?_toArray, List.getElem?_cons_succ, List.getElem?_cons_zero] <;> rfl) (fun K hK => ?_) AllReadyH.nil
    go_simp
    have k4 : Keep0 w1 (w1.alloc (.cells #[.int .u8 (v.toNat : Int), .int .u8 (k.toNat : Int)] 5)) := (Keep.refl _ _).alloc _
    have n4 := cell_alloc w1 (c := #[.int .u8 (v.toNat : Int), .int .u8 (k.toNat : Int)]) 5 (i := 0) rfl
    have m4 := cell_alloc w1 (c := #[.int .u8 (v.toNat : Int), .int .u8 (k.toNat : Int)]) 5 (i := 1) rfl
    refine hK.out _ _ ⟨k4.cell hs1.1 (fun f => f), k4.cell hs1.2.1 (fun f => f), k4.cell hs1.2.2 (fun f => f)⟩ (fun hHeld => ?_)
    clear hK K
    have K4 := K1.step0 k4
    have hs4 := hHeld
    clear hHeld
    refine wpAnyH_strong (S' := fun w' => (w'.cell? ⟨g, 0, none⟩ = some (.int .u8 (v.toNat : Int)) ∧ w'.cell? ⟨g, 1, none⟩ = some (.int .u8 (k.toNat : Int)) ∧ w'.cell? ⟨g, 2, none⟩ = some (.string p)) ∧ w'.cell? ⟨w1.heap.size, 0, none⟩ = some (.int .u8 (v.toNat : Int)) ∧ w'.cell? ⟨w1.heap.size, 1, none⟩ = some (.int .u8 (k.toNat : Int))) (fun _ h => h.1) ⟨hs4, n4, m4⟩ (fun hHeld => ?_)
    clear K1
    have K1 := K4
    generalize w1.alloc (.cells #[.int .u8 (v.toNat : Int), .int .u8 (k.toNat : Int)] 5) = W4 at *
    refine wpAnyH_take (i := 5) (v := ?z0v) (by simp only [List.getElem?_toArray, List.getElem?_cons_succ, List.getElem?_cons_zero] <;> rfl) (by kernel_rfl) (by kernel_rfl) (by kernel_rfl) (by exact fun _ _ _ h => h) (Or.inl ⟨by rfl, ?z0y⟩) hHeld ?z0r
    case z0y => intro w hSw; (try dsimp only at hSw); go_simp <;> rfl
    simp only [Act.put, List.setIfInBounds_toArray, List.set_cons_zero, List.set_cons_succ]
    refine wpAnyH_take (i := 11) (v := ?z1v) (by simp only [List.getElem?_toArray, List.getElem?_cons_succ, List.getElem?_cons_zero] <;> rfl) (by kernel_rfl) (by kernel_rfl) (by kernel_rfl) (by exact fun _ _ _ h => h) (Or.inl ⟨by rfl, ?z1y⟩) hHeld ?z1r
    case z1y => intro w hSw; (try dsimp only at hSw); go_simp <;> rfl
    simp only [Act.put, List.setIfInBounds_toArray, List.set_cons_zero, List.set_cons_succ]
    refine wpAnyH_take (i := 14) (v := ?z2v) (by simp only [List.getElem?_toArray, List.getElem?_cons_succ, List.getElem?_cons_zero] <;> rfl) (by kernel_rfl) (by kernel_rfl) (by kernel_rfl) (by exact fun _ _ _ h => h) (Or.inl ⟨by rfl, ?z2y⟩) hHeld ?z2r
    case z2y => intro w hSw; (try dsimp only at hSw); go_simp <;> rfl
    simp only [Act.put, List.setIfInBounds_toArray, List.set_cons_zero, List.set_cons_succ]
    refine wpAnyH_take (i := 15) (v := ?z3v) (by simp only [List.getElem?_toArray, List.getElem?_cons_succ, List.getElem?_cons_zero] <;> rfl) (by kernel_rfl) (by kernel_rfl) (by kernel_rfl) (by exact fun _ _ _ h => h) (Or.inl ⟨by rfl, ?z3y⟩) hHeld ?z3r
    case z3y => intro w hSw; (try dsimp only at hSw); go_simp <;> rfl
    simp only [Act.put, List.setIfInBounds_toArray, List.set_cons_zero, List.set_cons_succ]
    refine wpAnyH_done (by kernel_rfl) ?_ _
    clear hHeld
    have s1 := K1.size
    generalize D ++ vText p.size ++ p = B at *
    have y1 : (⟨#[215, 78]⟩ : ByteArray).size + B.size ≤ 4611686018427387904 := by rw [e215]; omega
    have y2 : ((⟨#[215, 78]⟩ : ByteArray) ++ B).size + BT.size ≤ 4611686018427387904 := by rw [ByteArray.size_append, e215]; omega
    have y3 : (⟨#[215, 78]⟩ : ByteArray).size + B.size + BT.size ≤ 4611686018427387904 := by rw [e215]; omega
    have y4 : ¬ 9223372036854775807 < 2 + B.size := by omega
    have y5 : ¬ 9223372036854775807 < 2 + B.size + BT.size := by omega
    clear hB hbt hwr z1 z2 z3 hvt y e215
    go_wp2_with fail
    refine (hnew _).mono ?_
    rintro e w5 ⟨rfl, h5, k5⟩
    have K5 := K1.step0 k5
    clear hnew
    go_wp2_with fail
    refine (hsum _).mono ?_
    rintro e w' ⟨rfl, rfl⟩
    clear hsum
    go_wp2_with fail
    refine (hput _ _ h5).mono ?_
    rintro e w6 ⟨rfl, h6, k6⟩
    have K6 := K5.step1 k6 s1
    obtain ⟨j0, j1, j2, j3, j4⟩ := h6.cells
    clear hput h5 k5 k6 K5
    go_wp2
    go_ret2
    refine ⟨?_, K6⟩
    rw [← HF.out]
    rfl
theorem rencode7_any (w : World) (v k : UInt8) (p : ByteArray) (hp : p.size ≤ maxLen) :
    Calls Tryz.prog 16 #[fr (v.toNat : Int) (k.toNat : Int) p] w fun e w' => e = .returned (.tuple #[.string (eTxt7 v k p), .int .i64 (eErr7 v p)]) ∧ Keep0 w w' := by
  cases hv : qV (v.toNat : Int) with
  | false =>
    rw [(e7_ver k p hv).1, (e7_ver k p hv).2]
    exact rencode7_ver w v k p hv
  | true =>
    by_cases h1 : 65536 < p.size
    · rw [(e7_long k hv h1).1, (e7_long k hv h1).2]
      exact rencode7_long w v k p hp hv h1
    · rw [(e7_ok k hv h1).1, (e7_ok k hv h1).2]
      rcases of_decide_eq_true hv with hn | hn
      · exact rencode7_ok1 w v k p hn h1
      · exact rencode7_ok2 w v k p hn h1
end Go.Proofs.YtaleennijfefnaaGreat
