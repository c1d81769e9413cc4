/-
  Contracts of package dotted's Keep and Plain, each proved over this seat's translation; and all its functions in one structure.
  Conditions: at most 100 clocks, 10,000 entries a vector; each actor takes at most the greatest length that a text may have.
-/
import Derived.Test.YtkbihpdfafapeaaDtD
import Derived.Test.YtkbihpdfafapeaaRefDot5
import Derived.Test.YtkbihpdfafapeaaQMem
namespace Go.Proofs.Ytkbihpdfafapeaa
open Go.RowKit

theorem keepTo_all (l : List Ck) (i : Nat) : keepTo l i l.length = keepAt l i := rfl
theorem keepAt_no {l : List Ck} {i j : Nat} (hj : j < l.length) (h : beats l j i = true) : keepAt l i = false := by
  unfold keepAt
  rw [List.all_eq_false]
  exact ⟨j, List.mem_range.2 hj, by rw [h]; decide⟩
set_option maxRecDepth 100000 in
set_option maxHeartbeats 8000000 in
/-- Is the clock at i dropped? -/
theorem drop12 (w : World) (ao : Option Addr) (cap C : Nat) (l : List Ck) (hl : l.length ≤ 100) (hf : ∀ k ∈ l, Ok12 k) (hc : ClksAt w ao l) (hb : w.cell? ⟨C, 0, none⟩ = some (.slice ao l.length cap)) (i : Nat) (hi : i < l.length) :
    Calls Try.prog 37 #[.int .i64 (i : Int), ptr C] w fun e w' => e = .returned (.bool (!keepAt l i)) ∧ Keep0 w w' := by
  have HC : Hid (ClksAt w ao l) := hc
  have HF : Hid (∀ k ∈ l, Ok12 k) := hf
  have hl' : (l.length : Int) ≤ 9223372036854775807 := by omega
  have i0 : (i : Int) < l.length := by omega
  obtain ⟨r, hr⟩ : ∃ r, keepAt l i = r := ⟨_, rfl⟩
  rw [hr]
  have HR : Hid (keepAt l i = r) := hr
  have HK0 : Hid (keepTo l i 0 = true) := keepTo_zero l i
  have HB : Hid (w.cell? ⟨C, 0, none⟩ = some (.slice ao l.length cap)) := hb
  clear hc hf hr
  go_enter Try.func37, Try.ntmps37
  go_wp2_with fail
  clear hb
  go_loopw [8] (fun q wr => ∃ (j : Nat), q = .int .i64 (j : Int) ∧ j ≤ l.length ∧ Hid (keepTo l i j = true) ∧ Keep0 w wr) (fun q _ => l.length - (intOf q).toNat)
  case atStart => exact ⟨0, rfl, by omega, HK0, Keep.refl _ _⟩
  case round =>
    obtain ⟨j, rfl, hj, HJ, hK⟩ := hrel
    clear HK0
    by_cases hlt : j < l.length
    · have i1 : (j : Int) < l.length := by omega
      obtain ⟨b, off, jo, jc, eao, xj, hEj⟩ := HC.out j hlt
      obtain ⟨b2, off2, ko, kc, e2, xk, hEk⟩ := HC.out i hi
      subst eao
      cases e2
      have oj := HF.out l[j] (List.getElem_mem hlt)
      have oi := HF.out l[i] (List.getElem_mem hi)
      have y1 := fun W (K : Keep0 wr W) => cover12_any W jo ko jc kc l[j].c l[i].c l[j].d l[i].d l[j].x.a l[i].x.a l[j].x.n l[i].x.n oj.ok10 oi.ok10 oj.fit.num (hEj.keep0 (hK.trans K)) (hEk.keep0 (hK.trans K))
      have y2 := fun W (K : Keep0 wr W) => cover12_any W ko jo kc jc l[i].c l[j].c l[i].d l[j].d l[i].x.a l[j].x.a l[i].x.n l[j].x.n oi.ok10 oj.ok10 oi.fit.num (hEk.keep0 (hK.trans K)) (hEj.keep0 (hK.trans K))
      have y1 : ∀ W (K : Keep0 wr W), Calls Try.prog 33 #[.agg #[.slice jo l[j].c.length jc, .bool l[j].d, .string l[j].x.a, .int .u64 (l[j].x.n : Int)], .agg #[.slice ko l[i].c.length kc, .bool l[i].d, .string l[i].x.a, .int .u64 (l[i].x.n : Int)]] W fun e w' => e = .returned (.bool (kCovers l[j] l[i])) ∧ Keep0 W w' := y1
      have y2 : ∀ W (K : Keep0 wr W), Calls Try.prog 33 #[.agg #[.slice ko l[i].c.length kc, .bool l[i].d, .string l[i].x.a, .int .u64 (l[i].x.n : Int)], .agg #[.slice jo l[j].c.length jc, .bool l[j].d, .string l[j].x.a, .int .u64 (l[j].x.n : Int)]] W fun e w' => e = .returned (.bool (kCovers l[i] l[j])) ∧ Keep0 W w' := y2
      have kA : Keep0 wr (wr.alloc (.cells #[.slice jo l[j].c.length jc, .bool l[j].d, .string l[j].x.a, .int .u64 (l[j].x.n : Int)] 27)) := (Keep.refl _ wr).alloc _
      have HN : Hid (¬ (j ≠ i ∧ kCovers l[j] l[i] = true ∧ ¬ (kCovers l[i] l[j] = true ∧ i < j)) → keepTo l i (j + 1) = true) := fun h => by rw [keepTo_no (beats_no hlt hi h)]; exact HJ.out
      have HY : Hid (j ≠ i ∧ kCovers l[j] l[i] = true ∧ ¬ (kCovers l[i] l[j] = true ∧ i < j) → false = r) := fun h => by rw [← HR.out]; exact (keepAt_no hlt ((beats_iff hlt hi).2 h)).symm
      obtain ⟨u0, u1, u2, u3⟩ := xj.keep0 hK
      obtain ⟨q0, q1, q2, q3⟩ := clk_new wr 27 l[j] jo jc
      obtain ⟨x0, x1, x2, x3⟩ := xk.keep0 (hK.trans kA)
      have bx := hK.cell HB.out (fun f => f)
      have bx2 := kA.cell bx (fun f => f)
      have K0 := hK.trans kA
      clear xj xk hEj hEk oj oi HJ HR
      generalize l[j] = Y at *
      generalize l[i] = Z at *
      by_cases hji : j = i
      · have HP : Hid (keepTo l i (j + 1) = true) := HN.out (fun h => h.1 hji)
        have i5 : ((j : Int) != (i : Int)) = false := by simp; omega
        have i6 : (j : Int) = (i : Int) := by omega
        have u0' := u0
        have u1' := u1
        have u2' := u2
        have u3' := u3
        rw [hji] at u0' u1' u2' u3'
        clear HN HY hji
        go_wp2_with fail
        generalize (wr.alloc (.cells #[.slice jo Y.c.length jc, .bool Y.d, .string Y.x.a, .int .u64 (Y.x.n : Int)] 27)) = W0 at *
        generalize wr.heap.size = G at *
        refine wp_region_held_drew (S := (fun W => W.cell? ⟨G, 0, none⟩ = some (.slice jo Y.c.length jc) ∧ W.cell? ⟨G, 0 + 1, none⟩ = some (.bool Y.d) ∧ W.cell? ⟨G, 0 + 2, none⟩ = some (.string Y.x.a) ∧ W.cell? ⟨G, 0 + 3, none⟩ = some (.int .u64 (Y.x.n : Int)) ∧ W.cell? ⟨b, off + i * 4, none⟩ = some (.slice ko Z.c.length kc) ∧ W.cell? ⟨b, off + i * 4 + 1, none⟩ = some (.bool Z.d) ∧ W.cell? ⟨b, off + i * 4 + 2, none⟩ = some (.string Z.x.a) ∧ W.cell? ⟨b, off + i * 4 + 3, none⟩ = some (.int .u64 (Z.x.n : Int)) ∧ W.cell? ⟨C, 0, none⟩ = some (.slice (some ⟨b, off, none⟩) l.length cap))) (by kernel_rfl) ⟨q0, q1, q2, q3, x0, x1, x2, x3, bx2⟩ (fun hHeld => ?_)
        refine wpAnyH_take (i := 0) (v := ?a0v) (by simp only [List.getElem?_toArray, List.getElem?_cons_zero] <;> rfl) (by kernel_rfl) (by kernel_rfl) (by kernel_rfl) (by exact fun _ _ _ h => h) (Or.inl ⟨by rfl, ?a0y⟩) hHeld ?a0r
        case a0y => intro w hSw; (try dsimp only at hSw); go_simp <;> rfl
        simp only [Act.put, List.setIfInBounds_toArray, List.set_cons_zero, List.set_cons_succ]
        refine wpAnyH_take (i := 1) (v := ?a1v) (by simp only [List.getElem?_toArray, List.getElem?_cons_succ, List.getElem?_cons_zero] <;> rfl) (by kernel_rfl) (by kernel_rfl) (by kernel_rfl) (by exact fun _ _ _ h => h) (Or.inl ⟨by rfl, ?a1y⟩) hHeld ?a1r
        case a1y => intro w hSw; (try dsimp only at hSw); go_simp <;> rfl
        simp only [Act.put, List.setIfInBounds_toArray, List.set_cons_zero, List.set_cons_succ]
        refine wpAnyH_take (i := 2) (v := ?a2v) (by simp only [List.getElem?_toArray, List.getElem?_cons_succ, List.getElem?_cons_zero] <;> rfl) (by kernel_rfl) (by kernel_rfl) (by kernel_rfl) (by exact fun _ _ _ h => h) (Or.inl ⟨by rfl, ?a2y⟩) hHeld ?a2r
        case a2y => intro w hSw; (try dsimp only at hSw); go_simp <;> rfl
        simp only [Act.put, List.setIfInBounds_toArray, List.set_cons_zero, List.set_cons_succ]
        refine wpAnyH_take (i := 3) (v := ?a3v) (by simp only [List.getElem?_toArray, List.getElem?_cons_succ, List.getElem?_cons_zero] <;> rfl) (by kernel_rfl) (by kernel_rfl) (by kernel_rfl) (by exact fun _ _ _ h => h) (Or.inl ⟨by rfl, ?a3y⟩) hHeld ?a3r
        case a3y => intro w hSw; (try dsimp only at hSw); go_simp <;> rfl
        simp only [Act.put, List.setIfInBounds_toArray, List.set_cons_zero, List.set_cons_succ]
        refine wpAnyH_take (i := 4) (v := undef) (by simp only [List.getElem?_toArray, List.getElem?_cons_succ, List.getElem?_cons_zero] <;> rfl) (by kernel_rfl) (by kernel_rfl) (by kernel_rfl) (by exact fun _ _ _ h => h) (Or.inr ⟨by rfl, rfl⟩) hHeld ?a4r
        simp only [Act.put, List.setIfInBounds_toArray, List.set_cons_zero, List.set_cons_succ]
        refine wpAnyH_take (i := 5) (v := undef) (by simp only [List.getElem?_toArray, List.getElem?_cons_succ, List.getElem?_cons_zero] <;> rfl) (by kernel_rfl) (by kernel_rfl) (by kernel_rfl) (by exact fun _ _ _ h => h) (Or.inr ⟨by rfl, rfl⟩) hHeld ?a5r
        simp only [Act.put, List.setIfInBounds_toArray, List.set_cons_zero, List.set_cons_succ]
        refine wpAnyH_take (i := 6) (v := undef) (by simp only [List.getElem?_toArray, List.getElem?_cons_succ, List.getElem?_cons_zero] <;> rfl) (by kernel_rfl) (by kernel_rfl) (by kernel_rfl) (by exact fun _ _ _ h => h) (Or.inr ⟨by rfl, rfl⟩) hHeld ?a6r
        simp only [Act.put, List.setIfInBounds_toArray, List.set_cons_zero, List.set_cons_succ]
        refine wpAnyH_take (i := 7) (v := undef) (by simp only [List.getElem?_toArray, List.getElem?_cons_succ, List.getElem?_cons_zero] <;> rfl) (by kernel_rfl) (by kernel_rfl) (by kernel_rfl) (by exact fun _ _ _ h => h) (Or.inr ⟨by rfl, rfl⟩) hHeld ?a7r
        simp only [Act.put, List.setIfInBounds_toArray, List.set_cons_zero, List.set_cons_succ]
        refine wpAnyH_take (i := 8) (v := undef) (by simp only [List.getElem?_toArray, List.getElem?_cons_succ, List.getElem?_cons_zero] <;> rfl) (by kernel_rfl) (by kernel_rfl) (by kernel_rfl) (by exact fun _ _ _ h => h) (Or.inr ⟨by rfl, rfl⟩) hHeld ?a8r
        simp only [Act.put, List.setIfInBounds_toArray, List.set_cons_zero, List.set_cons_succ]
        refine wpAnyH_ready (rs := [9]) (by kernel_rfl) (by simp) ?_
        refine AllReadyH.cons (by simp only [List.getElem?_toArray, List.getElem?_cons_succ, List.getElem?_cons_zero] <;> rfl) (fun K hK => ?_) AllReadyH.nil
        go_simp
        refine hK.out _ _ hHeld (fun hHeld => ?_)
        clear hK K
        refine wpAnyH_take (i := 10) (v := ?a9v) (by simp only [List.getElem?_toArray, List.getElem?_cons_succ, List.getElem?_cons_zero] <;> rfl) (by kernel_rfl) (by kernel_rfl) (by kernel_rfl) (by exact fun _ _ _ h => h) (Or.inl ⟨by rfl, ?a9y⟩) hHeld ?a9r
        case a9y => intro w hSw; (try dsimp only at hSw); go_simp <;> rfl
        simp only [Act.put, List.setIfInBounds_toArray, List.set_cons_zero, List.set_cons_succ]
        refine wpAnyH_take (i := 11) (v := ?a10v) (by simp only [List.getElem?_toArray, List.getElem?_cons_succ, List.getElem?_cons_zero] <;> rfl) (by kernel_rfl) (by kernel_rfl) (by kernel_rfl) (by exact fun _ _ _ h => h) (Or.inl ⟨by rfl, ?a10y⟩) hHeld ?a10r
        case a10y => intro w hSw; (try dsimp only at hSw); go_simp <;> rfl
        simp only [Act.put, List.setIfInBounds_toArray, List.set_cons_zero, List.set_cons_succ]
        refine wpAnyH_take (i := 12) (v := undef) (by simp only [List.getElem?_toArray, List.getElem?_cons_succ, List.getElem?_cons_zero] <;> rfl) (by kernel_rfl) (by kernel_rfl) (by kernel_rfl) (by exact fun _ _ _ h => h) (Or.inr ⟨by rfl, rfl⟩) hHeld ?a11r
        simp only [Act.put, List.setIfInBounds_toArray, List.set_cons_zero, List.set_cons_succ]
        refine wpAnyH_take (i := 13) (v := undef) (by simp only [List.getElem?_toArray, List.getElem?_cons_succ, List.getElem?_cons_zero] <;> rfl) (by kernel_rfl) (by kernel_rfl) (by kernel_rfl) (by exact fun _ _ _ h => h) (Or.inr ⟨by rfl, rfl⟩) hHeld ?a12r
        simp only [Act.put, List.setIfInBounds_toArray, List.set_cons_zero, List.set_cons_succ]
        refine wpAnyH_take (i := 14) (v := undef) (by simp only [List.getElem?_toArray, List.getElem?_cons_succ, List.getElem?_cons_zero] <;> rfl) (by kernel_rfl) (by kernel_rfl) (by kernel_rfl) (by exact fun _ _ _ h => h) (Or.inr ⟨by rfl, rfl⟩) hHeld ?a13r
        simp only [Act.put, List.setIfInBounds_toArray, List.set_cons_zero, List.set_cons_succ]
        refine wpAnyH_take (i := 15) (v := undef) (by simp only [List.getElem?_toArray, List.getElem?_cons_succ, List.getElem?_cons_zero] <;> rfl) (by kernel_rfl) (by kernel_rfl) (by kernel_rfl) (by exact fun _ _ _ h => h) (Or.inr ⟨by rfl, rfl⟩) hHeld ?a14r
        simp only [Act.put, List.setIfInBounds_toArray, List.set_cons_zero, List.set_cons_succ]
        refine wpAnyH_take (i := 16) (v := undef) (by simp only [List.getElem?_toArray, List.getElem?_cons_succ, List.getElem?_cons_zero] <;> rfl) (by kernel_rfl) (by kernel_rfl) (by kernel_rfl) (by exact fun _ _ _ h => h) (Or.inr ⟨by rfl, rfl⟩) hHeld ?a15r
        simp only [Act.put, List.setIfInBounds_toArray, List.set_cons_zero, List.set_cons_succ]
        refine wpAnyH_take (i := 17) (v := undef) (by simp only [List.getElem?_toArray, List.getElem?_cons_succ, List.getElem?_cons_zero] <;> rfl) (by kernel_rfl) (by kernel_rfl) (by kernel_rfl) (by exact fun _ _ _ h => h) (Or.inr ⟨by rfl, rfl⟩) hHeld ?a16r
        simp only [Act.put, List.setIfInBounds_toArray, List.set_cons_zero, List.set_cons_succ]
        refine wpAnyH_take (i := 18) (v := undef) (by simp only [List.getElem?_toArray, List.getElem?_cons_succ, List.getElem?_cons_zero] <;> rfl) (by kernel_rfl) (by kernel_rfl) (by kernel_rfl) (by exact fun _ _ _ h => h) (Or.inr ⟨by rfl, rfl⟩) hHeld ?a17r
        simp only [Act.put, List.setIfInBounds_toArray, List.set_cons_zero, List.set_cons_succ]
        refine wpAnyH_take (i := 19) (v := undef) (by simp only [List.getElem?_toArray, List.getElem?_cons_succ, List.getElem?_cons_zero] <;> rfl) (by kernel_rfl) (by kernel_rfl) (by kernel_rfl) (by exact fun _ _ _ h => h) (Or.inr ⟨by rfl, rfl⟩) hHeld ?a18r
        simp only [Act.put, List.setIfInBounds_toArray, List.set_cons_zero, List.set_cons_succ]
        refine wpAnyH_take (i := 20) (v := undef) (by simp only [List.getElem?_toArray, List.getElem?_cons_succ, List.getElem?_cons_zero] <;> rfl) (by kernel_rfl) (by kernel_rfl) (by kernel_rfl) (by exact fun _ _ _ h => h) (Or.inr ⟨by rfl, rfl⟩) hHeld ?a19r
        simp only [Act.put, List.setIfInBounds_toArray, List.set_cons_zero, List.set_cons_succ]
        refine wpAnyH_take (i := 21) (v := undef) (by simp only [List.getElem?_toArray, List.getElem?_cons_succ, List.getElem?_cons_zero] <;> rfl) (by kernel_rfl) (by kernel_rfl) (by kernel_rfl) (by exact fun _ _ _ h => h) (Or.inr ⟨by rfl, rfl⟩) hHeld ?a20r
        simp only [Act.put, List.setIfInBounds_toArray, List.set_cons_zero, List.set_cons_succ]
        refine wpAnyH_take (i := 22) (v := undef) (by simp only [List.getElem?_toArray, List.getElem?_cons_succ, List.getElem?_cons_zero] <;> rfl) (by kernel_rfl) (by kernel_rfl) (by kernel_rfl) (by exact fun _ _ _ h => h) (Or.inr ⟨by rfl, rfl⟩) hHeld ?a21r
        simp only [Act.put, List.setIfInBounds_toArray, List.set_cons_zero, List.set_cons_succ]
        refine wpAnyH_take (i := 23) (v := undef) (by simp only [List.getElem?_toArray, List.getElem?_cons_succ, List.getElem?_cons_zero] <;> rfl) (by kernel_rfl) (by kernel_rfl) (by kernel_rfl) (by exact fun _ _ _ h => h) (Or.inr ⟨by rfl, rfl⟩) hHeld ?a22r
        simp only [Act.put, List.setIfInBounds_toArray, List.set_cons_zero, List.set_cons_succ]
        refine wpAnyH_take (i := 24) (v := ?a23v) (by simp only [List.getElem?_toArray, List.getElem?_cons_succ, List.getElem?_cons_zero] <;> rfl) (by kernel_rfl) (by kernel_rfl) (by kernel_rfl) (by exact fun _ _ _ h => h) (Or.inl ⟨by rfl, ?a23y⟩) hHeld ?a23r
        case a23y => intro w hSw; (try dsimp only at hSw); go_simp <;> rfl
        simp only [Act.put, List.setIfInBounds_toArray, List.set_cons_zero, List.set_cons_succ]
        refine wpAnyH_done (by kernel_rfl) ?_ _
        clear u0' u1' u2' u3'
        have K3 := K0.drew
        clear hHeld K0 kA q0 q1 q2 q3 x0 x1 x2 x3 u0 u1 u2 u3 bx bx2 hK y1 y2
        go_wp2
        go_roundw
        case rel => exact ⟨j + 1, by go_num, by omega, HP, K3⟩
        case measure => simp [intOf]; omega
      have i5 : ((j : Int) != (i : Int)) = true := by simp; omega
      have i6 : ¬ (j : Int) = (i : Int) := by omega
      cases hc1 : kCovers Y Z with
      | false =>
        have HP : Hid (keepTo l i (j + 1) = true) := HN.out (fun h => by rw [hc1] at h; cases h.2.1)
        rw [hc1] at y1
        clear HN HY hc1
        go_wp2_with fail
        generalize (wr.alloc (.cells #[.slice jo Y.c.length jc, .bool Y.d, .string Y.x.a, .int .u64 (Y.x.n : Int)] 27)) = W0 at *
        generalize wr.heap.size = G at *
        refine wp_region_held_drew (S := (fun W => W.cell? ⟨G, 0, none⟩ = some (.slice jo Y.c.length jc) ∧ W.cell? ⟨G, 0 + 1, none⟩ = some (.bool Y.d) ∧ W.cell? ⟨G, 0 + 2, none⟩ = some (.string Y.x.a) ∧ W.cell? ⟨G, 0 + 3, none⟩ = some (.int .u64 (Y.x.n : Int)) ∧ W.cell? ⟨b, off + i * 4, none⟩ = some (.slice ko Z.c.length kc) ∧ W.cell? ⟨b, off + i * 4 + 1, none⟩ = some (.bool Z.d) ∧ W.cell? ⟨b, off + i * 4 + 2, none⟩ = some (.string Z.x.a) ∧ W.cell? ⟨b, off + i * 4 + 3, none⟩ = some (.int .u64 (Z.x.n : Int)) ∧ W.cell? ⟨C, 0, none⟩ = some (.slice (some ⟨b, off, none⟩) l.length cap))) (by kernel_rfl) ⟨q0, q1, q2, q3, x0, x1, x2, x3, bx2⟩ (fun hHeld => ?_)
        refine wpAnyH_take (i := 0) (v := ?b0v) (by simp only [List.getElem?_toArray, List.getElem?_cons_zero] <;> rfl) (by kernel_rfl) (by kernel_rfl) (by kernel_rfl) (by exact fun _ _ _ h => h) (Or.inl ⟨by rfl, ?b0y⟩) hHeld ?b0r
        case b0y => intro w hSw; (try dsimp only at hSw); go_simp <;> rfl
        simp only [Act.put, List.setIfInBounds_toArray, List.set_cons_zero, List.set_cons_succ]
        refine wpAnyH_take (i := 1) (v := ?b1v) (by simp only [List.getElem?_toArray, List.getElem?_cons_succ, List.getElem?_cons_zero] <;> rfl) (by kernel_rfl) (by kernel_rfl) (by kernel_rfl) (by exact fun _ _ _ h => h) (Or.inl ⟨by rfl, ?b1y⟩) hHeld ?b1r
        case b1y => intro w hSw; (try dsimp only at hSw); go_simp <;> rfl
        simp only [Act.put, List.setIfInBounds_toArray, List.set_cons_zero, List.set_cons_succ]
        refine wpAnyH_take (i := 2) (v := ?b2v) (by simp only [List.getElem?_toArray, List.getElem?_cons_succ, List.getElem?_cons_zero] <;> rfl) (by kernel_rfl) (by kernel_rfl) (by kernel_rfl) (by exact fun _ _ _ h => h) (Or.inl ⟨by rfl, ?b2y⟩) hHeld ?b2r
        case b2y => intro w hSw; (try dsimp only at hSw); go_simp <;> rfl
        simp only [Act.put, List.setIfInBounds_toArray, List.set_cons_zero, List.set_cons_succ]
        refine wpAnyH_take (i := 3) (v := ?b3v) (by simp only [List.getElem?_toArray, List.getElem?_cons_succ, List.getElem?_cons_zero] <;> rfl) (by kernel_rfl) (by kernel_rfl) (by kernel_rfl) (by exact fun _ _ _ h => h) (Or.inl ⟨by rfl, ?b3y⟩) hHeld ?b3r
        case b3y => intro w hSw; (try dsimp only at hSw); go_simp <;> rfl
        simp only [Act.put, List.setIfInBounds_toArray, List.set_cons_zero, List.set_cons_succ]
        refine wpAnyH_take (i := 4) (v := ?b4v) (by simp only [List.getElem?_toArray, List.getElem?_cons_succ, List.getElem?_cons_zero] <;> rfl) (by kernel_rfl) (by kernel_rfl) (by kernel_rfl) (by exact fun _ _ _ h => h) (Or.inl ⟨by rfl, ?b4y⟩) hHeld ?b4r
        case b4y => intro w hSw; (try dsimp only at hSw); go_simp <;> rfl
        simp only [Act.put, List.setIfInBounds_toArray, List.set_cons_zero, List.set_cons_succ]
        refine wpAnyH_take (i := 5) (v := ?b5v) (by simp only [List.getElem?_toArray, List.getElem?_cons_succ, List.getElem?_cons_zero] <;> rfl) (by kernel_rfl) (by kernel_rfl) (by kernel_rfl) (by exact fun _ _ _ h => h) (Or.inl ⟨by rfl, ?b5y⟩) hHeld ?b5r
        case b5y => intro w hSw; (try dsimp only at hSw); go_simp <;> rfl
        simp only [Act.put, List.setIfInBounds_toArray, List.set_cons_zero, List.set_cons_succ]
        refine wpAnyH_take (i := 6) (v := ?b6v) (by simp only [List.getElem?_toArray, List.getElem?_cons_succ, List.getElem?_cons_zero] <;> rfl) (by kernel_rfl) (by kernel_rfl) (by kernel_rfl) (by exact fun _ _ _ h => h) (Or.inl ⟨by rfl, ?b6y⟩) hHeld ?b6r
        case b6y => intro w hSw; (try dsimp only at hSw); go_simp <;> rfl
        simp only [Act.put, List.setIfInBounds_toArray, List.set_cons_zero, List.set_cons_succ]
        refine wpAnyH_take (i := 7) (v := ?b7v) (by simp only [List.getElem?_toArray, List.getElem?_cons_succ, List.getElem?_cons_zero] <;> rfl) (by kernel_rfl) (by kernel_rfl) (by kernel_rfl) (by exact fun _ _ _ h => h) (Or.inl ⟨by rfl, ?b7y⟩) hHeld ?b7r
        case b7y => intro w hSw; (try dsimp only at hSw); go_simp <;> rfl
        simp only [Act.put, List.setIfInBounds_toArray, List.set_cons_zero, List.set_cons_succ]
        refine wpAnyH_take (i := 8) (v := ?b8v) (by simp only [List.getElem?_toArray, List.getElem?_cons_succ, List.getElem?_cons_zero] <;> rfl) (by kernel_rfl) (by kernel_rfl) (by kernel_rfl) (by exact fun _ _ _ h => h) (Or.inl ⟨by rfl, ?b8y⟩) hHeld ?b8r
        case b8y => intro w hSw; (try dsimp only at hSw); go_simp <;> rfl
        simp only [Act.put, List.setIfInBounds_toArray, List.set_cons_zero, List.set_cons_succ]
        refine wpAnyH_ready (rs := [9]) (by kernel_rfl) (by simp) ?_
        refine AllReadyH.cons (by simp only [List.getElem?_toArray, List.getElem?_cons_succ, List.getElem?_cons_zero] <;> rfl) (fun K hK => ?_) AllReadyH.nil
        go_simp
        refine (y1 _ kA.drew).mono ?_
        rintro e w3 ⟨rfl, kx⟩
        have kw3 : Keep0 W0 w3 := ((Keep.refl _ W0).drew).trans kx
        clear kx
        go_wp2_with fail
        refine hK.out _ _ ⟨kw3.cell q0 (fun f => f), kw3.cell q1 (fun f => f), kw3.cell q2 (fun f => f), kw3.cell q3 (fun f => f), kw3.cell x0 (fun f => f), kw3.cell x1 (fun f => f), kw3.cell x2 (fun f => f), kw3.cell x3 (fun f => f), kw3.cell bx2 (fun f => f)⟩ (fun hHeld => ?_)
        clear hK K
        refine wpAnyH_take (i := 10) (v := ?b9v) (by simp only [List.getElem?_toArray, List.getElem?_cons_succ, List.getElem?_cons_zero] <;> rfl) (by kernel_rfl) (by kernel_rfl) (by kernel_rfl) (by exact fun _ _ _ h => h) (Or.inl ⟨by rfl, ?b9y⟩) hHeld ?b9r
        case b9y => intro w hSw; (try dsimp only at hSw); go_simp <;> rfl
        simp only [Act.put, List.setIfInBounds_toArray, List.set_cons_zero, List.set_cons_succ]
        refine wpAnyH_take (i := 11) (v := ?b10v) (by simp only [List.getElem?_toArray, List.getElem?_cons_succ, List.getElem?_cons_zero] <;> rfl) (by kernel_rfl) (by kernel_rfl) (by kernel_rfl) (by exact fun _ _ _ h => h) (Or.inl ⟨by rfl, ?b10y⟩) hHeld ?b10r
        case b10y => intro w hSw; (try dsimp only at hSw); go_simp <;> rfl
        simp only [Act.put, List.setIfInBounds_toArray, List.set_cons_zero, List.set_cons_succ]
        refine wpAnyH_take (i := 12) (v := undef) (by simp only [List.getElem?_toArray, List.getElem?_cons_succ, List.getElem?_cons_zero] <;> rfl) (by kernel_rfl) (by kernel_rfl) (by kernel_rfl) (by exact fun _ _ _ h => h) (Or.inr ⟨by rfl, rfl⟩) hHeld ?b11r
        simp only [Act.put, List.setIfInBounds_toArray, List.set_cons_zero, List.set_cons_succ]
        refine wpAnyH_take (i := 13) (v := undef) (by simp only [List.getElem?_toArray, List.getElem?_cons_succ, List.getElem?_cons_zero] <;> rfl) (by kernel_rfl) (by kernel_rfl) (by kernel_rfl) (by exact fun _ _ _ h => h) (Or.inr ⟨by rfl, rfl⟩) hHeld ?b12r
        simp only [Act.put, List.setIfInBounds_toArray, List.set_cons_zero, List.set_cons_succ]
        refine wpAnyH_take (i := 14) (v := undef) (by simp only [List.getElem?_toArray, List.getElem?_cons_succ, List.getElem?_cons_zero] <;> rfl) (by kernel_rfl) (by kernel_rfl) (by kernel_rfl) (by exact fun _ _ _ h => h) (Or.inr ⟨by rfl, rfl⟩) hHeld ?b13r
        simp only [Act.put, List.setIfInBounds_toArray, List.set_cons_zero, List.set_cons_succ]
        refine wpAnyH_take (i := 15) (v := undef) (by simp only [List.getElem?_toArray, List.getElem?_cons_succ, List.getElem?_cons_zero] <;> rfl) (by kernel_rfl) (by kernel_rfl) (by kernel_rfl) (by exact fun _ _ _ h => h) (Or.inr ⟨by rfl, rfl⟩) hHeld ?b14r
        simp only [Act.put, List.setIfInBounds_toArray, List.set_cons_zero, List.set_cons_succ]
        refine wpAnyH_take (i := 16) (v := undef) (by simp only [List.getElem?_toArray, List.getElem?_cons_succ, List.getElem?_cons_zero] <;> rfl) (by kernel_rfl) (by kernel_rfl) (by kernel_rfl) (by exact fun _ _ _ h => h) (Or.inr ⟨by rfl, rfl⟩) hHeld ?b15r
        simp only [Act.put, List.setIfInBounds_toArray, List.set_cons_zero, List.set_cons_succ]
        refine wpAnyH_take (i := 17) (v := undef) (by simp only [List.getElem?_toArray, List.getElem?_cons_succ, List.getElem?_cons_zero] <;> rfl) (by kernel_rfl) (by kernel_rfl) (by kernel_rfl) (by exact fun _ _ _ h => h) (Or.inr ⟨by rfl, rfl⟩) hHeld ?b16r
        simp only [Act.put, List.setIfInBounds_toArray, List.set_cons_zero, List.set_cons_succ]
        refine wpAnyH_take (i := 18) (v := undef) (by simp only [List.getElem?_toArray, List.getElem?_cons_succ, List.getElem?_cons_zero] <;> rfl) (by kernel_rfl) (by kernel_rfl) (by kernel_rfl) (by exact fun _ _ _ h => h) (Or.inr ⟨by rfl, rfl⟩) hHeld ?b17r
        simp only [Act.put, List.setIfInBounds_toArray, List.set_cons_zero, List.set_cons_succ]
        refine wpAnyH_take (i := 19) (v := undef) (by simp only [List.getElem?_toArray, List.getElem?_cons_succ, List.getElem?_cons_zero] <;> rfl) (by kernel_rfl) (by kernel_rfl) (by kernel_rfl) (by exact fun _ _ _ h => h) (Or.inr ⟨by rfl, rfl⟩) hHeld ?b18r
        simp only [Act.put, List.setIfInBounds_toArray, List.set_cons_zero, List.set_cons_succ]
        refine wpAnyH_take (i := 20) (v := undef) (by simp only [List.getElem?_toArray, List.getElem?_cons_succ, List.getElem?_cons_zero] <;> rfl) (by kernel_rfl) (by kernel_rfl) (by kernel_rfl) (by exact fun _ _ _ h => h) (Or.inr ⟨by rfl, rfl⟩) hHeld ?b19r
        simp only [Act.put, List.setIfInBounds_toArray, List.set_cons_zero, List.set_cons_succ]
        refine wpAnyH_take (i := 21) (v := undef) (by simp only [List.getElem?_toArray, List.getElem?_cons_succ, List.getElem?_cons_zero] <;> rfl) (by kernel_rfl) (by kernel_rfl) (by kernel_rfl) (by exact fun _ _ _ h => h) (Or.inr ⟨by rfl, rfl⟩) hHeld ?b20r
        simp only [Act.put, List.setIfInBounds_toArray, List.set_cons_zero, List.set_cons_succ]
        refine wpAnyH_take (i := 22) (v := undef) (by simp only [List.getElem?_toArray, List.getElem?_cons_succ, List.getElem?_cons_zero] <;> rfl) (by kernel_rfl) (by kernel_rfl) (by kernel_rfl) (by exact fun _ _ _ h => h) (Or.inr ⟨by rfl, rfl⟩) hHeld ?b21r
        simp only [Act.put, List.setIfInBounds_toArray, List.set_cons_zero, List.set_cons_succ]
        refine wpAnyH_take (i := 23) (v := undef) (by simp only [List.getElem?_toArray, List.getElem?_cons_succ, List.getElem?_cons_zero] <;> rfl) (by kernel_rfl) (by kernel_rfl) (by kernel_rfl) (by exact fun _ _ _ h => h) (Or.inr ⟨by rfl, rfl⟩) hHeld ?b22r
        simp only [Act.put, List.setIfInBounds_toArray, List.set_cons_zero, List.set_cons_succ]
        refine wpAnyH_take (i := 24) (v := ?b23v) (by simp only [List.getElem?_toArray, List.getElem?_cons_succ, List.getElem?_cons_zero] <;> rfl) (by kernel_rfl) (by kernel_rfl) (by kernel_rfl) (by exact fun _ _ _ h => h) (Or.inl ⟨by rfl, ?b23y⟩) hHeld ?b23r
        case b23y => intro w hSw; (try dsimp only at hSw); go_simp <;> rfl
        simp only [Act.put, List.setIfInBounds_toArray, List.set_cons_zero, List.set_cons_succ]
        refine wpAnyH_done (by kernel_rfl) ?_ _
        have K3 := K0.trans kw3
        clear hHeld K0 kA q0 q1 q2 q3 x0 x1 x2 x3 u0 u1 u2 u3 bx bx2 hK y1 y2 kw3
        go_wp2
        go_roundw
        case rel => exact ⟨j + 1, by go_num, by omega, HP, K3⟩
        case measure => simp [intOf]; omega
      | true =>
        rw [hc1] at y1
        by_cases hjl : j < i
        · have HP : Hid (false = r) := HY.out ⟨hji, hc1, fun h => by omega⟩
          have i7 : (j : Int) < (i : Int) := by omega
          clear HN HY hc1 hjl
          go_wp2_with fail
          generalize (wr.alloc (.cells #[.slice jo Y.c.length jc, .bool Y.d, .string Y.x.a, .int .u64 (Y.x.n : Int)] 27)) = W0 at *
          generalize wr.heap.size = G at *
          refine wp_region_held_drew (S := (fun W => W.cell? ⟨G, 0, none⟩ = some (.slice jo Y.c.length jc) ∧ W.cell? ⟨G, 0 + 1, none⟩ = some (.bool Y.d) ∧ W.cell? ⟨G, 0 + 2, none⟩ = some (.string Y.x.a) ∧ W.cell? ⟨G, 0 + 3, none⟩ = some (.int .u64 (Y.x.n : Int)) ∧ W.cell? ⟨b, off + i * 4, none⟩ = some (.slice ko Z.c.length kc) ∧ W.cell? ⟨b, off + i * 4 + 1, none⟩ = some (.bool Z.d) ∧ W.cell? ⟨b, off + i * 4 + 2, none⟩ = some (.string Z.x.a) ∧ W.cell? ⟨b, off + i * 4 + 3, none⟩ = some (.int .u64 (Z.x.n : Int)) ∧ W.cell? ⟨C, 0, none⟩ = some (.slice (some ⟨b, off, none⟩) l.length cap))) (by kernel_rfl) ⟨q0, q1, q2, q3, x0, x1, x2, x3, bx2⟩ (fun hHeld => ?_)
          refine wpAnyH_take (i := 0) (v := ?c0v) (by simp only [List.getElem?_toArray, List.getElem?_cons_zero] <;> rfl) (by kernel_rfl) (by kernel_rfl) (by kernel_rfl) (by exact fun _ _ _ h => h) (Or.inl ⟨by rfl, ?c0y⟩) hHeld ?c0r
          case c0y => intro w hSw; (try dsimp only at hSw); go_simp <;> rfl
          simp only [Act.put, List.setIfInBounds_toArray, List.set_cons_zero, List.set_cons_succ]
          refine wpAnyH_take (i := 1) (v := ?c1v) (by simp only [List.getElem?_toArray, List.getElem?_cons_succ, List.getElem?_cons_zero] <;> rfl) (by kernel_rfl) (by kernel_rfl) (by kernel_rfl) (by exact fun _ _ _ h => h) (Or.inl ⟨by rfl, ?c1y⟩) hHeld ?c1r
          case c1y => intro w hSw; (try dsimp only at hSw); go_simp <;> rfl
          simp only [Act.put, List.setIfInBounds_toArray, List.set_cons_zero, List.set_cons_succ]
          refine wpAnyH_take (i := 2) (v := ?c2v) (by simp only [List.getElem?_toArray, List.getElem?_cons_succ, List.getElem?_cons_zero] <;> rfl) (by kernel_rfl) (by kernel_rfl) (by kernel_rfl) (by exact fun _ _ _ h => h) (Or.inl ⟨by rfl, ?c2y⟩) hHeld ?c2r
          case c2y => intro w hSw; (try dsimp only at hSw); go_simp <;> rfl
          simp only [Act.put, List.setIfInBounds_toArray, List.set_cons_zero, List.set_cons_succ]
          refine wpAnyH_take (i := 3) (v := ?c3v) (by simp only [List.getElem?_toArray, List.getElem?_cons_succ, List.getElem?_cons_zero] <;> rfl) (by kernel_rfl) (by kernel_rfl) (by kernel_rfl) (by exact fun _ _ _ h => h) (Or.inl ⟨by rfl, ?c3y⟩) hHeld ?c3r
          case c3y => intro w hSw; (try dsimp only at hSw); go_simp <;> rfl
          simp only [Act.put, List.setIfInBounds_toArray, List.set_cons_zero, List.set_cons_succ]
          refine wpAnyH_take (i := 4) (v := ?c4v) (by simp only [List.getElem?_toArray, List.getElem?_cons_succ, List.getElem?_cons_zero] <;> rfl) (by kernel_rfl) (by kernel_rfl) (by kernel_rfl) (by exact fun _ _ _ h => h) (Or.inl ⟨by rfl, ?c4y⟩) hHeld ?c4r
          case c4y => intro w hSw; (try dsimp only at hSw); go_simp <;> rfl
          simp only [Act.put, List.setIfInBounds_toArray, List.set_cons_zero, List.set_cons_succ]
          refine wpAnyH_take (i := 5) (v := ?c5v) (by simp only [List.getElem?_toArray, List.getElem?_cons_succ, List.getElem?_cons_zero] <;> rfl) (by kernel_rfl) (by kernel_rfl) (by kernel_rfl) (by exact fun _ _ _ h => h) (Or.inl ⟨by rfl, ?c5y⟩) hHeld ?c5r
          case c5y => intro w hSw; (try dsimp only at hSw); go_simp <;> rfl
          simp only [Act.put, List.setIfInBounds_toArray, List.set_cons_zero, List.set_cons_succ]
          refine wpAnyH_take (i := 6) (v := ?c6v) (by simp only [List.getElem?_toArray, List.getElem?_cons_succ, List.getElem?_cons_zero] <;> rfl) (by kernel_rfl) (by kernel_rfl) (by kernel_rfl) (by exact fun _ _ _ h => h) (Or.inl ⟨by rfl, ?c6y⟩) hHeld ?c6r
          case c6y => intro w hSw; (try dsimp only at hSw); go_simp <;> rfl
          simp only [Act.put, List.setIfInBounds_toArray, List.set_cons_zero, List.set_cons_succ]
          refine wpAnyH_take (i := 7) (v := ?c7v) (by simp only [List.getElem?_toArray, List.getElem?_cons_succ, List.getElem?_cons_zero] <;> rfl) (by kernel_rfl) (by kernel_rfl) (by kernel_rfl) (by exact fun _ _ _ h => h) (Or.inl ⟨by rfl, ?c7y⟩) hHeld ?c7r
          case c7y => intro w hSw; (try dsimp only at hSw); go_simp <;> rfl
          simp only [Act.put, List.setIfInBounds_toArray, List.set_cons_zero, List.set_cons_succ]
          refine wpAnyH_take (i := 8) (v := ?c8v) (by simp only [List.getElem?_toArray, List.getElem?_cons_succ, List.getElem?_cons_zero] <;> rfl) (by kernel_rfl) (by kernel_rfl) (by kernel_rfl) (by exact fun _ _ _ h => h) (Or.inl ⟨by rfl, ?c8y⟩) hHeld ?c8r
          case c8y => intro w hSw; (try dsimp only at hSw); go_simp <;> rfl
          simp only [Act.put, List.setIfInBounds_toArray, List.set_cons_zero, List.set_cons_succ]
          refine wpAnyH_ready (rs := [9]) (by kernel_rfl) (by simp) ?_
          refine AllReadyH.cons (by simp only [List.getElem?_toArray, List.getElem?_cons_succ, List.getElem?_cons_zero] <;> rfl) (fun K hK => ?_) AllReadyH.nil
          go_simp
          refine (y1 _ kA.drew).mono ?_
          rintro e w3 ⟨rfl, kx⟩
          have kw3 : Keep0 W0 w3 := ((Keep.refl _ W0).drew).trans kx
          clear kx
          go_wp2_with fail
          refine hK.out _ _ ⟨kw3.cell q0 (fun f => f), kw3.cell q1 (fun f => f), kw3.cell q2 (fun f => f), kw3.cell q3 (fun f => f), kw3.cell x0 (fun f => f), kw3.cell x1 (fun f => f), kw3.cell x2 (fun f => f), kw3.cell x3 (fun f => f), kw3.cell bx2 (fun f => f)⟩ (fun hHeld => ?_)
          clear hK K
          refine wpAnyH_take (i := 10) (v := ?c9v) (by simp only [List.getElem?_toArray, List.getElem?_cons_succ, List.getElem?_cons_zero] <;> rfl) (by kernel_rfl) (by kernel_rfl) (by kernel_rfl) (by exact fun _ _ _ h => h) (Or.inl ⟨by rfl, ?c9y⟩) hHeld ?c9r
          case c9y => intro w hSw; (try dsimp only at hSw); go_simp <;> rfl
          simp only [Act.put, List.setIfInBounds_toArray, List.set_cons_zero, List.set_cons_succ]
          refine wpAnyH_take (i := 11) (v := ?c10v) (by simp only [List.getElem?_toArray, List.getElem?_cons_succ, List.getElem?_cons_zero] <;> rfl) (by kernel_rfl) (by kernel_rfl) (by kernel_rfl) (by exact fun _ _ _ h => h) (Or.inl ⟨by rfl, ?c10y⟩) hHeld ?c10r
          case c10y => intro w hSw; (try dsimp only at hSw); go_simp <;> rfl
          simp only [Act.put, List.setIfInBounds_toArray, List.set_cons_zero, List.set_cons_succ]
          refine wpAnyH_take (i := 12) (v := ?c11v) (by simp only [List.getElem?_toArray, List.getElem?_cons_succ, List.getElem?_cons_zero] <;> rfl) (by kernel_rfl) (by kernel_rfl) (by kernel_rfl) (by exact fun _ _ _ h => h) (Or.inl ⟨by rfl, ?c11y⟩) hHeld ?c11r
          case c11y => intro w hSw; (try dsimp only at hSw); go_simp <;> rfl
          simp only [Act.put, List.setIfInBounds_toArray, List.set_cons_zero, List.set_cons_succ]
          refine wpAnyH_take (i := 13) (v := ?c12v) (by simp only [List.getElem?_toArray, List.getElem?_cons_succ, List.getElem?_cons_zero] <;> rfl) (by kernel_rfl) (by kernel_rfl) (by kernel_rfl) (by exact fun _ _ _ h => h) (Or.inl ⟨by rfl, ?c12y⟩) hHeld ?c12r
          case c12y => intro w hSw; (try dsimp only at hSw); go_simp <;> rfl
          simp only [Act.put, List.setIfInBounds_toArray, List.set_cons_zero, List.set_cons_succ]
          refine wpAnyH_take (i := 14) (v := ?c13v) (by simp only [List.getElem?_toArray, List.getElem?_cons_succ, List.getElem?_cons_zero] <;> rfl) (by kernel_rfl) (by kernel_rfl) (by kernel_rfl) (by exact fun _ _ _ h => h) (Or.inl ⟨by rfl, ?c13y⟩) hHeld ?c13r
          case c13y => intro w hSw; (try dsimp only at hSw); go_simp <;> rfl
          simp only [Act.put, List.setIfInBounds_toArray, List.set_cons_zero, List.set_cons_succ]
          refine wpAnyH_take (i := 15) (v := ?c14v) (by simp only [List.getElem?_toArray, List.getElem?_cons_succ, List.getElem?_cons_zero] <;> rfl) (by kernel_rfl) (by kernel_rfl) (by kernel_rfl) (by exact fun _ _ _ h => h) (Or.inl ⟨by rfl, ?c14y⟩) hHeld ?c14r
          case c14y => intro w hSw; (try dsimp only at hSw); go_simp <;> rfl
          simp only [Act.put, List.setIfInBounds_toArray, List.set_cons_zero, List.set_cons_succ]
          refine wpAnyH_take (i := 16) (v := undef) (by simp only [List.getElem?_toArray, List.getElem?_cons_succ, List.getElem?_cons_zero] <;> rfl) (by kernel_rfl) (by kernel_rfl) (by kernel_rfl) (by exact fun _ _ _ h => h) (Or.inr ⟨by rfl, rfl⟩) hHeld ?c15r
          simp only [Act.put, List.setIfInBounds_toArray, List.set_cons_zero, List.set_cons_succ]
          refine wpAnyH_take (i := 17) (v := undef) (by simp only [List.getElem?_toArray, List.getElem?_cons_succ, List.getElem?_cons_zero] <;> rfl) (by kernel_rfl) (by kernel_rfl) (by kernel_rfl) (by exact fun _ _ _ h => h) (Or.inr ⟨by rfl, rfl⟩) hHeld ?c16r
          simp only [Act.put, List.setIfInBounds_toArray, List.set_cons_zero, List.set_cons_succ]
          refine wpAnyH_take (i := 18) (v := undef) (by simp only [List.getElem?_toArray, List.getElem?_cons_succ, List.getElem?_cons_zero] <;> rfl) (by kernel_rfl) (by kernel_rfl) (by kernel_rfl) (by exact fun _ _ _ h => h) (Or.inr ⟨by rfl, rfl⟩) hHeld ?c17r
          simp only [Act.put, List.setIfInBounds_toArray, List.set_cons_zero, List.set_cons_succ]
          refine wpAnyH_take (i := 19) (v := undef) (by simp only [List.getElem?_toArray, List.getElem?_cons_succ, List.getElem?_cons_zero] <;> rfl) (by kernel_rfl) (by kernel_rfl) (by kernel_rfl) (by exact fun _ _ _ h => h) (Or.inr ⟨by rfl, rfl⟩) hHeld ?c18r
          simp only [Act.put, List.setIfInBounds_toArray, List.set_cons_zero, List.set_cons_succ]
          refine wpAnyH_take (i := 20) (v := undef) (by simp only [List.getElem?_toArray, List.getElem?_cons_succ, List.getElem?_cons_zero] <;> rfl) (by kernel_rfl) (by kernel_rfl) (by kernel_rfl) (by exact fun _ _ _ h => h) (Or.inr ⟨by rfl, rfl⟩) hHeld ?c19r
          simp only [Act.put, List.setIfInBounds_toArray, List.set_cons_zero, List.set_cons_succ]
          refine wpAnyH_take (i := 21) (v := undef) (by simp only [List.getElem?_toArray, List.getElem?_cons_succ, List.getElem?_cons_zero] <;> rfl) (by kernel_rfl) (by kernel_rfl) (by kernel_rfl) (by exact fun _ _ _ h => h) (Or.inr ⟨by rfl, rfl⟩) hHeld ?c20r
          simp only [Act.put, List.setIfInBounds_toArray, List.set_cons_zero, List.set_cons_succ]
          refine wpAnyH_take (i := 22) (v := undef) (by simp only [List.getElem?_toArray, List.getElem?_cons_succ, List.getElem?_cons_zero] <;> rfl) (by kernel_rfl) (by kernel_rfl) (by kernel_rfl) (by exact fun _ _ _ h => h) (Or.inr ⟨by rfl, rfl⟩) hHeld ?c21r
          simp only [Act.put, List.setIfInBounds_toArray, List.set_cons_zero, List.set_cons_succ]
          refine wpAnyH_take (i := 23) (v := ?c22v) (by simp only [List.getElem?_toArray, List.getElem?_cons_succ, List.getElem?_cons_zero] <;> rfl) (by kernel_rfl) (by kernel_rfl) (by kernel_rfl) (by exact fun _ _ _ h => h) (Or.inl ⟨by rfl, ?c22y⟩) hHeld ?c22r
          case c22y => intro w hSw; (try dsimp only at hSw); go_simp <;> rfl
          simp only [Act.put, List.setIfInBounds_toArray, List.set_cons_zero, List.set_cons_succ]
          refine wpAnyH_take (i := 24) (v := ?c23v) (by simp only [List.getElem?_toArray, List.getElem?_cons_succ, List.getElem?_cons_zero] <;> rfl) (by kernel_rfl) (by kernel_rfl) (by kernel_rfl) (by exact fun _ _ _ h => h) (Or.inl ⟨by rfl, ?c23y⟩) hHeld ?c23r
          case c23y => intro w hSw; (try dsimp only at hSw); go_simp <;> rfl
          simp only [Act.put, List.setIfInBounds_toArray, List.set_cons_zero, List.set_cons_succ]
          refine wpAnyH_done (by kernel_rfl) ?_ _
          have K3 := K0.trans kw3
          clear hHeld K0 kA q0 q1 q2 q3 x0 x1 x2 x3 u0 u1 u2 u3 bx bx2 hK y1 y2 kw3
          go_wp2
          go_ret
          exact ⟨by rw [← HP.out]; rfl, K3⟩
        · have i7 : ¬ (j : Int) < (i : Int) := by omega
          have i7' : decide ((j : Int) < (i : Int)) = false := decide_eq_false i7
          have i8 : ¬ j < i := hjl
          have i8' : decide (j < i) = false := decide_eq_false hjl
          cases hc2 : kCovers Z Y with
          | true =>
            have HP : Hid (keepTo l i (j + 1) = true) := HN.out (fun h => h.2.2 ⟨hc2, by omega⟩)
            rw [hc2] at y2
            clear HN HY hc1 hc2 hjl
            go_wp2_with fail
            generalize (wr.alloc (.cells #[.slice jo Y.c.length jc, .bool Y.d, .string Y.x.a, .int .u64 (Y.x.n : Int)] 27)) = W0 at *
            generalize wr.heap.size = G at *
            refine wp_region_held_drew (S := (fun W => W.cell? ⟨G, 0, none⟩ = some (.slice jo Y.c.length jc) ∧ W.cell? ⟨G, 0 + 1, none⟩ = some (.bool Y.d) ∧ W.cell? ⟨G, 0 + 2, none⟩ = some (.string Y.x.a) ∧ W.cell? ⟨G, 0 + 3, none⟩ = some (.int .u64 (Y.x.n : Int)) ∧ W.cell? ⟨b, off + i * 4, none⟩ = some (.slice ko Z.c.length kc) ∧ W.cell? ⟨b, off + i * 4 + 1, none⟩ = some (.bool Z.d) ∧ W.cell? ⟨b, off + i * 4 + 2, none⟩ = some (.string Z.x.a) ∧ W.cell? ⟨b, off + i * 4 + 3, none⟩ = some (.int .u64 (Z.x.n : Int)) ∧ W.cell? ⟨C, 0, none⟩ = some (.slice (some ⟨b, off, none⟩) l.length cap))) (by kernel_rfl) ⟨q0, q1, q2, q3, x0, x1, x2, x3, bx2⟩ (fun hHeld => ?_)
            refine wpAnyH_take (i := 0) (v := ?d0v) (by simp only [List.getElem?_toArray, List.getElem?_cons_zero] <;> rfl) (by kernel_rfl) (by kernel_rfl) (by kernel_rfl) (by exact fun _ _ _ h => h) (Or.inl ⟨by rfl, ?d0y⟩) hHeld ?d0r
            case d0y => intro w hSw; (try dsimp only at hSw); go_simp <;> rfl
            simp only [Act.put, List.setIfInBounds_toArray, List.set_cons_zero, List.set_cons_succ]
            refine wpAnyH_take (i := 1) (v := ?d1v) (by simp only [List.getElem?_toArray, List.getElem?_cons_succ, List.getElem?_cons_zero] <;> rfl) (by kernel_rfl) (by kernel_rfl) (by kernel_rfl) (by exact fun _ _ _ h => h) (Or.inl ⟨by rfl, ?d1y⟩) hHeld ?d1r
            case d1y => intro w hSw; (try dsimp only at hSw); go_simp <;> rfl
            simp only [Act.put, List.setIfInBounds_toArray, List.set_cons_zero, List.set_cons_succ]
            refine wpAnyH_take (i := 2) (v := ?d2v) (by simp only [List.getElem?_toArray, List.getElem?_cons_succ, List.getElem?_cons_zero] <;> rfl) (by kernel_rfl) (by kernel_rfl) (by kernel_rfl) (by exact fun _ _ _ h => h) (Or.inl ⟨by rfl, ?d2y⟩) hHeld ?d2r
            case d2y => intro w hSw; (try dsimp only at hSw); go_simp <;> rfl
            simp only [Act.put, List.setIfInBounds_toArray, List.set_cons_zero, List.set_cons_succ]
            refine wpAnyH_take (i := 3) (v := ?d3v) (by simp only [List.getElem?_toArray, List.getElem?_cons_succ, List.getElem?_cons_zero] <;> rfl) (by kernel_rfl) (by kernel_rfl) (by kernel_rfl) (by exact fun _ _ _ h => h) (Or.inl ⟨by rfl, ?d3y⟩) hHeld ?d3r
            case d3y => intro w hSw; (try dsimp only at hSw); go_simp <;> rfl
            simp only [Act.put, List.setIfInBounds_toArray, List.set_cons_zero, List.set_cons_succ]
            refine wpAnyH_take (i := 4) (v := ?d4v) (by simp only [List.getElem?_toArray, List.getElem?_cons_succ, List.getElem?_cons_zero] <;> rfl) (by kernel_rfl) (by kernel_rfl) (by kernel_rfl) (by exact fun _ _ _ h => h) (Or.inl ⟨by rfl, ?d4y⟩) hHeld ?d4r
            case d4y => intro w hSw; (try dsimp only at hSw); go_simp <;> rfl
            simp only [Act.put, List.setIfInBounds_toArray, List.set_cons_zero, List.set_cons_succ]
            refine wpAnyH_take (i := 5) (v := ?d5v) (by simp only [List.getElem?_toArray, List.getElem?_cons_succ, List.getElem?_cons_zero] <;> rfl) (by kernel_rfl) (by kernel_rfl) (by kernel_rfl) (by exact fun _ _ _ h => h) (Or.inl ⟨by rfl, ?d5y⟩) hHeld ?d5r
            case d5y => intro w hSw; (try dsimp only at hSw); go_simp <;> rfl
            simp only [Act.put, List.setIfInBounds_toArray, List.set_cons_zero, List.set_cons_succ]
            refine wpAnyH_take (i := 6) (v := ?d6v) (by simp only [List.getElem?_toArray, List.getElem?_cons_succ, List.getElem?_cons_zero] <;> rfl) (by kernel_rfl) (by kernel_rfl) (by kernel_rfl) (by exact fun _ _ _ h => h) (Or.inl ⟨by rfl, ?d6y⟩) hHeld ?d6r
            case d6y => intro w hSw; (try dsimp only at hSw); go_simp <;> rfl
            simp only [Act.put, List.setIfInBounds_toArray, List.set_cons_zero, List.set_cons_succ]
            refine wpAnyH_take (i := 7) (v := ?d7v) (by simp only [List.getElem?_toArray, List.getElem?_cons_succ, List.getElem?_cons_zero] <;> rfl) (by kernel_rfl) (by kernel_rfl) (by kernel_rfl) (by exact fun _ _ _ h => h) (Or.inl ⟨by rfl, ?d7y⟩) hHeld ?d7r
            case d7y => intro w hSw; (try dsimp only at hSw); go_simp <;> rfl
            simp only [Act.put, List.setIfInBounds_toArray, List.set_cons_zero, List.set_cons_succ]
            refine wpAnyH_take (i := 8) (v := ?d8v) (by simp only [List.getElem?_toArray, List.getElem?_cons_succ, List.getElem?_cons_zero] <;> rfl) (by kernel_rfl) (by kernel_rfl) (by kernel_rfl) (by exact fun _ _ _ h => h) (Or.inl ⟨by rfl, ?d8y⟩) hHeld ?d8r
            case d8y => intro w hSw; (try dsimp only at hSw); go_simp <;> rfl
            simp only [Act.put, List.setIfInBounds_toArray, List.set_cons_zero, List.set_cons_succ]
            refine wpAnyH_ready (rs := [9]) (by kernel_rfl) (by simp) ?_
            refine AllReadyH.cons (by simp only [List.getElem?_toArray, List.getElem?_cons_succ, List.getElem?_cons_zero] <;> rfl) (fun K hK => ?_) AllReadyH.nil
            go_simp
            refine (y1 _ kA.drew).mono ?_
            rintro e w3 ⟨rfl, kx⟩
            have kw3 : Keep0 W0 w3 := ((Keep.refl _ W0).drew).trans kx
            clear kx
            go_wp2_with fail
            refine hK.out _ _ ⟨kw3.cell q0 (fun f => f), kw3.cell q1 (fun f => f), kw3.cell q2 (fun f => f), kw3.cell q3 (fun f => f), kw3.cell x0 (fun f => f), kw3.cell x1 (fun f => f), kw3.cell x2 (fun f => f), kw3.cell x3 (fun f => f), kw3.cell bx2 (fun f => f)⟩ (fun hHeld => ?_)
            clear hK K
            refine wpAnyH_take (i := 10) (v := ?d9v) (by simp only [List.getElem?_toArray, List.getElem?_cons_succ, List.getElem?_cons_zero] <;> rfl) (by kernel_rfl) (by kernel_rfl) (by kernel_rfl) (by exact fun _ _ _ h => h) (Or.inl ⟨by rfl, ?d9y⟩) hHeld ?d9r
            case d9y => intro w hSw; (try dsimp only at hSw); go_simp <;> rfl
            simp only [Act.put, List.setIfInBounds_toArray, List.set_cons_zero, List.set_cons_succ]
            refine wpAnyH_take (i := 11) (v := ?d10v) (by simp only [List.getElem?_toArray, List.getElem?_cons_succ, List.getElem?_cons_zero] <;> rfl) (by kernel_rfl) (by kernel_rfl) (by kernel_rfl) (by exact fun _ _ _ h => h) (Or.inl ⟨by rfl, ?d10y⟩) hHeld ?d10r
            case d10y => intro w hSw; (try dsimp only at hSw); go_simp <;> rfl
            simp only [Act.put, List.setIfInBounds_toArray, List.set_cons_zero, List.set_cons_succ]
            refine wpAnyH_take (i := 12) (v := ?d11v) (by simp only [List.getElem?_toArray, List.getElem?_cons_succ, List.getElem?_cons_zero] <;> rfl) (by kernel_rfl) (by kernel_rfl) (by kernel_rfl) (by exact fun _ _ _ h => h) (Or.inl ⟨by rfl, ?d11y⟩) hHeld ?d11r
            case d11y => intro w hSw; (try dsimp only at hSw); go_simp <;> rfl
            simp only [Act.put, List.setIfInBounds_toArray, List.set_cons_zero, List.set_cons_succ]
            refine wpAnyH_take (i := 13) (v := ?d12v) (by simp only [List.getElem?_toArray, List.getElem?_cons_succ, List.getElem?_cons_zero] <;> rfl) (by kernel_rfl) (by kernel_rfl) (by kernel_rfl) (by exact fun _ _ _ h => h) (Or.inl ⟨by rfl, ?d12y⟩) hHeld ?d12r
            case d12y => intro w hSw; (try dsimp only at hSw); go_simp <;> rfl
            simp only [Act.put, List.setIfInBounds_toArray, List.set_cons_zero, List.set_cons_succ]
            refine wpAnyH_take (i := 14) (v := ?d13v) (by simp only [List.getElem?_toArray, List.getElem?_cons_succ, List.getElem?_cons_zero] <;> rfl) (by kernel_rfl) (by kernel_rfl) (by kernel_rfl) (by exact fun _ _ _ h => h) (Or.inl ⟨by rfl, ?d13y⟩) hHeld ?d13r
            case d13y => intro w hSw; (try dsimp only at hSw); go_simp <;> rfl
            simp only [Act.put, List.setIfInBounds_toArray, List.set_cons_zero, List.set_cons_succ]
            refine wpAnyH_take (i := 15) (v := ?d14v) (by simp only [List.getElem?_toArray, List.getElem?_cons_succ, List.getElem?_cons_zero] <;> rfl) (by kernel_rfl) (by kernel_rfl) (by kernel_rfl) (by exact fun _ _ _ h => h) (Or.inl ⟨by rfl, ?d14y⟩) hHeld ?d14r
            case d14y => intro w hSw; (try dsimp only at hSw); go_simp <;> rfl
            simp only [Act.put, List.setIfInBounds_toArray, List.set_cons_zero, List.set_cons_succ]
            refine wpAnyH_take (i := 16) (v := ?d15v) (by simp only [List.getElem?_toArray, List.getElem?_cons_succ, List.getElem?_cons_zero] <;> rfl) (by kernel_rfl) (by kernel_rfl) (by kernel_rfl) (by exact fun _ _ _ h => h) (Or.inl ⟨by rfl, ?d15y⟩) hHeld ?d15r
            case d15y => intro w hSw; (try dsimp only at hSw); go_simp <;> rfl
            simp only [Act.put, List.setIfInBounds_toArray, List.set_cons_zero, List.set_cons_succ]
            refine wpAnyH_take (i := 17) (v := ?d16v) (by simp only [List.getElem?_toArray, List.getElem?_cons_succ, List.getElem?_cons_zero] <;> rfl) (by kernel_rfl) (by kernel_rfl) (by kernel_rfl) (by exact fun _ _ _ h => h) (Or.inl ⟨by rfl, ?d16y⟩) hHeld ?d16r
            case d16y => intro w hSw; (try dsimp only at hSw); go_simp <;> rfl
            simp only [Act.put, List.setIfInBounds_toArray, List.set_cons_zero, List.set_cons_succ]
            refine wpAnyH_take (i := 18) (v := ?d17v) (by simp only [List.getElem?_toArray, List.getElem?_cons_succ, List.getElem?_cons_zero] <;> rfl) (by kernel_rfl) (by kernel_rfl) (by kernel_rfl) (by exact fun _ _ _ h => h) (Or.inl ⟨by rfl, ?d17y⟩) hHeld ?d17r
            case d17y => intro w hSw; (try dsimp only at hSw); go_simp <;> rfl
            simp only [Act.put, List.setIfInBounds_toArray, List.set_cons_zero, List.set_cons_succ]
            refine wpAnyH_take (i := 19) (v := ?d18v) (by simp only [List.getElem?_toArray, List.getElem?_cons_succ, List.getElem?_cons_zero] <;> rfl) (by kernel_rfl) (by kernel_rfl) (by kernel_rfl) (by exact fun _ _ _ h => h) (Or.inl ⟨by rfl, ?d18y⟩) hHeld ?d18r
            case d18y => intro w hSw; (try dsimp only at hSw); go_simp <;> rfl
            simp only [Act.put, List.setIfInBounds_toArray, List.set_cons_zero, List.set_cons_succ]
            refine wpAnyH_take (i := 20) (v := ?d19v) (by simp only [List.getElem?_toArray, List.getElem?_cons_succ, List.getElem?_cons_zero] <;> rfl) (by kernel_rfl) (by kernel_rfl) (by kernel_rfl) (by exact fun _ _ _ h => h) (Or.inl ⟨by rfl, ?d19y⟩) hHeld ?d19r
            case d19y => intro w hSw; (try dsimp only at hSw); go_simp <;> rfl
            simp only [Act.put, List.setIfInBounds_toArray, List.set_cons_zero, List.set_cons_succ]
            refine wpAnyH_ready (rs := [21]) (by kernel_rfl) (by simp) ?_
            refine AllReadyH.cons (by simp only [List.getElem?_toArray, List.getElem?_cons_succ, List.getElem?_cons_zero] <;> rfl) (fun K hK => ?_) AllReadyH.nil
            go_simp
            refine (y2 _ (kA.trans kw3)).mono ?_
            rintro e w4 ⟨rfl, kx⟩
            have kw4 : Keep0 W0 w4 := kw3.trans kx
            clear kx
            go_wp2_with fail
            refine hK.out _ _ ⟨kw4.cell q0 (fun f => f), kw4.cell q1 (fun f => f), kw4.cell q2 (fun f => f), kw4.cell q3 (fun f => f), kw4.cell x0 (fun f => f), kw4.cell x1 (fun f => f), kw4.cell x2 (fun f => f), kw4.cell x3 (fun f => f), kw4.cell bx2 (fun f => f)⟩ (fun hHeld => ?_)
            clear hK K
            refine wpAnyH_take (i := 22) (v := ?d20v) (by simp only [List.getElem?_toArray, List.getElem?_cons_succ, List.getElem?_cons_zero] <;> rfl) (by kernel_rfl) (by kernel_rfl) (by kernel_rfl) (by exact fun _ _ _ h => h) (Or.inl ⟨by rfl, ?d20y⟩) hHeld ?d20r
            case d20y => intro w hSw; (try dsimp only at hSw); go_simp <;> rfl
            simp only [Act.put, List.setIfInBounds_toArray, List.set_cons_zero, List.set_cons_succ]
            refine wpAnyH_take (i := 23) (v := ?d21v) (by simp only [List.getElem?_toArray, List.getElem?_cons_succ, List.getElem?_cons_zero] <;> rfl) (by kernel_rfl) (by kernel_rfl) (by kernel_rfl) (by exact fun _ _ _ h => h) (Or.inl ⟨by rfl, ?d21y⟩) hHeld ?d21r
            case d21y => intro w hSw; (try dsimp only at hSw); go_simp <;> rfl
            simp only [Act.put, List.setIfInBounds_toArray, List.set_cons_zero, List.set_cons_succ]
            refine wpAnyH_take (i := 24) (v := ?d22v) (by simp only [List.getElem?_toArray, List.getElem?_cons_succ, List.getElem?_cons_zero] <;> rfl) (by kernel_rfl) (by kernel_rfl) (by kernel_rfl) (by exact fun _ _ _ h => h) (Or.inl ⟨by rfl, ?d22y⟩) hHeld ?d22r
            case d22y => intro w hSw; (try dsimp only at hSw); go_simp <;> rfl
            simp only [Act.put, List.setIfInBounds_toArray, List.set_cons_zero, List.set_cons_succ]
            refine wpAnyH_done (by kernel_rfl) ?_ _
            have K3 := K0.trans kw4
            clear hHeld K0 kA q0 q1 q2 q3 x0 x1 x2 x3 u0 u1 u2 u3 bx bx2 hK y1 y2 kw3 kw4
            go_wp2
            go_roundw
            case rel => exact ⟨j + 1, by go_num, by omega, HP, K3⟩
            case measure => simp [intOf]; omega
          | false =>
            have HP : Hid (false = r) := HY.out ⟨hji, hc1, fun h => by rw [hc2] at h; cases h.1⟩
            rw [hc2] at y2
            clear HN HY hc1 hc2 hjl
            go_wp2_with fail
            generalize (wr.alloc (.cells #[.slice jo Y.c.length jc, .bool Y.d, .string Y.x.a, .int .u64 (Y.x.n : Int)] 27)) = W0 at *
            generalize wr.heap.size = G at *
            refine wp_region_held_drew (S := (fun W => W.cell? ⟨G, 0, none⟩ = some (.slice jo Y.c.length jc) ∧ W.cell? ⟨G, 0 + 1, none⟩ = some (.bool Y.d) ∧ W.cell? ⟨G, 0 + 2, none⟩ = some (.string Y.x.a) ∧ W.cell? ⟨G, 0 + 3, none⟩ = some (.int .u64 (Y.x.n : Int)) ∧ W.cell? ⟨b, off + i * 4, none⟩ = some (.slice ko Z.c.length kc) ∧ W.cell? ⟨b, off + i * 4 + 1, none⟩ = some (.bool Z.d) ∧ W.cell? ⟨b, off + i * 4 + 2, none⟩ = some (.string Z.x.a) ∧ W.cell? ⟨b, off + i * 4 + 3, none⟩ = some (.int .u64 (Z.x.n : Int)) ∧ W.cell? ⟨C, 0, none⟩ = some (.slice (some ⟨b, off, none⟩) l.length cap))) (by kernel_rfl) ⟨q0, q1, q2, q3, x0, x1, x2, x3, bx2⟩ (fun hHeld => ?_)
            refine wpAnyH_take (i := 0) (v := ?e0v) (by simp only [List.getElem?_toArray, List.getElem?_cons_zero] <;> rfl) (by kernel_rfl) (by kernel_rfl) (by kernel_rfl) (by exact fun _ _ _ h => h) (Or.inl ⟨by rfl, ?e0y⟩) hHeld ?e0r
            case e0y => intro w hSw; (try dsimp only at hSw); go_simp <;> rfl
            simp only [Act.put, List.setIfInBounds_toArray, List.set_cons_zero, List.set_cons_succ]
            refine wpAnyH_take (i := 1) (v := ?e1v) (by simp only [List.getElem?_toArray, List.getElem?_cons_succ, List.getElem?_cons_zero] <;> rfl) (by kernel_rfl) (by kernel_rfl) (by kernel_rfl) (by exact fun _ _ _ h => h) (Or.inl ⟨by rfl, ?e1y⟩) hHeld ?e1r
            case e1y => intro w hSw; (try dsimp only at hSw); go_simp <;> rfl
            simp only [Act.put, List.setIfInBounds_toArray, List.set_cons_zero, List.set_cons_succ]
            refine wpAnyH_take (i := 2) (v := ?e2v) (by simp only [List.getElem?_toArray, List.getElem?_cons_succ, List.getElem?_cons_zero] <;> rfl) (by kernel_rfl) (by kernel_rfl) (by kernel_rfl) (by exact fun _ _ _ h => h) (Or.inl ⟨by rfl, ?e2y⟩) hHeld ?e2r
            case e2y => intro w hSw; (try dsimp only at hSw); go_simp <;> rfl
            simp only [Act.put, List.setIfInBounds_toArray, List.set_cons_zero, List.set_cons_succ]
            refine wpAnyH_take (i := 3) (v := ?e3v) (by simp only [List.getElem?_toArray, List.getElem?_cons_succ, List.getElem?_cons_zero] <;> rfl) (by kernel_rfl) (by kernel_rfl) (by kernel_rfl) (by exact fun _ _ _ h => h) (Or.inl ⟨by rfl, ?e3y⟩) hHeld ?e3r
            case e3y => intro w hSw; (try dsimp only at hSw); go_simp <;> rfl
            simp only [Act.put, List.setIfInBounds_toArray, List.set_cons_zero, List.set_cons_succ]
            refine wpAnyH_take (i := 4) (v := ?e4v) (by simp only [List.getElem?_toArray, List.getElem?_cons_succ, List.getElem?_cons_zero] <;> rfl) (by kernel_rfl) (by kernel_rfl) (by kernel_rfl) (by exact fun _ _ _ h => h) (Or.inl ⟨by rfl, ?e4y⟩) hHeld ?e4r
            case e4y => intro w hSw; (try dsimp only at hSw); go_simp <;> rfl
            simp only [Act.put, List.setIfInBounds_toArray, List.set_cons_zero, List.set_cons_succ]
            refine wpAnyH_take (i := 5) (v := ?e5v) (by simp only [List.getElem?_toArray, List.getElem?_cons_succ, List.getElem?_cons_zero] <;> rfl) (by kernel_rfl) (by kernel_rfl) (by kernel_rfl) (by exact fun _ _ _ h => h) (Or.inl ⟨by rfl, ?e5y⟩) hHeld ?e5r
            case e5y => intro w hSw; (try dsimp only at hSw); go_simp <;> rfl
            simp only [Act.put, List.setIfInBounds_toArray, List.set_cons_zero, List.set_cons_succ]
            refine wpAnyH_take (i := 6) (v := ?e6v) (by simp only [List.getElem?_toArray, List.getElem?_cons_succ, List.getElem?_cons_zero] <;> rfl) (by kernel_rfl) (by kernel_rfl) (by kernel_rfl) (by exact fun _ _ _ h => h) (Or.inl ⟨by rfl, ?e6y⟩) hHeld ?e6r
            case e6y => intro w hSw; (try dsimp only at hSw); go_simp <;> rfl
            simp only [Act.put, List.setIfInBounds_toArray, List.set_cons_zero, List.set_cons_succ]
            refine wpAnyH_take (i := 7) (v := ?e7v) (by simp only [List.getElem?_toArray, List.getElem?_cons_succ, List.getElem?_cons_zero] <;> rfl) (by kernel_rfl) (by kernel_rfl) (by kernel_rfl) (by exact fun _ _ _ h => h) (Or.inl ⟨by rfl, ?e7y⟩) hHeld ?e7r
            case e7y => intro w hSw; (try dsimp only at hSw); go_simp <;> rfl
            simp only [Act.put, List.setIfInBounds_toArray, List.set_cons_zero, List.set_cons_succ]
            refine wpAnyH_take (i := 8) (v := ?e8v) (by simp only [List.getElem?_toArray, List.getElem?_cons_succ, List.getElem?_cons_zero] <;> rfl) (by kernel_rfl) (by kernel_rfl) (by kernel_rfl) (by exact fun _ _ _ h => h) (Or.inl ⟨by rfl, ?e8y⟩) hHeld ?e8r
            case e8y => intro w hSw; (try dsimp only at hSw); go_simp <;> rfl
            simp only [Act.put, List.setIfInBounds_toArray, List.set_cons_zero, List.set_cons_succ]
            refine wpAnyH_ready (rs := [9]) (by kernel_rfl) (by simp) ?_
            refine AllReadyH.cons (by simp only [List.getElem?_toArray, List.getElem?_cons_succ, List.getElem?_cons_zero] <;> rfl) (fun K hK => ?_) AllReadyH.nil
            go_simp
            refine (y1 _ kA.drew).mono ?_
            rintro e w3 ⟨rfl, kx⟩
            have kw3 : Keep0 W0 w3 := ((Keep.refl _ W0).drew).trans kx
            clear kx
            go_wp2_with fail
            refine hK.out _ _ ⟨kw3.cell q0 (fun f => f), kw3.cell q1 (fun f => f), kw3.cell q2 (fun f => f), kw3.cell q3 (fun f => f), kw3.cell x0 (fun f => f), kw3.cell x1 (fun f => f), kw3.cell x2 (fun f => f), kw3.cell x3 (fun f => f), kw3.cell bx2 (fun f => f)⟩ (fun hHeld => ?_)
            clear hK K
            refine wpAnyH_take (i := 10) (v := ?e9v) (by simp only [List.getElem?_toArray, List.getElem?_cons_succ, List.getElem?_cons_zero] <;> rfl) (by kernel_rfl) (by kernel_rfl) (by kernel_rfl) (by exact fun _ _ _ h => h) (Or.inl ⟨by rfl, ?e9y⟩) hHeld ?e9r
            case e9y => intro w hSw; (try dsimp only at hSw); go_simp <;> rfl
            simp only [Act.put, List.setIfInBounds_toArray, List.set_cons_zero, List.set_cons_succ]
            refine wpAnyH_take (i := 11) (v := ?e10v) (by simp only [List.getElem?_toArray, List.getElem?_cons_succ, List.getElem?_cons_zero] <;> rfl) (by kernel_rfl) (by kernel_rfl) (by kernel_rfl) (by exact fun _ _ _ h => h) (Or.inl ⟨by rfl, ?e10y⟩) hHeld ?e10r
            case e10y => intro w hSw; (try dsimp only at hSw); go_simp <;> rfl
            simp only [Act.put, List.setIfInBounds_toArray, List.set_cons_zero, List.set_cons_succ]
            refine wpAnyH_take (i := 12) (v := ?e11v) (by simp only [List.getElem?_toArray, List.getElem?_cons_succ, List.getElem?_cons_zero] <;> rfl) (by kernel_rfl) (by kernel_rfl) (by kernel_rfl) (by exact fun _ _ _ h => h) (Or.inl ⟨by rfl, ?e11y⟩) hHeld ?e11r
            case e11y => intro w hSw; (try dsimp only at hSw); go_simp <;> rfl
            simp only [Act.put, List.setIfInBounds_toArray, List.set_cons_zero, List.set_cons_succ]
            refine wpAnyH_take (i := 13) (v := ?e12v) (by simp only [List.getElem?_toArray, List.getElem?_cons_succ, List.getElem?_cons_zero] <;> rfl) (by kernel_rfl) (by kernel_rfl) (by kernel_rfl) (by exact fun _ _ _ h => h) (Or.inl ⟨by rfl, ?e12y⟩) hHeld ?e12r
            case e12y => intro w hSw; (try dsimp only at hSw); go_simp <;> rfl
            simp only [Act.put, List.setIfInBounds_toArray, List.set_cons_zero, List.set_cons_succ]
            refine wpAnyH_take (i := 14) (v := ?e13v) (by simp only [List.getElem?_toArray, List.getElem?_cons_succ, List.getElem?_cons_zero] <;> rfl) (by kernel_rfl) (by kernel_rfl) (by kernel_rfl) (by exact fun _ _ _ h => h) (Or.inl ⟨by rfl, ?e13y⟩) hHeld ?e13r
            case e13y => intro w hSw; (try dsimp only at hSw); go_simp <;> rfl
            simp only [Act.put, List.setIfInBounds_toArray, List.set_cons_zero, List.set_cons_succ]
            refine wpAnyH_take (i := 15) (v := ?e14v) (by simp only [List.getElem?_toArray, List.getElem?_cons_succ, List.getElem?_cons_zero] <;> rfl) (by kernel_rfl) (by kernel_rfl) (by kernel_rfl) (by exact fun _ _ _ h => h) (Or.inl ⟨by rfl, ?e14y⟩) hHeld ?e14r
            case e14y => intro w hSw; (try dsimp only at hSw); go_simp <;> rfl
            simp only [Act.put, List.setIfInBounds_toArray, List.set_cons_zero, List.set_cons_succ]
            refine wpAnyH_take (i := 16) (v := ?e15v) (by simp only [List.getElem?_toArray, List.getElem?_cons_succ, List.getElem?_cons_zero] <;> rfl) (by kernel_rfl) (by kernel_rfl) (by kernel_rfl) (by exact fun _ _ _ h => h) (Or.inl ⟨by rfl, ?e15y⟩) hHeld ?e15r
            case e15y => intro w hSw; (try dsimp only at hSw); go_simp <;> rfl
            simp only [Act.put, List.setIfInBounds_toArray, List.set_cons_zero, List.set_cons_succ]
            refine wpAnyH_take (i := 17) (v := ?e16v) (by simp only [List.getElem?_toArray, List.getElem?_cons_succ, List.getElem?_cons_zero] <;> rfl) (by kernel_rfl) (by kernel_rfl) (by kernel_rfl) (by exact fun _ _ _ h => h) (Or.inl ⟨by rfl, ?e16y⟩) hHeld ?e16r
            case e16y => intro w hSw; (try dsimp only at hSw); go_simp <;> rfl
            simp only [Act.put, List.setIfInBounds_toArray, List.set_cons_zero, List.set_cons_succ]
            refine wpAnyH_take (i := 18) (v := ?e17v) (by simp only [List.getElem?_toArray, List.getElem?_cons_succ, List.getElem?_cons_zero] <;> rfl) (by kernel_rfl) (by kernel_rfl) (by kernel_rfl) (by exact fun _ _ _ h => h) (Or.inl ⟨by rfl, ?e17y⟩) hHeld ?e17r
            case e17y => intro w hSw; (try dsimp only at hSw); go_simp <;> rfl
            simp only [Act.put, List.setIfInBounds_toArray, List.set_cons_zero, List.set_cons_succ]
            refine wpAnyH_take (i := 19) (v := ?e18v) (by simp only [List.getElem?_toArray, List.getElem?_cons_succ, List.getElem?_cons_zero] <;> rfl) (by kernel_rfl) (by kernel_rfl) (by kernel_rfl) (by exact fun _ _ _ h => h) (Or.inl ⟨by rfl, ?e18y⟩) hHeld ?e18r
            case e18y => intro w hSw; (try dsimp only at hSw); go_simp <;> rfl
            simp only [Act.put, List.setIfInBounds_toArray, List.set_cons_zero, List.set_cons_succ]
            refine wpAnyH_take (i := 20) (v := ?e19v) (by simp only [List.getElem?_toArray, List.getElem?_cons_succ, List.getElem?_cons_zero] <;> rfl) (by kernel_rfl) (by kernel_rfl) (by kernel_rfl) (by exact fun _ _ _ h => h) (Or.inl ⟨by rfl, ?e19y⟩) hHeld ?e19r
            case e19y => intro w hSw; (try dsimp only at hSw); go_simp <;> rfl
            simp only [Act.put, List.setIfInBounds_toArray, List.set_cons_zero, List.set_cons_succ]
            refine wpAnyH_ready (rs := [21]) (by kernel_rfl) (by simp) ?_
            refine AllReadyH.cons (by simp only [List.getElem?_toArray, List.getElem?_cons_succ, List.getElem?_cons_zero] <;> rfl) (fun K hK => ?_) AllReadyH.nil
            go_simp
            refine (y2 _ (kA.trans kw3)).mono ?_
            rintro e w4 ⟨rfl, kx⟩
            have kw4 : Keep0 W0 w4 := kw3.trans kx
            clear kx
            go_wp2_with fail
            refine hK.out _ _ ⟨kw4.cell q0 (fun f => f), kw4.cell q1 (fun f => f), kw4.cell q2 (fun f => f), kw4.cell q3 (fun f => f), kw4.cell x0 (fun f => f), kw4.cell x1 (fun f => f), kw4.cell x2 (fun f => f), kw4.cell x3 (fun f => f), kw4.cell bx2 (fun f => f)⟩ (fun hHeld => ?_)
            clear hK K
            refine wpAnyH_take (i := 22) (v := ?e20v) (by simp only [List.getElem?_toArray, List.getElem?_cons_succ, List.getElem?_cons_zero] <;> rfl) (by kernel_rfl) (by kernel_rfl) (by kernel_rfl) (by exact fun _ _ _ h => h) (Or.inl ⟨by rfl, ?e20y⟩) hHeld ?e20r
            case e20y => intro w hSw; (try dsimp only at hSw); go_simp <;> rfl
            simp only [Act.put, List.setIfInBounds_toArray, List.set_cons_zero, List.set_cons_succ]
            refine wpAnyH_take (i := 23) (v := ?e21v) (by simp only [List.getElem?_toArray, List.getElem?_cons_succ, List.getElem?_cons_zero] <;> rfl) (by kernel_rfl) (by kernel_rfl) (by kernel_rfl) (by exact fun _ _ _ h => h) (Or.inl ⟨by rfl, ?e21y⟩) hHeld ?e21r
            case e21y => intro w hSw; (try dsimp only at hSw); go_simp <;> rfl
            simp only [Act.put, List.setIfInBounds_toArray, List.set_cons_zero, List.set_cons_succ]
            refine wpAnyH_take (i := 24) (v := ?e22v) (by simp only [List.getElem?_toArray, List.getElem?_cons_succ, List.getElem?_cons_zero] <;> rfl) (by kernel_rfl) (by kernel_rfl) (by kernel_rfl) (by exact fun _ _ _ h => h) (Or.inl ⟨by rfl, ?e22y⟩) hHeld ?e22r
            case e22y => intro w hSw; (try dsimp only at hSw); go_simp <;> rfl
            simp only [Act.put, List.setIfInBounds_toArray, List.set_cons_zero, List.set_cons_succ]
            refine wpAnyH_done (by kernel_rfl) ?_ _
            have K3 := K0.trans kw4
            clear hHeld K0 kA q0 q1 q2 q3 x0 x1 x2 x3 u0 u1 u2 u3 bx bx2 hK y1 y2 kw3 kw4
            go_wp2
            go_ret
            exact ⟨by rw [← HP.out]; rfl, K3⟩
    · have i1 : ¬ (j : Int) < l.length := by omega
      have hd := HJ.out
      have ej : j = l.length := by omega
      rw [ej, keepTo_all, HR.out] at hd
      have HD : Hid (true = r) := hd.symm
      clear hd HJ ej HR
      go_wp2
      go_ret
      exact ⟨by rw [← HD.out]; rfl, hK⟩

/-! ### Keep -/
set_option maxRecDepth 100000 in
set_option maxHeartbeats 8000000 in
theorem keep12 (w : World) (ao : Option Addr) (cap : Nat) (l : List Ck) (hl : l.length ≤ 100) (hf : ∀ k ∈ l, Ok12 k) (hc : ClksAt w ao l) :
    Calls Try.prog 20 #[.slice ao l.length cap] w (RNumsE (kKeep l) w) := by
  have HF : Hid (∀ k ∈ l, Ok12 k) := hf
  have hl' : (l.length : Int) ≤ 9223372036854775807 := by omega
  have HE : Hid (∀ (W : World) (e : Ending), kKeep l = ([], 1) → e = .returned (.tuple #[.slice none 0 0, .int .i64 1]) → Keep0 w W → RNumsE (kKeep l) w e W) := fun _ _ h1 h2 h3 => RNumsE.bare h1 h2 h3
  have HM : Hid (∀ (W : World) (e : Ending) (O : List Nat) (so : Option Addr) (sc : Nat), kKeep l = (O, 0) → e = .returned (.tuple #[.slice so O.length sc, .int .i64 0]) → NumsAt W so O → Keep0 w W → RNumsE (kKeep l) w e W) := fun _ _ _ _ _ h1 h2 h3 h4 => RNumsE.mk h1 h2 h3 h4
  have kA : Keep0 w (w.alloc (.cells #[.slice ao l.length cap] 37)) := (Keep.refl _ w).alloc _
  have bx : (w.alloc (.cells #[.slice ao l.length cap] 37)).cell? ⟨w.heap.size, 0, none⟩ = some (.slice ao l.length cap) := cell_alloc _ 37 rfl
  have hcA := hc.keep0 kA
  have yr := right12 _ ao cap l (by omega) hf hcA
  have hzA : (w.alloc (.cells #[.slice ao l.length cap] 37)).heap.size = w.heap.size + 1 := World.size_alloc _ _
  clear hc hf
  cases hR : kRights l with
  | false =>
    have HV : Hid (kKeep l = ([], 1)) := by
      show kKeep l = _
      unfold kKeep
      rw [hR]
      exact if_neg (by decide)
    rw [hR] at yr
    clear hR hcA hzA
    go_enter Try.func20, Try.ntmps20
    go_wp2_with fail
    generalize (w.alloc (.cells #[.slice ao l.length cap] 37)) = W0 at *
    refine yr.mono ?_
    rintro e w1 ⟨rfl, k1⟩
    have K1 := kA.trans k1
    clear yr kA k1
    go_wp2
    go_ret2
    exact HE.out _ _ HV.out rfl K1
  | true =>
    have HV : Hid (kKeep l = (kKept l, 0)) := by
      show kKeep l = _
      unfold kKeep
      rw [if_pos hR]
    rw [hR] at yr
    clear hR HE
    go_enter Try.func20, Try.ntmps20
    go_wp2_with fail
    generalize (w.alloc (.cells #[.slice ao l.length cap] 37)) = W0 at *
    generalize hC : w.heap.size = C at *
    have HCw : Hid (w.heap.size = C) := hC
    clear hC
    refine yr.mono ?_
    rintro e w1 ⟨rfl, k1⟩
    have bx1 := k1.cell bx (fun f => f)
    have HBx : Hid (w1.cell? ⟨C, 0, none⟩ = some (.slice ao l.length cap)) := bx1
    have HC1 : Hid (ClksAt w1 ao l) := hcA.keep0 k1
    have K1 := kA.trans k1
    have hs1 : C + 1 ≤ w1.heap.size := by have := k1.size; omega
    clear yr kA k1 bx hcA hzA
    have HO : Hid (w1.ownsRow w1.heap.size 3 1 (.slice none 0 0) 0 (numCells [])) := ⟨rfl, .inl ⟨rfl, rfl⟩⟩
    have HKr : Hid (Keep0 w1 w1) := Keep.refl _ _
    have HK1 : Hid (Keep0 w w1) := K1
    clear K1
    go_wp2_with fail
    clear bx1
    go_loopw [5, 13] (fun v i wr => ∃ (k : Nat) (O : List Nat), i = .int .i64 (k : Int) ∧ k ≤ l.length ∧ Hid (O = keptTo l k) ∧ O.length ≤ k ∧ Hid (wr.ownsRow w1.heap.size 3 1 v O.length (numCells O)) ∧ Keep0 w1 wr) (fun _ i _ => l.length - (intOf i).toNat)
    case atStart => exact ⟨0, [], rfl, by omega, rfl, by simp, HO, Keep.refl _ _⟩
    case round =>
      obtain ⟨k, O, rfl, hk, HOk, hOl, HOw, hK⟩ := hrel
      have hK0 : Keep0 w1 wr := hK
      clear HO HKr
      have hown := HOw.out
      obtain ⟨vo0, vn0, vc0, rfl⟩ := sliceE_of_own hown
      have HOr : Hid (wr.ownsRow w1.heap.size 3 1 (.slice vo0 vn0 vc0) O.length (numCells O)) := hown
      clear hown HOw
      by_cases hlt : k < l.length
      · have i1 : (k : Int) < l.length := by omega
        have yd := drop12 wr ao cap C l hl HF.out (HC1.out.keep0 hK0) (hK0.cell HBx.out (fun f => f)) k hlt
        have HO2 := keptTo_succ l k
        cases hka : keepAt l k with
        | false =>
          have HO3 : Hid (O = keptTo l (k + 1)) := by show _ = _; rw [HO2, if_neg (by rw [hka]; decide), List.append_nil]; exact HOk.out
          rw [hka] at yd
          clear HO2 hka HOk
          go_wp2_with fail
          refine yd.mono ?_
          rintro e w2 ⟨rfl, k2⟩
          have K2 := hK.trans k2
          have HOr2 : Hid (w2.ownsRow w1.heap.size 3 1 (.slice vo0 vn0 vc0) O.length (numCells O)) := rowE_keep HOr.out k2 (fun _ _ f => f)
          clear yd k2 hK hK0 HOr
          go_wp2
          go_roundw
          case rel => exact ⟨k + 1, O, by go_num, by omega, HO3, by omega, HOr2, K2⟩
          case measure => simp [intOf]; omega
        | true =>
          have HO3 : Hid (O ++ [k] = keptTo l (k + 1)) := by show _ = _; rw [HO2, if_pos hka, HOk.out]
          rw [hka] at yd
          clear HO2 hka HOk
          go_wp2_with fail
          refine yd.mono ?_
          rintro e w2 ⟨rfl, k2⟩
          have K2 := hK.trans k2
          have hs3 : w1.heap.size ≤ w2.heap.size := by have h1 := k2.size; have h2 := hK0.size; omega
          have kN : Keep0 w2 (w2.alloc (.cells #[.int .i64 (k : Int)] 3)) := (Keep.refl _ w2).alloc _
          have hrow : (w2.alloc (.cells #[.int .i64 (k : Int)] 3)).ownsRow w1.heap.size 3 1 (.slice vo0 vn0 vc0) O.length (numCells O) := rowE_keep HOr.out (k2.trans kN) (fun _ _ f => f)
          have hcell : (w2.alloc (.cells #[.int .i64 (k : Int)] 3)).cell? ⟨w2.heap.size, 0, none⟩ = some (.int .i64 (k : Int)) := cell_alloc _ 3 rfl
          have hBB : w1.heap.size ≤ (w2.alloc (.cells #[.int .i64 (k : Int)] 3)).heap.size := by have := kN.size; omega
          have hOl2 : O.length ≤ 100000 := by omega
          have K3 := K2.trans kN
          clear yd k2 hK hK0 HOr kN K2
          go_wp2_with (at_builtin; refine wpList_append_num rfl _ _ rfl rfl rfl hrow hcell hBB hOl2 ?_)
          intro v' w4 g1 g2
          have g1 : w4.ownsRow w1.heap.size 3 1 v' (O ++ [k]).length (numCells (O ++ [k])) := by simpa using g1
          have HOr2 : Hid (w4.ownsRow w1.heap.size 3 1 v' (O ++ [k]).length (numCells (O ++ [k]))) := g1
          have K4 : Keep0 w1 w4 := K3.ownGrown g2 (fun g hg => (hrow.lt g hg).1)
          obtain ⟨so, sn, sc, rfl⟩ := sliceE_of_own g1
          clear g1 g2 K3 hrow hcell hBB
          go_wp2
          go_roundw
          case rel => exact ⟨k + 1, O ++ [k], by go_num, by omega, HO3, by rw [List.length_append]; simp; omega, HOr2, K4⟩
          case measure => simp [intOf]; omega
      · have i1 : ¬ (k : Int) < l.length := by omega
        have ek : k = l.length := by omega
        have ho := HOk.out
        rw [ek] at ho
        obtain ⟨so, sc, e3, hN, _⟩ := nums_of_row12 HOr.out
        rw [e3]
        have HNs : Hid (NumsAt wr so O) := hN
        have HV2 : Hid (kKeep l = (O, 0)) := by show _ = _; rw [HV.out, ho]; rfl
        have K5 := HK1.out.trans hK0
        clear HOk ho e3 hN HOr HV ek hK hK0
        go_wp2
        go_ret2
        exact HM.out _ _ O so sc HV2.out rfl HNs.out K5

/-! ### Plain -/
set_option maxRecDepth 100000 in
set_option maxHeartbeats 4000000 in
theorem plain12 (w : World) (ao : Option Addr) (cap : Nat) (v : List En) (hv : v.length ≤ 10000) (hc : EnsAt w ao v) :
    Calls Try.prog 10 #[.slice ao v.length cap] w fun e w' => ∃ bo c, e = .returned (.agg #[.slice bo v.length c, .bool false, .string ⟨#[]⟩, .int .u64 0]) ∧ EnsAt w' bo v ∧ Keep0 w w' := by
  have HP : Hid (∀ (e : Ending) (W : World) (bo : Option Addr) (c : Nat), e = .returned (.agg #[.slice bo v.length c, .bool false, .string ⟨#[]⟩, .int .u64 0]) → EnsAt W bo v → Keep0 w W → ∃ bo c, e = .returned (.agg #[.slice bo v.length c, .bool false, .string ⟨#[]⟩, .int .u64 0]) ∧ EnsAt W bo v ∧ Keep0 w W) := fun e W bo c h1 h2 h3 => ⟨bo, c, h1, h2, h3⟩
  have kA : Keep0 w (w.alloc (.cells #[.slice none 0 0, .bool false, .string ⟨#[]⟩, .int .u64 0] 27)) := (Keep.refl _ w).alloc _
  have qA := QAt.new w 27 (.slice none 0 0) (.bool false) (.string ⟨#[]⟩) (.int .u64 0)
  have hz : (w.alloc (.cells #[.slice none 0 0, .bool false, .string ⟨#[]⟩, .int .u64 0] 27)).heap.size = w.heap.size + 1 := World.size_alloc _ _
  have hE := hc.keep0 kA
  have hown : (w.alloc (.cells #[.slice none 0 0, .bool false, .string ⟨#[]⟩, .int .u64 0] 27)).ownsRow (w.heap.size + 1) 25 2 (.slice none 0 0) ([] : List En).length (enCells []) := ⟨rfl, .inl ⟨rfl, rfl⟩⟩
  have hb : w.heap.size + 1 ≤ (w.alloc (.cells #[.slice none 0 0, .bool false, .string ⟨#[]⟩, .int .u64 0] 27)).heap.size := by omega
  have hlen : ([] : List En).length + v.length ≤ 1000000 := by show 0 + v.length ≤ 1000000; omega
  clear hc hz
  go_enter Try.func10, Try.ntmps10
  go_wp2_with (at_builtin; refine wpList_append_ens (l := []) rfl _ _ rfl rfl rfl hown hE hb hlen ?_)
  intro va w2 hxa hga
  generalize (w.alloc (.cells #[.slice none 0 0, .bool false, .string ⟨#[]⟩, .int .u64 0] 27)) = W0 at *
  have k2 : Keep0 W0 w2 := (Keep.refl _ W0).ownGrown hga (fun g hg => by cases hg)
  obtain ⟨vo, vc, rfl, hEv, hVb, _⟩ := ens_of_row hxa
  have q2 := qA.keep0 k2
  have HQ : Hid (QAt w2 w.heap.size (.slice none 0 0) (.bool false) (.string ⟨#[]⟩) (.int .u64 0)) := q2
  have K2 := kA.trans k2
  have HE2 : Hid (EnsAt w2 vo v) := hEv
  have HVb : Hid (∀ b off m, vo = some ⟨b, off, m⟩ → w.heap.size + 1 ≤ b) := hVb
  have HK2 : Hid (Keep0 w w2) := K2
  obtain ⟨c0, c1, c2, c3, f0, f1, f2, f3⟩ := q2.cells
  clear hxa hga kA qA hE hown hb hlen k2 q2 hEv hVb K2
  go_wp2_with fail
  refine bodyPost_ret (retCk rfl _ _ _ rfl (HQ.out.put _ _ _ _)) rfl ?_
  refine HP.out _ _ vo vc rfl (HE2.out.keep (put4_keep w2 _ _ _ _ _) (fun b off m e f => by have h1 := HVb.out b off m e; have h2 : b = w.heap.size := f; omega)) ?_
  exact HK2.out.step (put4_keep w2 _ _ _ _ _) (fun i hi f => by have h2 : i = w.heap.size := f; omega)

/-- What package dotted's functions answer. -/
theorem dotCode : DotCode := {
  check := check12
  knows := fun w ao cap k ok hc s n _ _ => knows12 w ao cap k ok hc s n
  covers := covers12
  same := same12
  ceiling := ceil12
  keep := keep12
  plain := fun w ao cap v _ hv hc => plain12 w ao cap v hv hc }
end Go.Proofs.Ytkbihpdfafapeaa
