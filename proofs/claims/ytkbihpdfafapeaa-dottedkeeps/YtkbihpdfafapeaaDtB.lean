/-
  Contracts of package dotted's knows, reach and covers, each proved over this seat's translation.
  Conditions: at most 10,000 entries a vector; each actor takes at most the greatest length that a text may have.
-/
import Derived.Test.YtkbihpdfafapeaaDtA
namespace Go.Proofs.Ytkbihpdfafapeaa
open Go.RowKit

set_option maxRecDepth 100000 in
set_option maxHeartbeats 4000000 in
theorem know12_any (w : World) (ao : Option Addr) (cap : Nat) (c : List En) (d : Bool) (a : ByteArray) (n : Nat) (ok : Ok10 c) (hc : EnsAt w ao c) (s : ByteArray) (m : Nat) :
    Calls Try.prog 32 #[.agg #[.slice ao c.length cap, .bool d, .string a, .int .u64 (n : Int)], .agg #[.string s, .int .u64 (m : Int)]] w fun e w' => e = .returned (.bool (kKnows ⟨c, d, ⟨a, n⟩⟩ s m)) ∧ Keep0 w w' := by
  by_cases h0 : m = 0
  · subst h0
    rw [knows_zero]
    have kA : ∀ o o', Keep0 w ((w.alloc o).alloc o') := fun o o' => ((Keep.refl _ w).alloc o).alloc o'
    clear hc ok
    generalize c.length = CL at *
    go_enter Try.func32, Try.ntmps32
    go_wp2
    go_ret
    exact ⟨rfl, kA _ _⟩
  have j0 : ((m : Int) == 0) = false := beq_eq_false_iff_ne.2 (by omega)
  have j1 : ¬ (m : Int) = 0 := by omega
  have yq := fun W (K : Keep0 w W) => count10 W ao cap c ok (hc.keep0 K) s
  by_cases h9 : m ≤ vCount c s
  · rw [knows_iff.2 ⟨h0, Or.inr h9⟩]
    have i8 : (m : Int) ≤ (vCount c s : Int) := by omega
    clear h9
    have kA : Keep0 w (w.alloc (.cells #[.slice ao c.length cap, .bool d, .string a, .int .u64 (n : Int)] 27)) := (Keep.refl _ w).alloc _
    have kB : Keep0 (w.alloc (.cells #[.slice ao c.length cap, .bool d, .string a, .int .u64 (n : Int)] 27)) ((w.alloc (.cells #[.slice ao c.length cap, .bool d, .string a, .int .u64 (n : Int)] 27)).alloc (.cells #[.string s, .int .u64 (m : Int)] 25)) := (Keep.refl _ _).alloc _
    have zA : (w.alloc (.cells #[.slice ao c.length cap, .bool d, .string a, .int .u64 (n : Int)] 27)).heap.size = w.heap.size + 1 := World.size_alloc _ _
    obtain ⟨x0, x1, x2, x3⟩ := (clk_new w 27 ⟨c, d, ⟨a, n⟩⟩ ao cap).keep0 kB
    have q0 : ((w.alloc (.cells #[.slice ao c.length cap, .bool d, .string a, .int .u64 (n : Int)] 27)).alloc (.cells #[.string s, .int .u64 (m : Int)] 25)).cell? ⟨w.heap.size + 1, 0, none⟩ = some (.string s) := by rw [← zA]; exact cell_alloc _ 25 rfl
    have q1 : ((w.alloc (.cells #[.slice ao c.length cap, .bool d, .string a, .int .u64 (n : Int)] 27)).alloc (.cells #[.string s, .int .u64 (m : Int)] 25)).cell? ⟨w.heap.size + 1, 1, none⟩ = some (.int .u64 (m : Int)) := by rw [← zA]; exact cell_alloc _ 25 rfl
    have K2 := kA.trans kB
    generalize (vCount c s : Int) = VC at *
    clear kA kB zA hc ok h0
    generalize c.length = CL at *
    go_enter Try.func32, Try.ntmps32
    go_wp2_with fail
    generalize ((w.alloc (.cells #[.slice ao CL cap, .bool d, .string a, .int .u64 (n : Int)] 27)).alloc (.cells #[.string s, .int .u64 (m : Int)] 25)) = W0 at *
    generalize w.heap.size = B at *
    refine wp_region_held_drew (S := (fun W => W.cell? ⟨B, 0, none⟩ = some (.slice ao CL cap) ∧ W.cell? ⟨B, 1, none⟩ = some (.bool d) ∧ W.cell? ⟨B, 2, none⟩ = some (.string a) ∧ W.cell? ⟨B, 3, none⟩ = some (.int .u64 (n : Int)) ∧ W.cell? ⟨B + 1, 0, none⟩ = some (.string s) ∧ W.cell? ⟨B + 1, 1, none⟩ = some (.int .u64 (m : Int)))) (by kernel_rfl) ⟨x0, x1, x2, x3, q0, q1⟩ (fun hHeld => ?_)
    refine wpAnyH_take (i := 0) (v := ?a0v) (by simp only [List.getElem?_toArray, List.getElem?_cons_zero] <;> rfl) (by kernel_rfl) (by kernel_rfl) (by kernel_rfl) (by exact fun _ _ _ h => h) (Or.inl ⟨by rfl, ?a0y⟩) hHeld ?a0r
    case a0y => intro w hSw; (try dsimp only at hSw); go_simp <;> rfl
    simp only [Act.put, List.setIfInBounds_toArray, List.set_cons_zero, List.set_cons_succ]
    refine wpAnyH_take (i := 1) (v := ?a1v) (by simp only [List.getElem?_toArray, List.getElem?_cons_succ, List.getElem?_cons_zero] <;> rfl) (by kernel_rfl) (by kernel_rfl) (by kernel_rfl) (by exact fun _ _ _ h => h) (Or.inl ⟨by rfl, ?a1y⟩) hHeld ?a1r
    case a1y => intro w hSw; (try dsimp only at hSw); go_simp <;> rfl
    simp only [Act.put, List.setIfInBounds_toArray, List.set_cons_zero, List.set_cons_succ]
    refine wpAnyH_take (i := 2) (v := ?a2v) (by simp only [List.getElem?_toArray, List.getElem?_cons_succ, List.getElem?_cons_zero] <;> rfl) (by kernel_rfl) (by kernel_rfl) (by kernel_rfl) (by exact fun _ _ _ h => h) (Or.inl ⟨by rfl, ?a2y⟩) hHeld ?a2r
    case a2y => intro w hSw; (try dsimp only at hSw); go_simp <;> rfl
    simp only [Act.put, List.setIfInBounds_toArray, List.set_cons_zero, List.set_cons_succ]
    refine wpAnyH_take (i := 3) (v := ?a3v) (by simp only [List.getElem?_toArray, List.getElem?_cons_succ, List.getElem?_cons_zero] <;> rfl) (by kernel_rfl) (by kernel_rfl) (by kernel_rfl) (by exact fun _ _ _ h => h) (Or.inl ⟨by rfl, ?a3y⟩) hHeld ?a3r
    case a3y => intro w hSw; (try dsimp only at hSw); go_simp <;> rfl
    simp only [Act.put, List.setIfInBounds_toArray, List.set_cons_zero, List.set_cons_succ]
    refine wpAnyH_take (i := 4) (v := ?a4v) (by simp only [List.getElem?_toArray, List.getElem?_cons_succ, List.getElem?_cons_zero] <;> rfl) (by kernel_rfl) (by kernel_rfl) (by kernel_rfl) (by exact fun _ _ _ h => h) (Or.inl ⟨by rfl, ?a4y⟩) hHeld ?a4r
    case a4y => intro w hSw; (try dsimp only at hSw); go_simp <;> rfl
    simp only [Act.put, List.setIfInBounds_toArray, List.set_cons_zero, List.set_cons_succ]
    refine wpAnyH_take (i := 5) (v := ?a5v) (by simp only [List.getElem?_toArray, List.getElem?_cons_succ, List.getElem?_cons_zero] <;> rfl) (by kernel_rfl) (by kernel_rfl) (by kernel_rfl) (by exact fun _ _ _ h => h) (Or.inl ⟨by rfl, ?a5y⟩) hHeld ?a5r
    case a5y => intro w hSw; (try dsimp only at hSw); go_simp <;> rfl
    simp only [Act.put, List.setIfInBounds_toArray, List.set_cons_zero, List.set_cons_succ]
    refine wpAnyH_ready (rs := [6]) (by kernel_rfl) (by simp) ?_
    refine AllReadyH.cons (by simp only [List.getElem?_toArray, List.getElem?_cons_succ, List.getElem?_cons_zero] <;> rfl) (fun K hK => ?_) AllReadyH.nil
    go_simp
    refine (yq _ K2.drew).mono ?_
    rintro e w3 ⟨rfl, kx⟩
    have kw3 : Keep0 W0 w3 := ((Keep.refl _ W0).drew).trans kx
    clear kx
    go_wp2_with fail
    refine hK.out _ _ ⟨kw3.cell x0 (fun f => f), kw3.cell x1 (fun f => f), kw3.cell x2 (fun f => f), kw3.cell x3 (fun f => f), kw3.cell q0 (fun f => f), kw3.cell q1 (fun f => f)⟩ (fun hHeld => ?_)
    clear hK K
    refine wpAnyH_take (i := 7) (v := ?a6v) (by simp only [List.getElem?_toArray, List.getElem?_cons_succ, List.getElem?_cons_zero] <;> rfl) (by kernel_rfl) (by kernel_rfl) (by kernel_rfl) (by exact fun _ _ _ h => h) (Or.inl ⟨by rfl, ?a6y⟩) hHeld ?a6r
    case a6y => intro w hSw; (try dsimp only at hSw); go_simp <;> rfl
    simp only [Act.put, List.setIfInBounds_toArray, List.set_cons_zero, List.set_cons_succ]
    refine wpAnyH_take (i := 8) (v := ?a7v) (by simp only [List.getElem?_toArray, List.getElem?_cons_succ, List.getElem?_cons_zero] <;> rfl) (by kernel_rfl) (by kernel_rfl) (by kernel_rfl) (by exact fun _ _ _ h => h) (Or.inl ⟨by rfl, ?a7y⟩) hHeld ?a7r
    case a7y => intro w hSw; (try dsimp only at hSw); go_simp <;> rfl
    simp only [Act.put, List.setIfInBounds_toArray, List.set_cons_zero, List.set_cons_succ]
    refine wpAnyH_take (i := 9) (v := undef) (by simp only [List.getElem?_toArray, List.getElem?_cons_succ, List.getElem?_cons_zero] <;> rfl) (by kernel_rfl) (by kernel_rfl) (by kernel_rfl) (by exact fun _ _ _ h => h) (Or.inr ⟨by rfl, rfl⟩) hHeld ?a8r
    simp only [Act.put, List.setIfInBounds_toArray, List.set_cons_zero, List.set_cons_succ]
    refine wpAnyH_take (i := 10) (v := undef) (by simp only [List.getElem?_toArray, List.getElem?_cons_succ, List.getElem?_cons_zero] <;> rfl) (by kernel_rfl) (by kernel_rfl) (by kernel_rfl) (by exact fun _ _ _ h => h) (Or.inr ⟨by rfl, rfl⟩) hHeld ?a9r
    simp only [Act.put, List.setIfInBounds_toArray, List.set_cons_zero, List.set_cons_succ]
    refine wpAnyH_take (i := 11) (v := undef) (by simp only [List.getElem?_toArray, List.getElem?_cons_succ, List.getElem?_cons_zero] <;> rfl) (by kernel_rfl) (by kernel_rfl) (by kernel_rfl) (by exact fun _ _ _ h => h) (Or.inr ⟨by rfl, rfl⟩) hHeld ?a10r
    simp only [Act.put, List.setIfInBounds_toArray, List.set_cons_zero, List.set_cons_succ]
    refine wpAnyH_take (i := 12) (v := undef) (by simp only [List.getElem?_toArray, List.getElem?_cons_succ, List.getElem?_cons_zero] <;> rfl) (by kernel_rfl) (by kernel_rfl) (by kernel_rfl) (by exact fun _ _ _ h => h) (Or.inr ⟨by rfl, rfl⟩) hHeld ?a11r
    simp only [Act.put, List.setIfInBounds_toArray, List.set_cons_zero, List.set_cons_succ]
    refine wpAnyH_take (i := 13) (v := undef) (by simp only [List.getElem?_toArray, List.getElem?_cons_succ, List.getElem?_cons_zero] <;> rfl) (by kernel_rfl) (by kernel_rfl) (by kernel_rfl) (by exact fun _ _ _ h => h) (Or.inr ⟨by rfl, rfl⟩) hHeld ?a12r
    simp only [Act.put, List.setIfInBounds_toArray, List.set_cons_zero, List.set_cons_succ]
    refine wpAnyH_take (i := 14) (v := undef) (by simp only [List.getElem?_toArray, List.getElem?_cons_succ, List.getElem?_cons_zero] <;> rfl) (by kernel_rfl) (by kernel_rfl) (by kernel_rfl) (by exact fun _ _ _ h => h) (Or.inr ⟨by rfl, rfl⟩) hHeld ?a13r
    simp only [Act.put, List.setIfInBounds_toArray, List.set_cons_zero, List.set_cons_succ]
    refine wpAnyH_take (i := 15) (v := undef) (by simp only [List.getElem?_toArray, List.getElem?_cons_succ, List.getElem?_cons_zero] <;> rfl) (by kernel_rfl) (by kernel_rfl) (by kernel_rfl) (by exact fun _ _ _ h => h) (Or.inr ⟨by rfl, rfl⟩) hHeld ?a14r
    simp only [Act.put, List.setIfInBounds_toArray, List.set_cons_zero, List.set_cons_succ]
    refine wpAnyH_take (i := 16) (v := undef) (by simp only [List.getElem?_toArray, List.getElem?_cons_succ, List.getElem?_cons_zero] <;> rfl) (by kernel_rfl) (by kernel_rfl) (by kernel_rfl) (by exact fun _ _ _ h => h) (Or.inr ⟨by rfl, rfl⟩) hHeld ?a15r
    simp only [Act.put, List.setIfInBounds_toArray, List.set_cons_zero, List.set_cons_succ]
    refine wpAnyH_take (i := 17) (v := ?a16v) (by simp only [List.getElem?_toArray, List.getElem?_cons_succ, List.getElem?_cons_zero] <;> rfl) (by kernel_rfl) (by kernel_rfl) (by kernel_rfl) (by exact fun _ _ _ h => h) (Or.inl ⟨by rfl, ?a16y⟩) hHeld ?a16r
    case a16y => intro w hSw; (try dsimp only at hSw); go_simp <;> rfl
    simp only [Act.put, List.setIfInBounds_toArray, List.set_cons_zero, List.set_cons_succ]
    refine wpAnyH_take (i := 18) (v := ?a17v) (by simp only [List.getElem?_toArray, List.getElem?_cons_succ, List.getElem?_cons_zero] <;> rfl) (by kernel_rfl) (by kernel_rfl) (by kernel_rfl) (by exact fun _ _ _ h => h) (Or.inl ⟨by rfl, ?a17y⟩) hHeld ?a17r
    case a17y => intro w hSw; (try dsimp only at hSw); go_simp <;> rfl
    simp only [Act.put, List.setIfInBounds_toArray, List.set_cons_zero, List.set_cons_succ]
    refine wpAnyH_done (by kernel_rfl) ?_ _
    have K3 := K2.trans kw3
    clear yq kw3 K2 hHeld x0 x1 x2 x3 q0 q1
    go_wp2
    go_ret
    exact ⟨rfl, K3⟩
  have i8 : ¬ (m : Int) ≤ (vCount c s : Int) := by omega
  have i8' : decide ((m : Int) ≤ (vCount c s : Int)) = false := decide_eq_false i8
  have HN : Hid (¬ (d = true ∧ a = s ∧ n = m) → kKnows ⟨c, d, ⟨a, n⟩⟩ s m = false) := fun h => by rw [knows_vec (k := ⟨c, d, ⟨a, n⟩⟩) h0 h]; exact decide_eq_false h9
  cases d with
  | false =>
    rw [HN.out (fun e => by cases e.1)]
    clear HN h9
    have kA : Keep0 w (w.alloc (.cells #[.slice ao c.length cap, .bool false, .string a, .int .u64 (n : Int)] 27)) := (Keep.refl _ w).alloc _
    have kB : Keep0 (w.alloc (.cells #[.slice ao c.length cap, .bool false, .string a, .int .u64 (n : Int)] 27)) ((w.alloc (.cells #[.slice ao c.length cap, .bool false, .string a, .int .u64 (n : Int)] 27)).alloc (.cells #[.string s, .int .u64 (m : Int)] 25)) := (Keep.refl _ _).alloc _
    have zA : (w.alloc (.cells #[.slice ao c.length cap, .bool false, .string a, .int .u64 (n : Int)] 27)).heap.size = w.heap.size + 1 := World.size_alloc _ _
    obtain ⟨x0, x1, x2, x3⟩ := (clk_new w 27 ⟨c, false, ⟨a, n⟩⟩ ao cap).keep0 kB
    have q0 : ((w.alloc (.cells #[.slice ao c.length cap, .bool false, .string a, .int .u64 (n : Int)] 27)).alloc (.cells #[.string s, .int .u64 (m : Int)] 25)).cell? ⟨w.heap.size + 1, 0, none⟩ = some (.string s) := by rw [← zA]; exact cell_alloc _ 25 rfl
    have q1 : ((w.alloc (.cells #[.slice ao c.length cap, .bool false, .string a, .int .u64 (n : Int)] 27)).alloc (.cells #[.string s, .int .u64 (m : Int)] 25)).cell? ⟨w.heap.size + 1, 1, none⟩ = some (.int .u64 (m : Int)) := by rw [← zA]; exact cell_alloc _ 25 rfl
    have K2 := kA.trans kB
    generalize (vCount c s : Int) = VC at *
    clear kA kB zA hc ok h0
    generalize c.length = CL at *
    go_enter Try.func32, Try.ntmps32
    go_wp2_with fail
    generalize ((w.alloc (.cells #[.slice ao CL cap, .bool false, .string a, .int .u64 (n : Int)] 27)).alloc (.cells #[.string s, .int .u64 (m : Int)] 25)) = W0 at *
    generalize w.heap.size = B at *
    refine wp_region_held_drew (S := (fun W => W.cell? ⟨B, 0, none⟩ = some (.slice ao CL cap) ∧ W.cell? ⟨B, 1, none⟩ = some (.bool false) ∧ W.cell? ⟨B, 2, none⟩ = some (.string a) ∧ W.cell? ⟨B, 3, none⟩ = some (.int .u64 (n : Int)) ∧ W.cell? ⟨B + 1, 0, none⟩ = some (.string s) ∧ W.cell? ⟨B + 1, 1, none⟩ = some (.int .u64 (m : Int)))) (by kernel_rfl) ⟨x0, x1, x2, x3, q0, q1⟩ (fun hHeld => ?_)
    refine wpAnyH_take (i := 0) (v := ?b0v) (by simp only [List.getElem?_toArray, List.getElem?_cons_zero] <;> rfl) (by kernel_rfl) (by kernel_rfl) (by kernel_rfl) (by exact fun _ _ _ h => h) (Or.inl ⟨by rfl, ?b0y⟩) hHeld ?b0r
    case b0y => intro w hSw; (try dsimp only at hSw); go_simp <;> rfl
    simp only [Act.put, List.setIfInBounds_toArray, List.set_cons_zero, List.set_cons_succ]
    refine wpAnyH_take (i := 1) (v := ?b1v) (by simp only [List.getElem?_toArray, List.getElem?_cons_succ, List.getElem?_cons_zero] <;> rfl) (by kernel_rfl) (by kernel_rfl) (by kernel_rfl) (by exact fun _ _ _ h => h) (Or.inl ⟨by rfl, ?b1y⟩) hHeld ?b1r
    case b1y => intro w hSw; (try dsimp only at hSw); go_simp <;> rfl
    simp only [Act.put, List.setIfInBounds_toArray, List.set_cons_zero, List.set_cons_succ]
    refine wpAnyH_take (i := 2) (v := ?b2v) (by simp only [List.getElem?_toArray, List.getElem?_cons_succ, List.getElem?_cons_zero] <;> rfl) (by kernel_rfl) (by kernel_rfl) (by kernel_rfl) (by exact fun _ _ _ h => h) (Or.inl ⟨by rfl, ?b2y⟩) hHeld ?b2r
    case b2y => intro w hSw; (try dsimp only at hSw); go_simp <;> rfl
    simp only [Act.put, List.setIfInBounds_toArray, List.set_cons_zero, List.set_cons_succ]
    refine wpAnyH_take (i := 3) (v := ?b3v) (by simp only [List.getElem?_toArray, List.getElem?_cons_succ, List.getElem?_cons_zero] <;> rfl) (by kernel_rfl) (by kernel_rfl) (by kernel_rfl) (by exact fun _ _ _ h => h) (Or.inl ⟨by rfl, ?b3y⟩) hHeld ?b3r
    case b3y => intro w hSw; (try dsimp only at hSw); go_simp <;> rfl
    simp only [Act.put, List.setIfInBounds_toArray, List.set_cons_zero, List.set_cons_succ]
    refine wpAnyH_take (i := 4) (v := ?b4v) (by simp only [List.getElem?_toArray, List.getElem?_cons_succ, List.getElem?_cons_zero] <;> rfl) (by kernel_rfl) (by kernel_rfl) (by kernel_rfl) (by exact fun _ _ _ h => h) (Or.inl ⟨by rfl, ?b4y⟩) hHeld ?b4r
    case b4y => intro w hSw; (try dsimp only at hSw); go_simp <;> rfl
    simp only [Act.put, List.setIfInBounds_toArray, List.set_cons_zero, List.set_cons_succ]
    refine wpAnyH_take (i := 5) (v := ?b5v) (by simp only [List.getElem?_toArray, List.getElem?_cons_succ, List.getElem?_cons_zero] <;> rfl) (by kernel_rfl) (by kernel_rfl) (by kernel_rfl) (by exact fun _ _ _ h => h) (Or.inl ⟨by rfl, ?b5y⟩) hHeld ?b5r
    case b5y => intro w hSw; (try dsimp only at hSw); go_simp <;> rfl
    simp only [Act.put, List.setIfInBounds_toArray, List.set_cons_zero, List.set_cons_succ]
    refine wpAnyH_ready (rs := [6]) (by kernel_rfl) (by simp) ?_
    refine AllReadyH.cons (by simp only [List.getElem?_toArray, List.getElem?_cons_succ, List.getElem?_cons_zero] <;> rfl) (fun K hK => ?_) AllReadyH.nil
    go_simp
    refine (yq _ K2.drew).mono ?_
    rintro e w3 ⟨rfl, kx⟩
    have kw3 : Keep0 W0 w3 := ((Keep.refl _ W0).drew).trans kx
    clear kx
    go_wp2_with fail
    refine hK.out _ _ ⟨kw3.cell x0 (fun f => f), kw3.cell x1 (fun f => f), kw3.cell x2 (fun f => f), kw3.cell x3 (fun f => f), kw3.cell q0 (fun f => f), kw3.cell q1 (fun f => f)⟩ (fun hHeld => ?_)
    clear hK K
    refine wpAnyH_take (i := 7) (v := ?b6v) (by simp only [List.getElem?_toArray, List.getElem?_cons_succ, List.getElem?_cons_zero] <;> rfl) (by kernel_rfl) (by kernel_rfl) (by kernel_rfl) (by exact fun _ _ _ h => h) (Or.inl ⟨by rfl, ?b6y⟩) hHeld ?b6r
    case b6y => intro w hSw; (try dsimp only at hSw); go_simp <;> rfl
    simp only [Act.put, List.setIfInBounds_toArray, List.set_cons_zero, List.set_cons_succ]
    refine wpAnyH_take (i := 8) (v := ?b7v) (by simp only [List.getElem?_toArray, List.getElem?_cons_succ, List.getElem?_cons_zero] <;> rfl) (by kernel_rfl) (by kernel_rfl) (by kernel_rfl) (by exact fun _ _ _ h => h) (Or.inl ⟨by rfl, ?b7y⟩) hHeld ?b7r
    case b7y => intro w hSw; (try dsimp only at hSw); go_simp <;> rfl
    simp only [Act.put, List.setIfInBounds_toArray, List.set_cons_zero, List.set_cons_succ]
    refine wpAnyH_take (i := 9) (v := ?b8v) (by simp only [List.getElem?_toArray, List.getElem?_cons_succ, List.getElem?_cons_zero] <;> rfl) (by kernel_rfl) (by kernel_rfl) (by kernel_rfl) (by exact fun _ _ _ h => h) (Or.inl ⟨by rfl, ?b8y⟩) hHeld ?b8r
    case b8y => intro w hSw; (try dsimp only at hSw); go_simp <;> rfl
    simp only [Act.put, List.setIfInBounds_toArray, List.set_cons_zero, List.set_cons_succ]
    refine wpAnyH_take (i := 10) (v := ?b9v) (by simp only [List.getElem?_toArray, List.getElem?_cons_succ, List.getElem?_cons_zero] <;> rfl) (by kernel_rfl) (by kernel_rfl) (by kernel_rfl) (by exact fun _ _ _ h => h) (Or.inl ⟨by rfl, ?b9y⟩) hHeld ?b9r
    case b9y => intro w hSw; (try dsimp only at hSw); go_simp <;> rfl
    simp only [Act.put, List.setIfInBounds_toArray, List.set_cons_zero, List.set_cons_succ]
    refine wpAnyH_take (i := 11) (v := ?b10v) (by simp only [List.getElem?_toArray, List.getElem?_cons_succ, List.getElem?_cons_zero] <;> rfl) (by kernel_rfl) (by kernel_rfl) (by kernel_rfl) (by exact fun _ _ _ h => h) (Or.inl ⟨by rfl, ?b10y⟩) hHeld ?b10r
    case b10y => intro w hSw; (try dsimp only at hSw); go_simp <;> rfl
    simp only [Act.put, List.setIfInBounds_toArray, List.set_cons_zero, List.set_cons_succ]
    refine wpAnyH_take (i := 12) (v := undef) (by simp only [List.getElem?_toArray, List.getElem?_cons_succ, List.getElem?_cons_zero] <;> rfl) (by kernel_rfl) (by kernel_rfl) (by kernel_rfl) (by exact fun _ _ _ h => h) (Or.inr ⟨by rfl, rfl⟩) hHeld ?b11r
    simp only [Act.put, List.setIfInBounds_toArray, List.set_cons_zero, List.set_cons_succ]
    refine wpAnyH_take (i := 13) (v := undef) (by simp only [List.getElem?_toArray, List.getElem?_cons_succ, List.getElem?_cons_zero] <;> rfl) (by kernel_rfl) (by kernel_rfl) (by kernel_rfl) (by exact fun _ _ _ h => h) (Or.inr ⟨by rfl, rfl⟩) hHeld ?b12r
    simp only [Act.put, List.setIfInBounds_toArray, List.set_cons_zero, List.set_cons_succ]
    refine wpAnyH_take (i := 14) (v := undef) (by simp only [List.getElem?_toArray, List.getElem?_cons_succ, List.getElem?_cons_zero] <;> rfl) (by kernel_rfl) (by kernel_rfl) (by kernel_rfl) (by exact fun _ _ _ h => h) (Or.inr ⟨by rfl, rfl⟩) hHeld ?b13r
    simp only [Act.put, List.setIfInBounds_toArray, List.set_cons_zero, List.set_cons_succ]
    refine wpAnyH_take (i := 15) (v := undef) (by simp only [List.getElem?_toArray, List.getElem?_cons_succ, List.getElem?_cons_zero] <;> rfl) (by kernel_rfl) (by kernel_rfl) (by kernel_rfl) (by exact fun _ _ _ h => h) (Or.inr ⟨by rfl, rfl⟩) hHeld ?b14r
    simp only [Act.put, List.setIfInBounds_toArray, List.set_cons_zero, List.set_cons_succ]
    refine wpAnyH_take (i := 16) (v := ?b15v) (by simp only [List.getElem?_toArray, List.getElem?_cons_succ, List.getElem?_cons_zero] <;> rfl) (by kernel_rfl) (by kernel_rfl) (by kernel_rfl) (by exact fun _ _ _ h => h) (Or.inl ⟨by rfl, ?b15y⟩) hHeld ?b15r
    case b15y => intro w hSw; (try dsimp only at hSw); go_simp <;> rfl
    simp only [Act.put, List.setIfInBounds_toArray, List.set_cons_zero, List.set_cons_succ]
    refine wpAnyH_take (i := 17) (v := ?b16v) (by simp only [List.getElem?_toArray, List.getElem?_cons_succ, List.getElem?_cons_zero] <;> rfl) (by kernel_rfl) (by kernel_rfl) (by kernel_rfl) (by exact fun _ _ _ h => h) (Or.inl ⟨by rfl, ?b16y⟩) hHeld ?b16r
    case b16y => intro w hSw; (try dsimp only at hSw); go_simp <;> rfl
    simp only [Act.put, List.setIfInBounds_toArray, List.set_cons_zero, List.set_cons_succ]
    refine wpAnyH_take (i := 18) (v := ?b17v) (by simp only [List.getElem?_toArray, List.getElem?_cons_succ, List.getElem?_cons_zero] <;> rfl) (by kernel_rfl) (by kernel_rfl) (by kernel_rfl) (by exact fun _ _ _ h => h) (Or.inl ⟨by rfl, ?b17y⟩) hHeld ?b17r
    case b17y => intro w hSw; (try dsimp only at hSw); go_simp <;> rfl
    simp only [Act.put, List.setIfInBounds_toArray, List.set_cons_zero, List.set_cons_succ]
    refine wpAnyH_done (by kernel_rfl) ?_ _
    have K3 := K2.trans kw3
    clear yq kw3 K2 hHeld x0 x1 x2 x3 q0 q1
    go_wp2
    go_ret
    exact ⟨rfl, K3⟩
  | true =>
    by_cases h1 : a = s
    · subst h1
      by_cases h2 : n = m
      · subst h2
        rw [knows_dot (k := ⟨c, true, ⟨a, n⟩⟩) h0 rfl rfl rfl]
        clear HN h9
        have kA : Keep0 w (w.alloc (.cells #[.slice ao c.length cap, .bool true, .string a, .int .u64 (n : Int)] 27)) := (Keep.refl _ w).alloc _
        have kB : Keep0 (w.alloc (.cells #[.slice ao c.length cap, .bool true, .string a, .int .u64 (n : Int)] 27)) ((w.alloc (.cells #[.slice ao c.length cap, .bool true, .string a, .int .u64 (n : Int)] 27)).alloc (.cells #[.string a, .int .u64 (n : Int)] 25)) := (Keep.refl _ _).alloc _
        have zA : (w.alloc (.cells #[.slice ao c.length cap, .bool true, .string a, .int .u64 (n : Int)] 27)).heap.size = w.heap.size + 1 := World.size_alloc _ _
        obtain ⟨x0, x1, x2, x3⟩ := (clk_new w 27 ⟨c, true, ⟨a, n⟩⟩ ao cap).keep0 kB
        have q0 : ((w.alloc (.cells #[.slice ao c.length cap, .bool true, .string a, .int .u64 (n : Int)] 27)).alloc (.cells #[.string a, .int .u64 (n : Int)] 25)).cell? ⟨w.heap.size + 1, 0, none⟩ = some (.string a) := by rw [← zA]; exact cell_alloc _ 25 rfl
        have q1 : ((w.alloc (.cells #[.slice ao c.length cap, .bool true, .string a, .int .u64 (n : Int)] 27)).alloc (.cells #[.string a, .int .u64 (n : Int)] 25)).cell? ⟨w.heap.size + 1, 1, none⟩ = some (.int .u64 (n : Int)) := by rw [← zA]; exact cell_alloc _ 25 rfl
        have K2 := kA.trans kB
        generalize (vCount c a : Int) = VC at *
        clear kA kB zA hc ok h0
        generalize c.length = CL at *
        go_enter Try.func32, Try.ntmps32
        go_wp2_with fail
        generalize ((w.alloc (.cells #[.slice ao CL cap, .bool true, .string a, .int .u64 (n : Int)] 27)).alloc (.cells #[.string a, .int .u64 (n : Int)] 25)) = W0 at *
        generalize w.heap.size = B at *
        refine wp_region_held_drew (S := (fun W => W.cell? ⟨B, 0, none⟩ = some (.slice ao CL cap) ∧ W.cell? ⟨B, 1, none⟩ = some (.bool true) ∧ W.cell? ⟨B, 2, none⟩ = some (.string a) ∧ W.cell? ⟨B, 3, none⟩ = some (.int .u64 (n : Int)) ∧ W.cell? ⟨B + 1, 0, none⟩ = some (.string a) ∧ W.cell? ⟨B + 1, 1, none⟩ = some (.int .u64 (n : Int)))) (by kernel_rfl) ⟨x0, x1, x2, x3, q0, q1⟩ (fun hHeld => ?_)
        refine wpAnyH_take (i := 0) (v := ?c0v) (by simp only [List.getElem?_toArray, List.getElem?_cons_zero] <;> rfl) (by kernel_rfl) (by kernel_rfl) (by kernel_rfl) (by exact fun _ _ _ h => h) (Or.inl ⟨by rfl, ?c0y⟩) hHeld ?c0r
        case c0y => intro w hSw; (try dsimp only at hSw); go_simp <;> rfl
        simp only [Act.put, List.setIfInBounds_toArray, List.set_cons_zero, List.set_cons_succ]
        refine wpAnyH_take (i := 1) (v := ?c1v) (by simp only [List.getElem?_toArray, List.getElem?_cons_succ, List.getElem?_cons_zero] <;> rfl) (by kernel_rfl) (by kernel_rfl) (by kernel_rfl) (by exact fun _ _ _ h => h) (Or.inl ⟨by rfl, ?c1y⟩) hHeld ?c1r
        case c1y => intro w hSw; (try dsimp only at hSw); go_simp <;> rfl
        simp only [Act.put, List.setIfInBounds_toArray, List.set_cons_zero, List.set_cons_succ]
        refine wpAnyH_take (i := 2) (v := ?c2v) (by simp only [List.getElem?_toArray, List.getElem?_cons_succ, List.getElem?_cons_zero] <;> rfl) (by kernel_rfl) (by kernel_rfl) (by kernel_rfl) (by exact fun _ _ _ h => h) (Or.inl ⟨by rfl, ?c2y⟩) hHeld ?c2r
        case c2y => intro w hSw; (try dsimp only at hSw); go_simp <;> rfl
        simp only [Act.put, List.setIfInBounds_toArray, List.set_cons_zero, List.set_cons_succ]
        refine wpAnyH_take (i := 3) (v := ?c3v) (by simp only [List.getElem?_toArray, List.getElem?_cons_succ, List.getElem?_cons_zero] <;> rfl) (by kernel_rfl) (by kernel_rfl) (by kernel_rfl) (by exact fun _ _ _ h => h) (Or.inl ⟨by rfl, ?c3y⟩) hHeld ?c3r
        case c3y => intro w hSw; (try dsimp only at hSw); go_simp <;> rfl
        simp only [Act.put, List.setIfInBounds_toArray, List.set_cons_zero, List.set_cons_succ]
        refine wpAnyH_take (i := 4) (v := ?c4v) (by simp only [List.getElem?_toArray, List.getElem?_cons_succ, List.getElem?_cons_zero] <;> rfl) (by kernel_rfl) (by kernel_rfl) (by kernel_rfl) (by exact fun _ _ _ h => h) (Or.inl ⟨by rfl, ?c4y⟩) hHeld ?c4r
        case c4y => intro w hSw; (try dsimp only at hSw); go_simp <;> rfl
        simp only [Act.put, List.setIfInBounds_toArray, List.set_cons_zero, List.set_cons_succ]
        refine wpAnyH_take (i := 5) (v := ?c5v) (by simp only [List.getElem?_toArray, List.getElem?_cons_succ, List.getElem?_cons_zero] <;> rfl) (by kernel_rfl) (by kernel_rfl) (by kernel_rfl) (by exact fun _ _ _ h => h) (Or.inl ⟨by rfl, ?c5y⟩) hHeld ?c5r
        case c5y => intro w hSw; (try dsimp only at hSw); go_simp <;> rfl
        simp only [Act.put, List.setIfInBounds_toArray, List.set_cons_zero, List.set_cons_succ]
        refine wpAnyH_ready (rs := [6]) (by kernel_rfl) (by simp) ?_
        refine AllReadyH.cons (by simp only [List.getElem?_toArray, List.getElem?_cons_succ, List.getElem?_cons_zero] <;> rfl) (fun K hK => ?_) AllReadyH.nil
        go_simp
        refine (yq _ K2.drew).mono ?_
        rintro e w3 ⟨rfl, kx⟩
        have kw3 : Keep0 W0 w3 := ((Keep.refl _ W0).drew).trans kx
        clear kx
        go_wp2_with fail
        refine hK.out _ _ ⟨kw3.cell x0 (fun f => f), kw3.cell x1 (fun f => f), kw3.cell x2 (fun f => f), kw3.cell x3 (fun f => f), kw3.cell q0 (fun f => f), kw3.cell q1 (fun f => f)⟩ (fun hHeld => ?_)
        clear hK K
        refine wpAnyH_take (i := 7) (v := ?c6v) (by simp only [List.getElem?_toArray, List.getElem?_cons_succ, List.getElem?_cons_zero] <;> rfl) (by kernel_rfl) (by kernel_rfl) (by kernel_rfl) (by exact fun _ _ _ h => h) (Or.inl ⟨by rfl, ?c6y⟩) hHeld ?c6r
        case c6y => intro w hSw; (try dsimp only at hSw); go_simp <;> rfl
        simp only [Act.put, List.setIfInBounds_toArray, List.set_cons_zero, List.set_cons_succ]
        refine wpAnyH_take (i := 8) (v := ?c7v) (by simp only [List.getElem?_toArray, List.getElem?_cons_succ, List.getElem?_cons_zero] <;> rfl) (by kernel_rfl) (by kernel_rfl) (by kernel_rfl) (by exact fun _ _ _ h => h) (Or.inl ⟨by rfl, ?c7y⟩) hHeld ?c7r
        case c7y => intro w hSw; (try dsimp only at hSw); go_simp <;> rfl
        simp only [Act.put, List.setIfInBounds_toArray, List.set_cons_zero, List.set_cons_succ]
        refine wpAnyH_take (i := 9) (v := ?c8v) (by simp only [List.getElem?_toArray, List.getElem?_cons_succ, List.getElem?_cons_zero] <;> rfl) (by kernel_rfl) (by kernel_rfl) (by kernel_rfl) (by exact fun _ _ _ h => h) (Or.inl ⟨by rfl, ?c8y⟩) hHeld ?c8r
        case c8y => intro w hSw; (try dsimp only at hSw); go_simp <;> rfl
        simp only [Act.put, List.setIfInBounds_toArray, List.set_cons_zero, List.set_cons_succ]
        refine wpAnyH_take (i := 10) (v := ?c9v) (by simp only [List.getElem?_toArray, List.getElem?_cons_succ, List.getElem?_cons_zero] <;> rfl) (by kernel_rfl) (by kernel_rfl) (by kernel_rfl) (by exact fun _ _ _ h => h) (Or.inl ⟨by rfl, ?c9y⟩) hHeld ?c9r
        case c9y => intro w hSw; (try dsimp only at hSw); go_simp <;> rfl
        simp only [Act.put, List.setIfInBounds_toArray, List.set_cons_zero, List.set_cons_succ]
        refine wpAnyH_take (i := 11) (v := ?c10v) (by simp only [List.getElem?_toArray, List.getElem?_cons_succ, List.getElem?_cons_zero] <;> rfl) (by kernel_rfl) (by kernel_rfl) (by kernel_rfl) (by exact fun _ _ _ h => h) (Or.inl ⟨by rfl, ?c10y⟩) hHeld ?c10r
        case c10y => intro w hSw; (try dsimp only at hSw); go_simp <;> rfl
        simp only [Act.put, List.setIfInBounds_toArray, List.set_cons_zero, List.set_cons_succ]
        refine wpAnyH_take (i := 12) (v := ?c11v) (by simp only [List.getElem?_toArray, List.getElem?_cons_succ, List.getElem?_cons_zero] <;> rfl) (by kernel_rfl) (by kernel_rfl) (by kernel_rfl) (by exact fun _ _ _ h => h) (Or.inl ⟨by rfl, ?c11y⟩) hHeld ?c11r
        case c11y => intro w hSw; (try dsimp only at hSw); go_simp <;> rfl
        simp only [Act.put, List.setIfInBounds_toArray, List.set_cons_zero, List.set_cons_succ]
        refine wpAnyH_take (i := 13) (v := ?c12v) (by simp only [List.getElem?_toArray, List.getElem?_cons_succ, List.getElem?_cons_zero] <;> rfl) (by kernel_rfl) (by kernel_rfl) (by kernel_rfl) (by exact fun _ _ _ h => h) (Or.inl ⟨by rfl, ?c12y⟩) hHeld ?c12r
        case c12y => intro w hSw; (try dsimp only at hSw); go_simp <;> rfl
        simp only [Act.put, List.setIfInBounds_toArray, List.set_cons_zero, List.set_cons_succ]
        refine wpAnyH_take (i := 14) (v := ?c13v) (by simp only [List.getElem?_toArray, List.getElem?_cons_succ, List.getElem?_cons_zero] <;> rfl) (by kernel_rfl) (by kernel_rfl) (by kernel_rfl) (by exact fun _ _ _ h => h) (Or.inl ⟨by rfl, ?c13y⟩) hHeld ?c13r
        case c13y => intro w hSw; (try dsimp only at hSw); go_simp <;> rfl
        simp only [Act.put, List.setIfInBounds_toArray, List.set_cons_zero, List.set_cons_succ]
        refine wpAnyH_take (i := 15) (v := ?c14v) (by simp only [List.getElem?_toArray, List.getElem?_cons_succ, List.getElem?_cons_zero] <;> rfl) (by kernel_rfl) (by kernel_rfl) (by kernel_rfl) (by exact fun _ _ _ h => h) (Or.inl ⟨by rfl, ?c14y⟩) hHeld ?c14r
        case c14y => intro w hSw; (try dsimp only at hSw); go_simp <;> rfl
        simp only [Act.put, List.setIfInBounds_toArray, List.set_cons_zero, List.set_cons_succ]
        refine wpAnyH_take (i := 16) (v := ?c15v) (by simp only [List.getElem?_toArray, List.getElem?_cons_succ, List.getElem?_cons_zero] <;> rfl) (by kernel_rfl) (by kernel_rfl) (by kernel_rfl) (by exact fun _ _ _ h => h) (Or.inl ⟨by rfl, ?c15y⟩) hHeld ?c15r
        case c15y => intro w hSw; (try dsimp only at hSw); go_simp <;> rfl
        simp only [Act.put, List.setIfInBounds_toArray, List.set_cons_zero, List.set_cons_succ]
        refine wpAnyH_take (i := 17) (v := ?c16v) (by simp only [List.getElem?_toArray, List.getElem?_cons_succ, List.getElem?_cons_zero] <;> rfl) (by kernel_rfl) (by kernel_rfl) (by kernel_rfl) (by exact fun _ _ _ h => h) (Or.inl ⟨by rfl, ?c16y⟩) hHeld ?c16r
        case c16y => intro w hSw; (try dsimp only at hSw); go_simp <;> rfl
        simp only [Act.put, List.setIfInBounds_toArray, List.set_cons_zero, List.set_cons_succ]
        refine wpAnyH_take (i := 18) (v := ?c17v) (by simp only [List.getElem?_toArray, List.getElem?_cons_succ, List.getElem?_cons_zero] <;> rfl) (by kernel_rfl) (by kernel_rfl) (by kernel_rfl) (by exact fun _ _ _ h => h) (Or.inl ⟨by rfl, ?c17y⟩) hHeld ?c17r
        case c17y => intro w hSw; (try dsimp only at hSw); go_simp <;> rfl
        simp only [Act.put, List.setIfInBounds_toArray, List.set_cons_zero, List.set_cons_succ]
        refine wpAnyH_done (by kernel_rfl) ?_ _
        have K3 := K2.trans kw3
        clear yq kw3 K2 hHeld x0 x1 x2 x3 q0 q1
        go_wp2
        go_ret
        exact ⟨rfl, K3⟩
      · rw [HN.out (fun e => h2 e.2.2)]
        have j2 : ((n : Int) == (m : Int)) = false := beq_eq_false_iff_ne.2 (by omega)
        have j3 : ¬ (n : Int) = (m : Int) := by omega
        clear HN h9 h2
        have kA : Keep0 w (w.alloc (.cells #[.slice ao c.length cap, .bool true, .string a, .int .u64 (n : Int)] 27)) := (Keep.refl _ w).alloc _
        have kB : Keep0 (w.alloc (.cells #[.slice ao c.length cap, .bool true, .string a, .int .u64 (n : Int)] 27)) ((w.alloc (.cells #[.slice ao c.length cap, .bool true, .string a, .int .u64 (n : Int)] 27)).alloc (.cells #[.string a, .int .u64 (m : Int)] 25)) := (Keep.refl _ _).alloc _
        have zA : (w.alloc (.cells #[.slice ao c.length cap, .bool true, .string a, .int .u64 (n : Int)] 27)).heap.size = w.heap.size + 1 := World.size_alloc _ _
        obtain ⟨x0, x1, x2, x3⟩ := (clk_new w 27 ⟨c, true, ⟨a, n⟩⟩ ao cap).keep0 kB
        have q0 : ((w.alloc (.cells #[.slice ao c.length cap, .bool true, .string a, .int .u64 (n : Int)] 27)).alloc (.cells #[.string a, .int .u64 (m : Int)] 25)).cell? ⟨w.heap.size + 1, 0, none⟩ = some (.string a) := by rw [← zA]; exact cell_alloc _ 25 rfl
        have q1 : ((w.alloc (.cells #[.slice ao c.length cap, .bool true, .string a, .int .u64 (n : Int)] 27)).alloc (.cells #[.string a, .int .u64 (m : Int)] 25)).cell? ⟨w.heap.size + 1, 1, none⟩ = some (.int .u64 (m : Int)) := by rw [← zA]; exact cell_alloc _ 25 rfl
        have K2 := kA.trans kB
        generalize (vCount c a : Int) = VC at *
        clear kA kB zA hc ok h0
        generalize c.length = CL at *
        go_enter Try.func32, Try.ntmps32
        go_wp2_with fail
        generalize ((w.alloc (.cells #[.slice ao CL cap, .bool true, .string a, .int .u64 (n : Int)] 27)).alloc (.cells #[.string a, .int .u64 (m : Int)] 25)) = W0 at *
        generalize w.heap.size = B at *
        refine wp_region_held_drew (S := (fun W => W.cell? ⟨B, 0, none⟩ = some (.slice ao CL cap) ∧ W.cell? ⟨B, 1, none⟩ = some (.bool true) ∧ W.cell? ⟨B, 2, none⟩ = some (.string a) ∧ W.cell? ⟨B, 3, none⟩ = some (.int .u64 (n : Int)) ∧ W.cell? ⟨B + 1, 0, none⟩ = some (.string a) ∧ W.cell? ⟨B + 1, 1, none⟩ = some (.int .u64 (m : Int)))) (by kernel_rfl) ⟨x0, x1, x2, x3, q0, q1⟩ (fun hHeld => ?_)
        refine wpAnyH_take (i := 0) (v := ?d0v) (by simp only [List.getElem?_toArray, List.getElem?_cons_zero] <;> rfl) (by kernel_rfl) (by kernel_rfl) (by kernel_rfl) (by exact fun _ _ _ h => h) (Or.inl ⟨by rfl, ?d0y⟩) hHeld ?d0r
        case d0y => intro w hSw; (try dsimp only at hSw); go_simp <;> rfl
        simp only [Act.put, List.setIfInBounds_toArray, List.set_cons_zero, List.set_cons_succ]
        refine wpAnyH_take (i := 1) (v := ?d1v) (by simp only [List.getElem?_toArray, List.getElem?_cons_succ, List.getElem?_cons_zero] <;> rfl) (by kernel_rfl) (by kernel_rfl) (by kernel_rfl) (by exact fun _ _ _ h => h) (Or.inl ⟨by rfl, ?d1y⟩) hHeld ?d1r
        case d1y => intro w hSw; (try dsimp only at hSw); go_simp <;> rfl
        simp only [Act.put, List.setIfInBounds_toArray, List.set_cons_zero, List.set_cons_succ]
        refine wpAnyH_take (i := 2) (v := ?d2v) (by simp only [List.getElem?_toArray, List.getElem?_cons_succ, List.getElem?_cons_zero] <;> rfl) (by kernel_rfl) (by kernel_rfl) (by kernel_rfl) (by exact fun _ _ _ h => h) (Or.inl ⟨by rfl, ?d2y⟩) hHeld ?d2r
        case d2y => intro w hSw; (try dsimp only at hSw); go_simp <;> rfl
        simp only [Act.put, List.setIfInBounds_toArray, List.set_cons_zero, List.set_cons_succ]
        refine wpAnyH_take (i := 3) (v := ?d3v) (by simp only [List.getElem?_toArray, List.getElem?_cons_succ, List.getElem?_cons_zero] <;> rfl) (by kernel_rfl) (by kernel_rfl) (by kernel_rfl) (by exact fun _ _ _ h => h) (Or.inl ⟨by rfl, ?d3y⟩) hHeld ?d3r
        case d3y => intro w hSw; (try dsimp only at hSw); go_simp <;> rfl
        simp only [Act.put, List.setIfInBounds_toArray, List.set_cons_zero, List.set_cons_succ]
        refine wpAnyH_take (i := 4) (v := ?d4v) (by simp only [List.getElem?_toArray, List.getElem?_cons_succ, List.getElem?_cons_zero] <;> rfl) (by kernel_rfl) (by kernel_rfl) (by kernel_rfl) (by exact fun _ _ _ h => h) (Or.inl ⟨by rfl, ?d4y⟩) hHeld ?d4r
        case d4y => intro w hSw; (try dsimp only at hSw); go_simp <;> rfl
        simp only [Act.put, List.setIfInBounds_toArray, List.set_cons_zero, List.set_cons_succ]
        refine wpAnyH_take (i := 5) (v := ?d5v) (by simp only [List.getElem?_toArray, List.getElem?_cons_succ, List.getElem?_cons_zero] <;> rfl) (by kernel_rfl) (by kernel_rfl) (by kernel_rfl) (by exact fun _ _ _ h => h) (Or.inl ⟨by rfl, ?d5y⟩) hHeld ?d5r
        case d5y => intro w hSw; (try dsimp only at hSw); go_simp <;> rfl
        simp only [Act.put, List.setIfInBounds_toArray, List.set_cons_zero, List.set_cons_succ]
        refine wpAnyH_ready (rs := [6]) (by kernel_rfl) (by simp) ?_
        refine AllReadyH.cons (by simp only [List.getElem?_toArray, List.getElem?_cons_succ, List.getElem?_cons_zero] <;> rfl) (fun K hK => ?_) AllReadyH.nil
        go_simp
        refine (yq _ K2.drew).mono ?_
        rintro e w3 ⟨rfl, kx⟩
        have kw3 : Keep0 W0 w3 := ((Keep.refl _ W0).drew).trans kx
        clear kx
        go_wp2_with fail
        refine hK.out _ _ ⟨kw3.cell x0 (fun f => f), kw3.cell x1 (fun f => f), kw3.cell x2 (fun f => f), kw3.cell x3 (fun f => f), kw3.cell q0 (fun f => f), kw3.cell q1 (fun f => f)⟩ (fun hHeld => ?_)
        clear hK K
        refine wpAnyH_take (i := 7) (v := ?d6v) (by simp only [List.getElem?_toArray, List.getElem?_cons_succ, List.getElem?_cons_zero] <;> rfl) (by kernel_rfl) (by kernel_rfl) (by kernel_rfl) (by exact fun _ _ _ h => h) (Or.inl ⟨by rfl, ?d6y⟩) hHeld ?d6r
        case d6y => intro w hSw; (try dsimp only at hSw); go_simp <;> rfl
        simp only [Act.put, List.setIfInBounds_toArray, List.set_cons_zero, List.set_cons_succ]
        refine wpAnyH_take (i := 8) (v := ?d7v) (by simp only [List.getElem?_toArray, List.getElem?_cons_succ, List.getElem?_cons_zero] <;> rfl) (by kernel_rfl) (by kernel_rfl) (by kernel_rfl) (by exact fun _ _ _ h => h) (Or.inl ⟨by rfl, ?d7y⟩) hHeld ?d7r
        case d7y => intro w hSw; (try dsimp only at hSw); go_simp <;> rfl
        simp only [Act.put, List.setIfInBounds_toArray, List.set_cons_zero, List.set_cons_succ]
        refine wpAnyH_take (i := 9) (v := ?d8v) (by simp only [List.getElem?_toArray, List.getElem?_cons_succ, List.getElem?_cons_zero] <;> rfl) (by kernel_rfl) (by kernel_rfl) (by kernel_rfl) (by exact fun _ _ _ h => h) (Or.inl ⟨by rfl, ?d8y⟩) hHeld ?d8r
        case d8y => intro w hSw; (try dsimp only at hSw); go_simp <;> rfl
        simp only [Act.put, List.setIfInBounds_toArray, List.set_cons_zero, List.set_cons_succ]
        refine wpAnyH_take (i := 10) (v := ?d9v) (by simp only [List.getElem?_toArray, List.getElem?_cons_succ, List.getElem?_cons_zero] <;> rfl) (by kernel_rfl) (by kernel_rfl) (by kernel_rfl) (by exact fun _ _ _ h => h) (Or.inl ⟨by rfl, ?d9y⟩) hHeld ?d9r
        case d9y => intro w hSw; (try dsimp only at hSw); go_simp <;> rfl
        simp only [Act.put, List.setIfInBounds_toArray, List.set_cons_zero, List.set_cons_succ]
        refine wpAnyH_take (i := 11) (v := ?d10v) (by simp only [List.getElem?_toArray, List.getElem?_cons_succ, List.getElem?_cons_zero] <;> rfl) (by kernel_rfl) (by kernel_rfl) (by kernel_rfl) (by exact fun _ _ _ h => h) (Or.inl ⟨by rfl, ?d10y⟩) hHeld ?d10r
        case d10y => intro w hSw; (try dsimp only at hSw); go_simp <;> rfl
        simp only [Act.put, List.setIfInBounds_toArray, List.set_cons_zero, List.set_cons_succ]
        refine wpAnyH_take (i := 12) (v := ?d11v) (by simp only [List.getElem?_toArray, List.getElem?_cons_succ, List.getElem?_cons_zero] <;> rfl) (by kernel_rfl) (by kernel_rfl) (by kernel_rfl) (by exact fun _ _ _ h => h) (Or.inl ⟨by rfl, ?d11y⟩) hHeld ?d11r
        case d11y => intro w hSw; (try dsimp only at hSw); go_simp <;> rfl
        simp only [Act.put, List.setIfInBounds_toArray, List.set_cons_zero, List.set_cons_succ]
        refine wpAnyH_take (i := 13) (v := ?d12v) (by simp only [List.getElem?_toArray, List.getElem?_cons_succ, List.getElem?_cons_zero] <;> rfl) (by kernel_rfl) (by kernel_rfl) (by kernel_rfl) (by exact fun _ _ _ h => h) (Or.inl ⟨by rfl, ?d12y⟩) hHeld ?d12r
        case d12y => intro w hSw; (try dsimp only at hSw); go_simp <;> rfl
        simp only [Act.put, List.setIfInBounds_toArray, List.set_cons_zero, List.set_cons_succ]
        refine wpAnyH_take (i := 14) (v := ?d13v) (by simp only [List.getElem?_toArray, List.getElem?_cons_succ, List.getElem?_cons_zero] <;> rfl) (by kernel_rfl) (by kernel_rfl) (by kernel_rfl) (by exact fun _ _ _ h => h) (Or.inl ⟨by rfl, ?d13y⟩) hHeld ?d13r
        case d13y => intro w hSw; (try dsimp only at hSw); go_simp <;> rfl
        simp only [Act.put, List.setIfInBounds_toArray, List.set_cons_zero, List.set_cons_succ]
        refine wpAnyH_take (i := 15) (v := ?d14v) (by simp only [List.getElem?_toArray, List.getElem?_cons_succ, List.getElem?_cons_zero] <;> rfl) (by kernel_rfl) (by kernel_rfl) (by kernel_rfl) (by exact fun _ _ _ h => h) (Or.inl ⟨by rfl, ?d14y⟩) hHeld ?d14r
        case d14y => intro w hSw; (try dsimp only at hSw); go_simp <;> rfl
        simp only [Act.put, List.setIfInBounds_toArray, List.set_cons_zero, List.set_cons_succ]
        refine wpAnyH_take (i := 16) (v := ?d15v) (by simp only [List.getElem?_toArray, List.getElem?_cons_succ, List.getElem?_cons_zero] <;> rfl) (by kernel_rfl) (by kernel_rfl) (by kernel_rfl) (by exact fun _ _ _ h => h) (Or.inl ⟨by rfl, ?d15y⟩) hHeld ?d15r
        case d15y => intro w hSw; (try dsimp only at hSw); go_simp <;> rfl
        simp only [Act.put, List.setIfInBounds_toArray, List.set_cons_zero, List.set_cons_succ]
        refine wpAnyH_take (i := 17) (v := ?d16v) (by simp only [List.getElem?_toArray, List.getElem?_cons_succ, List.getElem?_cons_zero] <;> rfl) (by kernel_rfl) (by kernel_rfl) (by kernel_rfl) (by exact fun _ _ _ h => h) (Or.inl ⟨by rfl, ?d16y⟩) hHeld ?d16r
        case d16y => intro w hSw; (try dsimp only at hSw); go_simp <;> rfl
        simp only [Act.put, List.setIfInBounds_toArray, List.set_cons_zero, List.set_cons_succ]
        refine wpAnyH_take (i := 18) (v := ?d17v) (by simp only [List.getElem?_toArray, List.getElem?_cons_succ, List.getElem?_cons_zero] <;> rfl) (by kernel_rfl) (by kernel_rfl) (by kernel_rfl) (by exact fun _ _ _ h => h) (Or.inl ⟨by rfl, ?d17y⟩) hHeld ?d17r
        case d17y => intro w hSw; (try dsimp only at hSw); go_simp <;> rfl
        simp only [Act.put, List.setIfInBounds_toArray, List.set_cons_zero, List.set_cons_succ]
        refine wpAnyH_done (by kernel_rfl) ?_ _
        have K3 := K2.trans kw3
        clear yq kw3 K2 hHeld x0 x1 x2 x3 q0 q1
        go_wp2
        go_ret
        exact ⟨rfl, K3⟩
    · rw [HN.out (fun e => h1 e.2.1)]
      obtain ⟨e2, e3, e4⟩ := txt_ne h1
      clear HN h9 h1
      have kA : Keep0 w (w.alloc (.cells #[.slice ao c.length cap, .bool true, .string a, .int .u64 (n : Int)] 27)) := (Keep.refl _ w).alloc _
      have kB : Keep0 (w.alloc (.cells #[.slice ao c.length cap, .bool true, .string a, .int .u64 (n : Int)] 27)) ((w.alloc (.cells #[.slice ao c.length cap, .bool true, .string a, .int .u64 (n : Int)] 27)).alloc (.cells #[.string s, .int .u64 (m : Int)] 25)) := (Keep.refl _ _).alloc _
      have zA : (w.alloc (.cells #[.slice ao c.length cap, .bool true, .string a, .int .u64 (n : Int)] 27)).heap.size = w.heap.size + 1 := World.size_alloc _ _
      obtain ⟨x0, x1, x2, x3⟩ := (clk_new w 27 ⟨c, true, ⟨a, n⟩⟩ ao cap).keep0 kB
      have q0 : ((w.alloc (.cells #[.slice ao c.length cap, .bool true, .string a, .int .u64 (n : Int)] 27)).alloc (.cells #[.string s, .int .u64 (m : Int)] 25)).cell? ⟨w.heap.size + 1, 0, none⟩ = some (.string s) := by rw [← zA]; exact cell_alloc _ 25 rfl
      have q1 : ((w.alloc (.cells #[.slice ao c.length cap, .bool true, .string a, .int .u64 (n : Int)] 27)).alloc (.cells #[.string s, .int .u64 (m : Int)] 25)).cell? ⟨w.heap.size + 1, 1, none⟩ = some (.int .u64 (m : Int)) := by rw [← zA]; exact cell_alloc _ 25 rfl
      have K2 := kA.trans kB
      generalize (vCount c s : Int) = VC at *
      clear kA kB zA hc ok h0
      generalize c.length = CL at *
      go_enter Try.func32, Try.ntmps32
      go_wp2_with fail
      generalize ((w.alloc (.cells #[.slice ao CL cap, .bool true, .string a, .int .u64 (n : Int)] 27)).alloc (.cells #[.string s, .int .u64 (m : Int)] 25)) = W0 at *
      generalize w.heap.size = B at *
      refine wp_region_held_drew (S := (fun W => W.cell? ⟨B, 0, none⟩ = some (.slice ao CL cap) ∧ W.cell? ⟨B, 1, none⟩ = some (.bool true) ∧ W.cell? ⟨B, 2, none⟩ = some (.string a) ∧ W.cell? ⟨B, 3, none⟩ = some (.int .u64 (n : Int)) ∧ W.cell? ⟨B + 1, 0, none⟩ = some (.string s) ∧ W.cell? ⟨B + 1, 1, none⟩ = some (.int .u64 (m : Int)))) (by kernel_rfl) ⟨x0, x1, x2, x3, q0, q1⟩ (fun hHeld => ?_)
      refine wpAnyH_take (i := 0) (v := ?e0v) (by simp only [List.getElem?_toArray, List.getElem?_cons_zero] <;> rfl) (by kernel_rfl) (by kernel_rfl) (by kernel_rfl) (by exact fun _ _ _ h => h) (Or.inl ⟨by rfl, ?e0y⟩) hHeld ?e0r
      case e0y => intro w hSw; (try dsimp only at hSw); go_simp <;> rfl
      simp only [Act.put, List.setIfInBounds_toArray, List.set_cons_zero, List.set_cons_succ]
      refine wpAnyH_take (i := 1) (v := ?e1v) (by simp only [List.getElem?_toArray, List.getElem?_cons_succ, List.getElem?_cons_zero] <;> rfl) (by kernel_rfl) (by kernel_rfl) (by kernel_rfl) (by exact fun _ _ _ h => h) (Or.inl ⟨by rfl, ?e1y⟩) hHeld ?e1r
      case e1y => intro w hSw; (try dsimp only at hSw); go_simp <;> rfl
      simp only [Act.put, List.setIfInBounds_toArray, List.set_cons_zero, List.set_cons_succ]
      refine wpAnyH_take (i := 2) (v := ?e2v) (by simp only [List.getElem?_toArray, List.getElem?_cons_succ, List.getElem?_cons_zero] <;> rfl) (by kernel_rfl) (by kernel_rfl) (by kernel_rfl) (by exact fun _ _ _ h => h) (Or.inl ⟨by rfl, ?e2y⟩) hHeld ?e2r
      case e2y => intro w hSw; (try dsimp only at hSw); go_simp <;> rfl
      simp only [Act.put, List.setIfInBounds_toArray, List.set_cons_zero, List.set_cons_succ]
      refine wpAnyH_take (i := 3) (v := ?e3v) (by simp only [List.getElem?_toArray, List.getElem?_cons_succ, List.getElem?_cons_zero] <;> rfl) (by kernel_rfl) (by kernel_rfl) (by kernel_rfl) (by exact fun _ _ _ h => h) (Or.inl ⟨by rfl, ?e3y⟩) hHeld ?e3r
      case e3y => intro w hSw; (try dsimp only at hSw); go_simp <;> rfl
      simp only [Act.put, List.setIfInBounds_toArray, List.set_cons_zero, List.set_cons_succ]
      refine wpAnyH_take (i := 4) (v := ?e4v) (by simp only [List.getElem?_toArray, List.getElem?_cons_succ, List.getElem?_cons_zero] <;> rfl) (by kernel_rfl) (by kernel_rfl) (by kernel_rfl) (by exact fun _ _ _ h => h) (Or.inl ⟨by rfl, ?e4y⟩) hHeld ?e4r
      case e4y => intro w hSw; (try dsimp only at hSw); go_simp <;> rfl
      simp only [Act.put, List.setIfInBounds_toArray, List.set_cons_zero, List.set_cons_succ]
      refine wpAnyH_take (i := 5) (v := ?e5v) (by simp only [List.getElem?_toArray, List.getElem?_cons_succ, List.getElem?_cons_zero] <;> rfl) (by kernel_rfl) (by kernel_rfl) (by kernel_rfl) (by exact fun _ _ _ h => h) (Or.inl ⟨by rfl, ?e5y⟩) hHeld ?e5r
      case e5y => intro w hSw; (try dsimp only at hSw); go_simp <;> rfl
      simp only [Act.put, List.setIfInBounds_toArray, List.set_cons_zero, List.set_cons_succ]
      refine wpAnyH_ready (rs := [6]) (by kernel_rfl) (by simp) ?_
      refine AllReadyH.cons (by simp only [List.getElem?_toArray, List.getElem?_cons_succ, List.getElem?_cons_zero] <;> rfl) (fun K hK => ?_) AllReadyH.nil
      go_simp
      refine (yq _ K2.drew).mono ?_
      rintro e w3 ⟨rfl, kx⟩
      have kw3 : Keep0 W0 w3 := ((Keep.refl _ W0).drew).trans kx
      clear kx
      go_wp2_with fail
      refine hK.out _ _ ⟨kw3.cell x0 (fun f => f), kw3.cell x1 (fun f => f), kw3.cell x2 (fun f => f), kw3.cell x3 (fun f => f), kw3.cell q0 (fun f => f), kw3.cell q1 (fun f => f)⟩ (fun hHeld => ?_)
      clear hK K
      refine wpAnyH_take (i := 7) (v := ?e6v) (by simp only [List.getElem?_toArray, List.getElem?_cons_succ, List.getElem?_cons_zero] <;> rfl) (by kernel_rfl) (by kernel_rfl) (by kernel_rfl) (by exact fun _ _ _ h => h) (Or.inl ⟨by rfl, ?e6y⟩) hHeld ?e6r
      case e6y => intro w hSw; (try dsimp only at hSw); go_simp <;> rfl
      simp only [Act.put, List.setIfInBounds_toArray, List.set_cons_zero, List.set_cons_succ]
      refine wpAnyH_take (i := 8) (v := ?e7v) (by simp only [List.getElem?_toArray, List.getElem?_cons_succ, List.getElem?_cons_zero] <;> rfl) (by kernel_rfl) (by kernel_rfl) (by kernel_rfl) (by exact fun _ _ _ h => h) (Or.inl ⟨by rfl, ?e7y⟩) hHeld ?e7r
      case e7y => intro w hSw; (try dsimp only at hSw); go_simp <;> rfl
      simp only [Act.put, List.setIfInBounds_toArray, List.set_cons_zero, List.set_cons_succ]
      refine wpAnyH_take (i := 9) (v := ?e8v) (by simp only [List.getElem?_toArray, List.getElem?_cons_succ, List.getElem?_cons_zero] <;> rfl) (by kernel_rfl) (by kernel_rfl) (by kernel_rfl) (by exact fun _ _ _ h => h) (Or.inl ⟨by rfl, ?e8y⟩) hHeld ?e8r
      case e8y => intro w hSw; (try dsimp only at hSw); go_simp <;> rfl
      simp only [Act.put, List.setIfInBounds_toArray, List.set_cons_zero, List.set_cons_succ]
      refine wpAnyH_take (i := 10) (v := ?e9v) (by simp only [List.getElem?_toArray, List.getElem?_cons_succ, List.getElem?_cons_zero] <;> rfl) (by kernel_rfl) (by kernel_rfl) (by kernel_rfl) (by exact fun _ _ _ h => h) (Or.inl ⟨by rfl, ?e9y⟩) hHeld ?e9r
      case e9y => intro w hSw; (try dsimp only at hSw); go_simp <;> rfl
      simp only [Act.put, List.setIfInBounds_toArray, List.set_cons_zero, List.set_cons_succ]
      refine wpAnyH_take (i := 11) (v := ?e10v) (by simp only [List.getElem?_toArray, List.getElem?_cons_succ, List.getElem?_cons_zero] <;> rfl) (by kernel_rfl) (by kernel_rfl) (by kernel_rfl) (by exact fun _ _ _ h => h) (Or.inl ⟨by rfl, ?e10y⟩) hHeld ?e10r
      case e10y => intro w hSw; (try dsimp only at hSw); go_simp <;> rfl
      simp only [Act.put, List.setIfInBounds_toArray, List.set_cons_zero, List.set_cons_succ]
      refine wpAnyH_take (i := 12) (v := ?e11v) (by simp only [List.getElem?_toArray, List.getElem?_cons_succ, List.getElem?_cons_zero] <;> rfl) (by kernel_rfl) (by kernel_rfl) (by kernel_rfl) (by exact fun _ _ _ h => h) (Or.inl ⟨by rfl, ?e11y⟩) hHeld ?e11r
      case e11y => intro w hSw; (try dsimp only at hSw); go_simp <;> rfl
      simp only [Act.put, List.setIfInBounds_toArray, List.set_cons_zero, List.set_cons_succ]
      refine wpAnyH_take (i := 13) (v := ?e12v) (by simp only [List.getElem?_toArray, List.getElem?_cons_succ, List.getElem?_cons_zero] <;> rfl) (by kernel_rfl) (by kernel_rfl) (by kernel_rfl) (by exact fun _ _ _ h => h) (Or.inl ⟨by rfl, ?e12y⟩) hHeld ?e12r
      case e12y => intro w hSw; (try dsimp only at hSw); go_simp <;> rfl
      simp only [Act.put, List.setIfInBounds_toArray, List.set_cons_zero, List.set_cons_succ]
      refine wpAnyH_take (i := 14) (v := ?e13v) (by simp only [List.getElem?_toArray, List.getElem?_cons_succ, List.getElem?_cons_zero] <;> rfl) (by kernel_rfl) (by kernel_rfl) (by kernel_rfl) (by exact fun _ _ _ h => h) (Or.inl ⟨by rfl, ?e13y⟩) hHeld ?e13r
      case e13y => intro w hSw; (try dsimp only at hSw); go_simp <;> rfl
      simp only [Act.put, List.setIfInBounds_toArray, List.set_cons_zero, List.set_cons_succ]
      refine wpAnyH_take (i := 15) (v := ?e14v) (by simp only [List.getElem?_toArray, List.getElem?_cons_succ, List.getElem?_cons_zero] <;> rfl) (by kernel_rfl) (by kernel_rfl) (by kernel_rfl) (by exact fun _ _ _ h => h) (Or.inl ⟨by rfl, ?e14y⟩) hHeld ?e14r
      case e14y => intro w hSw; (try dsimp only at hSw); go_simp <;> rfl
      simp only [Act.put, List.setIfInBounds_toArray, List.set_cons_zero, List.set_cons_succ]
      refine wpAnyH_take (i := 16) (v := ?e15v) (by simp only [List.getElem?_toArray, List.getElem?_cons_succ, List.getElem?_cons_zero] <;> rfl) (by kernel_rfl) (by kernel_rfl) (by kernel_rfl) (by exact fun _ _ _ h => h) (Or.inl ⟨by rfl, ?e15y⟩) hHeld ?e15r
      case e15y => intro w hSw; (try dsimp only at hSw); go_simp <;> rfl
      simp only [Act.put, List.setIfInBounds_toArray, List.set_cons_zero, List.set_cons_succ]
      refine wpAnyH_take (i := 17) (v := ?e16v) (by simp only [List.getElem?_toArray, List.getElem?_cons_succ, List.getElem?_cons_zero] <;> rfl) (by kernel_rfl) (by kernel_rfl) (by kernel_rfl) (by exact fun _ _ _ h => h) (Or.inl ⟨by rfl, ?e16y⟩) hHeld ?e16r
      case e16y => intro w hSw; (try dsimp only at hSw); go_simp <;> rfl
      simp only [Act.put, List.setIfInBounds_toArray, List.set_cons_zero, List.set_cons_succ]
      refine wpAnyH_take (i := 18) (v := ?e17v) (by simp only [List.getElem?_toArray, List.getElem?_cons_succ, List.getElem?_cons_zero] <;> rfl) (by kernel_rfl) (by kernel_rfl) (by kernel_rfl) (by exact fun _ _ _ h => h) (Or.inl ⟨by rfl, ?e17y⟩) hHeld ?e17r
      case e17y => intro w hSw; (try dsimp only at hSw); go_simp <;> rfl
      simp only [Act.put, List.setIfInBounds_toArray, List.set_cons_zero, List.set_cons_succ]
      refine wpAnyH_done (by kernel_rfl) ?_ _
      have K3 := K2.trans kw3
      clear yq kw3 K2 hHeld x0 x1 x2 x3 q0 q1
      go_wp2
      go_ret
      exact ⟨rfl, K3⟩

/-! ### reach -/
theorem hav_lt {c : List En} {d : Bool} {a : ByteArray} {n : Nat} (ok : Ok10 c) (hn : n < 18446744073709551616) (s : ByteArray) : hav ⟨c, d, ⟨a, n⟩⟩ s < 18446744073709551616 := by
  have hl := count_lt (fun y hy => (ok.2 y hy).2) s
  by_cases h : d = true ∧ a = s ∧ n = vCount c s + 1
  · rw [hav_yes (k := ⟨c, d, ⟨a, n⟩⟩) h]
    show vCount c s + 1 < _
    omega
  · rw [hav_no (k := ⟨c, d, ⟨a, n⟩⟩) h]
    exact hl
set_option maxRecDepth 100000 in
set_option maxHeartbeats 4000000 in
theorem reach12_any (w : World) (ao : Option Addr) (cap : Nat) (c : List En) (d : Bool) (a : ByteArray) (n : Nat) (ok : Ok10 c) (hn : n < 18446744073709551616) (hc : EnsAt w ao c) (s : ByteArray) :
    Calls Try.prog 42 #[.agg #[.slice ao c.length cap, .bool d, .string a, .int .u64 (n : Int)], .string s] w fun e w' => e = .returned (.int .u64 (hav ⟨c, d, ⟨a, n⟩⟩ s : Int)) ∧ Keep0 w w' := by
  have hl := count_lt (fun y hy => (ok.2 y hy).2) s
  have kA : Keep0 w (w.alloc (.cells #[.slice ao c.length cap, .bool d, .string a, .int .u64 (n : Int)] 27)) := (Keep.refl _ w).alloc _
  obtain ⟨x0, x1, x2, x3⟩ : ClkAt (w.alloc (.cells #[.slice ao c.length cap, .bool d, .string a, .int .u64 (n : Int)] 27)) w.heap.size 0 ⟨c, d, ⟨a, n⟩⟩ ao cap := clk_new w 27 ⟨c, d, ⟨a, n⟩⟩ ao cap
  have yc := count10 _ ao cap c ok (hc.keep0 kA) s
  have yk := fun W (K : Keep0 w W) (m : Nat) => know12_any W ao cap c d a n ok (hc.keep0 K) s m
  by_cases h : d = true ∧ a = s ∧ n = vCount c s + 1
  · rw [hav_yes (k := ⟨c, d, ⟨a, n⟩⟩) h]
    show Calls Try.prog _ _ _ fun e w' => e = .returned (.int .u64 ((vCount c s + 1 : Nat) : Int)) ∧ Keep0 w w'
    have yk := fun W K => yk W K (vCount c s + 1)
    rw [knows_dot (k := ⟨c, d, ⟨a, n⟩⟩) (by omega) h.1 h.2.1 h.2.2] at yk
    obtain ⟨N, hN⟩ : ∃ N, vCount c s = N := ⟨_, rfl⟩
    obtain ⟨M, hM⟩ : ∃ M, N + 1 = M := ⟨_, rfl⟩
    rw [hN] at yc yk h hl ⊢
    rw [hM] at yk ⊢
    have i5 : (N : Int) + 1 = (M : Int) := by omega
    have i6 : IntKind.u64.wrap (M : Int) = (M : Int) := by rw [IntKind.wrap_u64]; omega
    clear hN hM hl hc ok h hn
    generalize c.length = CL at *
    go_enter Try.func42, Try.ntmps42
    go_wp2_with fail
    generalize (w.alloc (.cells #[.slice ao CL cap, .bool d, .string a, .int .u64 (n : Int)] 27)) = W0 at *
    generalize w.heap.size = B at *
    refine yc.mono ?_
    rintro e w1 ⟨rfl, k1⟩
    have y0 := k1.cell x0 (fun f => f)
    have y1 := k1.cell x1 (fun f => f)
    have y2 := k1.cell x2 (fun f => f)
    have y3 := k1.cell x3 (fun f => f)
    have K1 := kA.trans k1
    have yk := yk w1 K1
    clear yc k1 kA x0 x1 x2 x3
    go_wp2_with fail
    refine yk.mono ?_
    rintro e w2 ⟨rfl, k2⟩
    have K2 := K1.trans k2
    clear yk k2 K1 y0 y1 y2 y3
    go_wp2
    go_ret
    exact ⟨rfl, K2⟩
  rw [hav_no (k := ⟨c, d, ⟨a, n⟩⟩) h]
  show Calls Try.prog _ _ _ fun e w' => e = .returned (.int .u64 (vCount c s : Int)) ∧ Keep0 w w'
  by_cases h1 : vCount c s = 18446744073709551615
  · have yk := fun W K => yk W K 0
    rw [knows_zero] at yk
    rw [h1] at yc ⊢
    have i6 : IntKind.u64.wrap (18446744073709551615 + 1) = 0 := by decide
    have i7 : IntKind.u64.wrap 18446744073709551616 = 0 := by decide
    clear hl hc ok h hn h1
    generalize c.length = CL at *
    go_enter Try.func42, Try.ntmps42
    go_wp2_with fail
    generalize (w.alloc (.cells #[.slice ao CL cap, .bool d, .string a, .int .u64 (n : Int)] 27)) = W0 at *
    generalize w.heap.size = B at *
    refine yc.mono ?_
    rintro e w1 ⟨rfl, k1⟩
    have y0 := k1.cell x0 (fun f => f)
    have y1 := k1.cell x1 (fun f => f)
    have y2 := k1.cell x2 (fun f => f)
    have y3 := k1.cell x3 (fun f => f)
    have K1 := kA.trans k1
    have yk := yk w1 K1
    clear yc k1 kA x0 x1 x2 x3
    go_wp2_with fail
    refine yk.mono ?_
    rintro e w2 ⟨rfl, k2⟩
    have K2 := K1.trans k2
    clear yk k2 K1 y0 y1 y2 y3
    go_wp2
    go_ret
    exact ⟨rfl, K2⟩
  · have yk := fun W K => yk W K (vCount c s + 1)
    have hf : kKnows ⟨c, d, ⟨a, n⟩⟩ s (vCount c s + 1) = false := by
      rw [knows_vec (k := ⟨c, d, ⟨a, n⟩⟩) (by omega) h]
      exact decide_eq_false (by show ¬ vCount c s + 1 ≤ vCount c s; omega)
    rw [hf] at yk
    obtain ⟨N, hN⟩ : ∃ N, vCount c s = N := ⟨_, rfl⟩
    obtain ⟨M, hM⟩ : ∃ M, N + 1 = M := ⟨_, rfl⟩
    rw [hN] at yc yk h hl h1 ⊢
    rw [hM] at yk
    have i5 : (N : Int) + 1 = (M : Int) := by omega
    have i6 : IntKind.u64.wrap (M : Int) = (M : Int) := by rw [IntKind.wrap_u64]; omega
    clear hN hM hl hc ok h hn h1 hf
    generalize c.length = CL at *
    go_enter Try.func42, Try.ntmps42
    go_wp2_with fail
    generalize (w.alloc (.cells #[.slice ao CL cap, .bool d, .string a, .int .u64 (n : Int)] 27)) = W0 at *
    generalize w.heap.size = B at *
    refine yc.mono ?_
    rintro e w1 ⟨rfl, k1⟩
    have y0 := k1.cell x0 (fun f => f)
    have y1 := k1.cell x1 (fun f => f)
    have y2 := k1.cell x2 (fun f => f)
    have y3 := k1.cell x3 (fun f => f)
    have K1 := kA.trans k1
    have yk := yk w1 K1
    clear yc k1 kA x0 x1 x2 x3
    go_wp2_with fail
    refine yk.mono ?_
    rintro e w2 ⟨rfl, k2⟩
    have K2 := K1.trans k2
    clear yk k2 K1 y0 y1 y2 y3
    go_wp2
    go_ret
    exact ⟨rfl, K2⟩

/-! ### covers -/
set_option maxRecDepth 100000 in
set_option maxHeartbeats 8000000 in
theorem cover12_any (w : World) (ao bo : Option Addr) (ca cb : Nat) (c c' : List En) (d d' : Bool) (x x' : ByteArray) (n n' : Nat) (hv : Ok10 c) (hv' : Ok10 c') (hn : n < 18446744073709551616) (hc : EnsAt w ao c) (hc' : EnsAt w bo c') :
    Calls Try.prog 33 #[.agg #[.slice ao c.length ca, .bool d, .string x, .int .u64 (n : Int)], .agg #[.slice bo c'.length cb, .bool d', .string x', .int .u64 (n' : Int)]] w fun e w' => e = .returned (.bool (kCovers ⟨c, d, ⟨x, n⟩⟩ ⟨c', d', ⟨x', n'⟩⟩)) ∧ Keep0 w w' := by
  have kA : Keep0 w ((w.alloc (.cells #[.slice ao c.length ca, .bool d, .string x, .int .u64 (n : Int)] 27)).alloc (.cells #[.slice bo c'.length cb, .bool d', .string x', .int .u64 (n' : Int)] 27)) := ((Keep.refl _ w).alloc _).alloc _
  have k0 : Keep0 (w.alloc (.cells #[.slice ao c.length ca, .bool d, .string x, .int .u64 (n : Int)] 27)) ((w.alloc (.cells #[.slice ao c.length ca, .bool d, .string x, .int .u64 (n : Int)] 27)).alloc (.cells #[.slice bo c'.length cb, .bool d', .string x', .int .u64 (n' : Int)] 27)) := (Keep.refl _ _).alloc _
  have hX : ClkAt _ w.heap.size 0 ⟨c, d, ⟨x, n⟩⟩ ao ca := (clk_new w 27 ⟨c, d, ⟨x, n⟩⟩ ao ca).keep0 k0
  have hZ := clk_new (w.alloc (.cells #[.slice ao c.length ca, .bool d, .string x, .int .u64 (n : Int)] 27)) 27 ⟨c', d', ⟨x', n'⟩⟩ bo cb
  rw [World.size_alloc] at hZ
  have yk := fun W (K : Keep0 w W) => know12_any W ao ca c d x n hv (hc.keep0 K) x' n'
  have yn := fun (W : World) (K : Keep0 w W) (s : ByteArray) => reach12_any W ao ca c d x n hv hn (hc.keep0 K) s
  have HC' : Hid (EnsAt w bo c') := hc'
  have hl' : (c'.length : Int) ≤ 9223372036854775807 := by have := hv'.1; omega
  clear hc hc' k0 hv hv'
  show Calls Try.prog _ _ _ fun e w' => e = .returned (.bool ((!d' || kKnows ⟨c, d, ⟨x, n⟩⟩ x' n') && cAll ⟨c, d, ⟨x, n⟩⟩ c')) ∧ Keep0 w w'
  obtain ⟨T, hT⟩ : ∃ T, (!d' || kKnows ⟨c, d, ⟨x, n⟩⟩ x' n') = T := ⟨_, rfl⟩
  rw [hT]
  obtain ⟨r, hr⟩ : ∃ r, (T && cAll ⟨c, d, ⟨x, n⟩⟩ c') = r := ⟨_, rfl⟩
  rw [hr]
  have HR : Hid ((T && cAll ⟨c, d, ⟨x, n⟩⟩ (c'.drop 0)) = r) := hr
  have HT : Hid ((!d' || kKnows ⟨c, d, ⟨x, n⟩⟩ x' n') = T) := hT
  clear hr hT
  obtain ⟨x0, x1, x2, x3⟩ := hX
  obtain ⟨z0, z1, z2, z3⟩ := hZ
  have KS : Hid (Keep0 w ((w.alloc (.cells #[.slice ao c.length ca, .bool d, .string x, .int .u64 (n : Int)] 27)).alloc (.cells #[.slice bo c'.length cb, .bool d', .string x', .int .u64 (n' : Int)] 27))) := kA
  go_enter Try.func33, Try.ntmps33
  go_wp2_with fail
  generalize ((w.alloc (.cells #[.slice ao c.length ca, .bool d, .string x, .int .u64 (n : Int)] 27)).alloc (.cells #[.slice bo c'.length cb, .bool d', .string x', .int .u64 (n' : Int)] 27)) = WS at *
  generalize w.heap.size = B at *
  clear kA
  have x0 : Hid (WS.cell? ⟨B, 0, none⟩ = some (.slice ao c.length ca)) := x0
  have x1 : Hid (WS.cell? ⟨B, 0 + 1, none⟩ = some (.bool d)) := x1
  have x2 : Hid (WS.cell? ⟨B, 0 + 2, none⟩ = some (.string x)) := x2
  have x3 : Hid (WS.cell? ⟨B, 0 + 3, none⟩ = some (.int .u64 (n : Int))) := x3
  have z1 : Hid (WS.cell? ⟨B + 1, 0 + 1, none⟩ = some (.bool d')) := z1
  have z2 : Hid (WS.cell? ⟨B + 1, 0 + 2, none⟩ = some (.string x')) := z2
  have z3 : Hid (WS.cell? ⟨B + 1, 0 + 3, none⟩ = some (.int .u64 (n' : Int))) := z3
  clear z0
  go_loopw [10] (fun i wr => ∃ (k : Nat), i = .int .i64 (k : Int) ∧ k ≤ c'.length ∧ Hid ((T && cAll ⟨c, d, ⟨x, n⟩⟩ (c'.drop k)) = r) ∧ Keep0 WS wr) (fun i _ => c'.length - (intOf i).toNat)
  case atStart => exact ⟨0, rfl, by omega, HR, Keep.refl _ _⟩
  case round =>
    obtain ⟨k, rfl, hk, HK, hK⟩ := hrel
    have KW := KS.out.trans hK
    by_cases hlt : k < c'.length
    · have i1 : (k : Int) < c'.length := by omega
      obtain ⟨g, off, rfl, p0, p1⟩ := HC'.out k hlt
      have y0 := KW.cell p0 (fun f => f)
      have y1 := KW.cell p1 (fun f => f)
      have kN : Keep0 WS (wr.alloc (.cells #[.string c'[k].a, .int .u64 (c'[k].n : Int)] 25)) := hK.alloc _
      have u0 := kN.cell x0.out (fun f => f)
      have u1 := kN.cell x1.out (fun f => f)
      have u2 := kN.cell x2.out (fun f => f)
      have u3 := kN.cell x3.out (fun f => f)
      have q0 : (wr.alloc (.cells #[.string c'[k].a, .int .u64 (c'[k].n : Int)] 25)).cell? ⟨wr.heap.size, 0, none⟩ = some (.string c'[k].a) := cell_alloc _ 25 rfl
      have q1 : (wr.alloc (.cells #[.string c'[k].a, .int .u64 (c'[k].n : Int)] 25)).cell? ⟨wr.heap.size, 1, none⟩ = some (.int .u64 (c'[k].n : Int)) := cell_alloc _ 25 rfl
      have KN := KS.out.trans kN
      have yc := fun W (K : Keep0 w W) => yn W K c'[k].a
      have hd := HK.out
      rw [cAll_drop hlt] at hd
      clear p0 p1 HR
      by_cases h1 : c'[k].n ≤ hav ⟨c, d, ⟨x, n⟩⟩ c'[k].a
      · rw [decide_eq_true h1, Bool.true_and] at hd
        have HE : Hid ((T && cAll ⟨c, d, ⟨x, n⟩⟩ (c'.drop (k + 1))) = r) := hd
        have i9 : decide ((hav ⟨c, d, ⟨x, n⟩⟩ c'[k].a : Int) < (c'[k].n : Int)) = false := decide_eq_false (by omega)
        have i10 : ¬ (hav ⟨c, d, ⟨x, n⟩⟩ c'[k].a : Int) < (c'[k].n : Int) := by omega
        clear hd HK h1 yk yn HT
        generalize hVC : hav ⟨c, d, ⟨x, n⟩⟩ c'[k].a = VC at *
        clear hVC
        generalize (c'[k].n : Int) = N at *
        generalize c'[k].a = A at *
        go_wp2_with fail
        generalize (wr.alloc (.cells #[.string A, .int .u64 N] 25)) = W0 at *
        generalize wr.heap.size = G at *
        refine wp_region_held_drew (S := (fun W => W.cell? ⟨B, 0, none⟩ = some (.slice ao c.length ca) ∧ W.cell? ⟨B, 0 + 1, none⟩ = some (.bool d) ∧ W.cell? ⟨B, 0 + 2, none⟩ = some (.string x) ∧ W.cell? ⟨B, 0 + 3, none⟩ = some (.int .u64 (n : Int)) ∧ W.cell? ⟨G, 0, none⟩ = some (.string A) ∧ W.cell? ⟨G, 1, none⟩ = some (.int .u64 N))) (by kernel_rfl) ⟨u0, u1, u2, u3, q0, q1⟩ (fun hHeld => ?_)
        refine wpAnyH_take (i := 0) (v := ?p0v) (by simp only [List.getElem?_toArray, List.getElem?_cons_zero] <;> rfl) (by kernel_rfl) (by kernel_rfl) (by kernel_rfl) (by exact fun _ _ _ h => h) (Or.inl ⟨by rfl, ?p0y⟩) hHeld ?p0r
        case p0y => intro w hSw; (try dsimp only at hSw); go_simp <;> rfl
        simp only [Act.put, List.setIfInBounds_toArray, List.set_cons_zero, List.set_cons_succ]
        refine wpAnyH_take (i := 1) (v := ?p1v) (by simp only [List.getElem?_toArray, List.getElem?_cons_succ, List.getElem?_cons_zero] <;> rfl) (by kernel_rfl) (by kernel_rfl) (by kernel_rfl) (by exact fun _ _ _ h => h) (Or.inl ⟨by rfl, ?p1y⟩) hHeld ?p1r
        case p1y => intro w hSw; (try dsimp only at hSw); go_simp <;> rfl
        simp only [Act.put, List.setIfInBounds_toArray, List.set_cons_zero, List.set_cons_succ]
        refine wpAnyH_take (i := 2) (v := ?p2v) (by simp only [List.getElem?_toArray, List.getElem?_cons_succ, List.getElem?_cons_zero] <;> rfl) (by kernel_rfl) (by kernel_rfl) (by kernel_rfl) (by exact fun _ _ _ h => h) (Or.inl ⟨by rfl, ?p2y⟩) hHeld ?p2r
        case p2y => intro w hSw; (try dsimp only at hSw); go_simp <;> rfl
        simp only [Act.put, List.setIfInBounds_toArray, List.set_cons_zero, List.set_cons_succ]
        refine wpAnyH_take (i := 4) (v := ?p3v) (by simp only [List.getElem?_toArray, List.getElem?_cons_succ, List.getElem?_cons_zero] <;> rfl) (by kernel_rfl) (by kernel_rfl) (by kernel_rfl) (by exact fun _ _ _ h => h) (Or.inl ⟨by rfl, ?p3y⟩) hHeld ?p3r
        case p3y => intro w hSw; (try dsimp only at hSw); go_simp <;> rfl
        simp only [Act.put, List.setIfInBounds_toArray, List.set_cons_zero, List.set_cons_succ]
        refine wpAnyH_take (i := 5) (v := ?p4v) (by simp only [List.getElem?_toArray, List.getElem?_cons_succ, List.getElem?_cons_zero] <;> rfl) (by kernel_rfl) (by kernel_rfl) (by kernel_rfl) (by exact fun _ _ _ h => h) (Or.inl ⟨by rfl, ?p4y⟩) hHeld ?p4r
        case p4y => intro w hSw; (try dsimp only at hSw); go_simp <;> rfl
        simp only [Act.put, List.setIfInBounds_toArray, List.set_cons_zero, List.set_cons_succ]
        refine wpAnyH_ready (rs := [3]) (by kernel_rfl) (by simp) ?_
        refine AllReadyH.cons (by simp only [List.getElem?_toArray, List.getElem?_cons_succ, List.getElem?_cons_zero] <;> rfl) (fun K hK => ?_) AllReadyH.nil
        go_simp
        refine (yc _ KN.drew).mono ?_
        rintro e w3 ⟨rfl, kx⟩
        have kw3 : Keep0 W0 w3 := ((Keep.refl _ W0).drew).trans kx
        clear kx
        go_wp2_with fail
        refine hK.out _ _ ⟨kw3.cell u0 (fun f => f), kw3.cell u1 (fun f => f), kw3.cell u2 (fun f => f), kw3.cell u3 (fun f => f), kw3.cell q0 (fun f => f), kw3.cell q1 (fun f => f)⟩ (fun hHeld => ?_)
        clear hK K
        refine wpAnyH_take (i := 6) (v := ?p5v) (by simp only [List.getElem?_toArray, List.getElem?_cons_succ, List.getElem?_cons_zero] <;> rfl) (by kernel_rfl) (by kernel_rfl) (by kernel_rfl) (by exact fun _ _ _ h => h) (Or.inl ⟨by rfl, ?p5y⟩) hHeld ?p5r
        case p5y => intro w hSw; (try dsimp only at hSw); go_simp <;> rfl
        simp only [Act.put, List.setIfInBounds_toArray, List.set_cons_zero, List.set_cons_succ]
        refine wpAnyH_done (by kernel_rfl) ?_ _
        have K3 := kN.trans kw3
        have K4 := KN.trans kw3
        clear yc kw3 hHeld u0 u1 u2 u3 q0 q1 kN KN y0 y1
        go_wp2
        go_roundw
        case rel => exact ⟨k + 1, by go_num, by omega, HE, K3⟩
        case measure => simp [intOf]; omega
      · rw [decide_eq_false h1, Bool.false_and, Bool.and_false] at hd
        have HE : Hid (false = r) := hd
        have i9 : decide ((hav ⟨c, d, ⟨x, n⟩⟩ c'[k].a : Int) < (c'[k].n : Int)) = true := decide_eq_true (by omega)
        have i10 : (hav ⟨c, d, ⟨x, n⟩⟩ c'[k].a : Int) < (c'[k].n : Int) := by omega
        clear hd HK h1 yk yn HT
        generalize hVC : hav ⟨c, d, ⟨x, n⟩⟩ c'[k].a = VC at *
        clear hVC
        generalize (c'[k].n : Int) = N at *
        generalize c'[k].a = A at *
        go_wp2_with fail
        generalize (wr.alloc (.cells #[.string A, .int .u64 N] 25)) = W0 at *
        generalize wr.heap.size = G at *
        refine wp_region_held_drew (S := (fun W => W.cell? ⟨B, 0, none⟩ = some (.slice ao c.length ca) ∧ W.cell? ⟨B, 0 + 1, none⟩ = some (.bool d) ∧ W.cell? ⟨B, 0 + 2, none⟩ = some (.string x) ∧ W.cell? ⟨B, 0 + 3, none⟩ = some (.int .u64 (n : Int)) ∧ W.cell? ⟨G, 0, none⟩ = some (.string A) ∧ W.cell? ⟨G, 1, none⟩ = some (.int .u64 N))) (by kernel_rfl) ⟨u0, u1, u2, u3, q0, q1⟩ (fun hHeld => ?_)
        refine wpAnyH_take (i := 0) (v := ?q0v) (by simp only [List.getElem?_toArray, List.getElem?_cons_zero] <;> rfl) (by kernel_rfl) (by kernel_rfl) (by kernel_rfl) (by exact fun _ _ _ h => h) (Or.inl ⟨by rfl, ?q0y⟩) hHeld ?q0r
        case q0y => intro w hSw; (try dsimp only at hSw); go_simp <;> rfl
        simp only [Act.put, List.setIfInBounds_toArray, List.set_cons_zero, List.set_cons_succ]
        refine wpAnyH_take (i := 1) (v := ?q1v) (by simp only [List.getElem?_toArray, List.getElem?_cons_succ, List.getElem?_cons_zero] <;> rfl) (by kernel_rfl) (by kernel_rfl) (by kernel_rfl) (by exact fun _ _ _ h => h) (Or.inl ⟨by rfl, ?q1y⟩) hHeld ?q1r
        case q1y => intro w hSw; (try dsimp only at hSw); go_simp <;> rfl
        simp only [Act.put, List.setIfInBounds_toArray, List.set_cons_zero, List.set_cons_succ]
        refine wpAnyH_take (i := 2) (v := ?q2v) (by simp only [List.getElem?_toArray, List.getElem?_cons_succ, List.getElem?_cons_zero] <;> rfl) (by kernel_rfl) (by kernel_rfl) (by kernel_rfl) (by exact fun _ _ _ h => h) (Or.inl ⟨by rfl, ?q2y⟩) hHeld ?q2r
        case q2y => intro w hSw; (try dsimp only at hSw); go_simp <;> rfl
        simp only [Act.put, List.setIfInBounds_toArray, List.set_cons_zero, List.set_cons_succ]
        refine wpAnyH_take (i := 4) (v := ?q3v) (by simp only [List.getElem?_toArray, List.getElem?_cons_succ, List.getElem?_cons_zero] <;> rfl) (by kernel_rfl) (by kernel_rfl) (by kernel_rfl) (by exact fun _ _ _ h => h) (Or.inl ⟨by rfl, ?q3y⟩) hHeld ?q3r
        case q3y => intro w hSw; (try dsimp only at hSw); go_simp <;> rfl
        simp only [Act.put, List.setIfInBounds_toArray, List.set_cons_zero, List.set_cons_succ]
        refine wpAnyH_take (i := 5) (v := ?q4v) (by simp only [List.getElem?_toArray, List.getElem?_cons_succ, List.getElem?_cons_zero] <;> rfl) (by kernel_rfl) (by kernel_rfl) (by kernel_rfl) (by exact fun _ _ _ h => h) (Or.inl ⟨by rfl, ?q4y⟩) hHeld ?q4r
        case q4y => intro w hSw; (try dsimp only at hSw); go_simp <;> rfl
        simp only [Act.put, List.setIfInBounds_toArray, List.set_cons_zero, List.set_cons_succ]
        refine wpAnyH_ready (rs := [3]) (by kernel_rfl) (by simp) ?_
        refine AllReadyH.cons (by simp only [List.getElem?_toArray, List.getElem?_cons_succ, List.getElem?_cons_zero] <;> rfl) (fun K hK => ?_) AllReadyH.nil
        go_simp
        refine (yc _ KN.drew).mono ?_
        rintro e w3 ⟨rfl, kx⟩
        have kw3 : Keep0 W0 w3 := ((Keep.refl _ W0).drew).trans kx
        clear kx
        go_wp2_with fail
        refine hK.out _ _ ⟨kw3.cell u0 (fun f => f), kw3.cell u1 (fun f => f), kw3.cell u2 (fun f => f), kw3.cell u3 (fun f => f), kw3.cell q0 (fun f => f), kw3.cell q1 (fun f => f)⟩ (fun hHeld => ?_)
        clear hK K
        refine wpAnyH_take (i := 6) (v := ?q5v) (by simp only [List.getElem?_toArray, List.getElem?_cons_succ, List.getElem?_cons_zero] <;> rfl) (by kernel_rfl) (by kernel_rfl) (by kernel_rfl) (by exact fun _ _ _ h => h) (Or.inl ⟨by rfl, ?q5y⟩) hHeld ?q5r
        case q5y => intro w hSw; (try dsimp only at hSw); go_simp <;> rfl
        simp only [Act.put, List.setIfInBounds_toArray, List.set_cons_zero, List.set_cons_succ]
        refine wpAnyH_done (by kernel_rfl) ?_ _
        have K3 := kN.trans kw3
        have K4 := KN.trans kw3
        clear yc kw3 hHeld u0 u1 u2 u3 q0 q1 kN KN y0 y1
        go_wp2
        go_ret
        exact ⟨by rw [← HE.out]; rfl, K4⟩
    · have i1 : ¬ (k : Int) < c'.length := by omega
      have hd := HK.out
      rw [List.drop_eq_nil_of_le (by omega)] at hd
      have HE : Hid (T = r) := by
        show T = r
        rw [← hd]
        show T = (T && true)
        rw [Bool.and_true]
      have u0 := hK.cell x0.out (fun f => f)
      have u1 := hK.cell x1.out (fun f => f)
      have u2 := hK.cell x2.out (fun f => f)
      have u3 := hK.cell x3.out (fun f => f)
      have v1 := hK.cell z1.out (fun f => f)
      have v2 := hK.cell z2.out (fun f => f)
      have v3 := hK.cell z3.out (fun f => f)
      have yk := yk wr KW
      clear hd HK HR yn HC'
      cases hd' : d' with
      | false =>
        have HD : Hid (true = T) := by show _ = T; rw [← HT.out, hd']; rfl
        rw [hd'] at v1
        clear HT hd' z1
        go_wp2
        go_ret
        exact ⟨by rw [← HE.out, ← HD.out]; rfl, KW⟩
      | true =>
        have HD : Hid (kKnows ⟨c, d, ⟨x, n⟩⟩ x' n' = T) := by show _ = T; rw [← HT.out, hd']; rfl
        rw [hd'] at v1
        clear HT hd' z1
        generalize kKnows ⟨c, d, ⟨x, n⟩⟩ x' n' = Q at *
        go_wp2_with fail
        refine yk.mono ?_
        rintro e w3 ⟨rfl, k3⟩
        have K3 := KW.trans k3
        clear yk k3 KW u0 u1 u2 u3 v1 v2 v3
        go_wp2
        go_ret
        exact ⟨by rw [← HE.out, ← HD.out]; rfl, K3⟩
end Go.Proofs.Ytkbihpdfafapeaa
