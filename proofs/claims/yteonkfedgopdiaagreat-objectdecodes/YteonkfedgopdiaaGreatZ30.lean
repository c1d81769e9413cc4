/-
  What this seat's claims lean on of the texts DtSame.
  Conditions: as each theorem states.
-/
import Derived.Test.YteonkfedgopdiaaGreatChecked
import Derived.WalkKit
import Derived.ProofKit
import Derived.Below
import Derived.Deep.Draws
import Derived.Deep.RegionHeld
import Derived.OpenShut
import Derived.ShutString
import Derived.WalkSpells
import Derived.WalkLawsBesides
import Derived.Deep.QuietTactic
import Derived.BigQuiet
import Derived.Deep.Slices
import Derived.Laws.Bits64b
import Derived.PlainAid
import Derived.Lib.AppendStr
import Derived.Deep.AppendLies
import Derived.Laws.IdiomStrings
import Derived.Laws.BytesArg
import Derived.Deep.RegionWith
import Derived.Laws.AppendOwn
import Derived.Deep.DeepAppendWide
import Derived.Deep.Upon
import Derived.Test.YteonkfedgopdiaaGreatZ28
import Derived.Test.YteonkfedgopdiaaGreatZ29
import Derived.Test.YteonkfedgopdiaaGreatZ17
namespace Go.Proofs.YteonkfedgopdiaaGreat
open Go.RowKit
set_option maxRecDepth 100000 in
set_option maxHeartbeats 4000000 in
theorem same12_any (w : World) (ao bo : Option Addr) (ca cb : Nat) (c c' : List En) (d d' : Bool) (a a' : ByteArray) (n n' : Nat) (hv : Ok10 c) (hv' : Ok10 c') (hc : EnsAt w ao c) (hc' : EnsAt w bo c') :
    Calls Tryz.prog 75 #[.agg #[.slice ao c.length ca, .bool d, .string a, .int .u64 (n : Int)], .agg #[.slice bo c'.length cb, .bool d', .string a', .int .u64 (n' : Int)]] w fun e w' => e = .returned (.bool (kSame ⟨c, d, ⟨a, n⟩⟩ ⟨c', d', ⟨a', n'⟩⟩)) ∧ Keep0 w w' := by
  have hk : kSame ⟨c, d, ⟨a, n⟩⟩ ⟨c', d', ⟨a', n'⟩⟩ = (vSame c c' && ((d == d') && decide (a = a' ∧ n = n'))) := rfl
  rw [hk]
  have yq := fun W (K : Keep0 w W) => same10 W ao bo ca cb c c' hv hv' (hc.keep0 K) (hc'.keep0 K)
  clear hk hc hc' hv hv'
  cases hs : vSame c c' with
  | false =>
    rw [Bool.false_and]
    rw [hs] at yq
    clear hs
    generalize c.length = CL at *
    generalize c'.length = CM at *
    have kA : Keep0 w ((w.alloc (.cells #[.slice ao CL ca, .bool d, .string a, .int .u64 (n : Int)] 41)).alloc (.cells #[.slice bo CM cb, .bool d', .string a', .int .u64 (n' : Int)] 41)) := ((Keep.refl _ w).alloc _).alloc _
    have k0 : Keep0 (w.alloc (.cells #[.slice ao CL ca, .bool d, .string a, .int .u64 (n : Int)] 41)) ((w.alloc (.cells #[.slice ao CL ca, .bool d, .string a, .int .u64 (n : Int)] 41)).alloc (.cells #[.slice bo CM cb, .bool d', .string a', .int .u64 (n' : Int)] 41)) := (Keep.refl _ _).alloc _
    have x0 : ((w.alloc (.cells #[.slice ao CL ca, .bool d, .string a, .int .u64 (n : Int)] 41)).alloc (.cells #[.slice bo CM cb, .bool d', .string a', .int .u64 (n' : Int)] 41)).cell? ⟨w.heap.size, 0, none⟩ = some (.slice ao CL ca) := k0.cell (cell_alloc _ 41 rfl) (fun f => f)
    have x1 : ((w.alloc (.cells #[.slice ao CL ca, .bool d, .string a, .int .u64 (n : Int)] 41)).alloc (.cells #[.slice bo CM cb, .bool d', .string a', .int .u64 (n' : Int)] 41)).cell? ⟨w.heap.size, 1, none⟩ = some (.bool d) := k0.cell (cell_alloc _ 41 rfl) (fun f => f)
    have x2 : ((w.alloc (.cells #[.slice ao CL ca, .bool d, .string a, .int .u64 (n : Int)] 41)).alloc (.cells #[.slice bo CM cb, .bool d', .string a', .int .u64 (n' : Int)] 41)).cell? ⟨w.heap.size, 2, none⟩ = some (.string a) := k0.cell (cell_alloc _ 41 rfl) (fun f => f)
    have x3 : ((w.alloc (.cells #[.slice ao CL ca, .bool d, .string a, .int .u64 (n : Int)] 41)).alloc (.cells #[.slice bo CM cb, .bool d', .string a', .int .u64 (n' : Int)] 41)).cell? ⟨w.heap.size, 3, none⟩ = some (.int .u64 (n : Int)) := k0.cell (cell_alloc _ 41 rfl) (fun f => f)
    have zA : (w.alloc (.cells #[.slice ao CL ca, .bool d, .string a, .int .u64 (n : Int)] 41)).heap.size = w.heap.size + 1 := World.size_alloc _ _
    have z1 : ((w.alloc (.cells #[.slice ao CL ca, .bool d, .string a, .int .u64 (n : Int)] 41)).alloc (.cells #[.slice bo CM cb, .bool d', .string a', .int .u64 (n' : Int)] 41)).cell? ⟨w.heap.size + 1, 1, none⟩ = some (.bool d') := by rw [← zA]; exact cell_alloc _ 41 rfl
    have z2 : ((w.alloc (.cells #[.slice ao CL ca, .bool d, .string a, .int .u64 (n : Int)] 41)).alloc (.cells #[.slice bo CM cb, .bool d', .string a', .int .u64 (n' : Int)] 41)).cell? ⟨w.heap.size + 1, 2, none⟩ = some (.string a') := by rw [← zA]; exact cell_alloc _ 41 rfl
    have z3 : ((w.alloc (.cells #[.slice ao CL ca, .bool d, .string a, .int .u64 (n : Int)] 41)).alloc (.cells #[.slice bo CM cb, .bool d', .string a', .int .u64 (n' : Int)] 41)).cell? ⟨w.heap.size + 1, 3, none⟩ = some (.int .u64 (n' : Int)) := by rw [← zA]; exact cell_alloc _ 41 rfl
    replace yq := yq _ kA
    clear k0 zA
    go_enter Tryz.func75, Tryz.ntmps75
    go_wp2_with fail
    generalize ((w.alloc (.cells #[.slice ao CL ca, .bool d, .string a, .int .u64 (n : Int)] 41)).alloc (.cells #[.slice bo CM cb, .bool d', .string a', .int .u64 (n' : Int)] 41)) = W1 at *
    generalize w.heap.size = B at *
    refine yq.mono ?_
    rintro e w1 ⟨rfl, k1⟩
    replace x1 := k1.cell x1 (fun f => f)
    replace x2 := k1.cell x2 (fun f => f)
    replace x3 := k1.cell x3 (fun f => f)
    replace z1 := k1.cell z1 (fun f => f)
    replace z2 := k1.cell z2 (fun f => f)
    replace z3 := k1.cell z3 (fun f => f)
    have K1 := kA.trans k1
    clear yq k1 kA x0
    go_wp2
    go_ret
    exact ⟨rfl, K1⟩
  | true =>
    rw [Bool.true_and]
    rw [hs] at yq
    clear hs
    by_cases hd : d = d'
    · subst hd
      have e0 : (d == d) = true := by simp
      rw [e0, Bool.true_and]
      by_cases h1 : a = a'
      · subst h1
        by_cases h2 : n = n'
        · subst h2
          rw [decide_eq_true ⟨rfl, rfl⟩]
          generalize c.length = CL at *
          generalize c'.length = CM at *
          have kA : Keep0 w ((w.alloc (.cells #[.slice ao CL ca, .bool d, .string a, .int .u64 (n : Int)] 41)).alloc (.cells #[.slice bo CM cb, .bool d, .string a, .int .u64 (n : Int)] 41)) := ((Keep.refl _ w).alloc _).alloc _
          have k0 : Keep0 (w.alloc (.cells #[.slice ao CL ca, .bool d, .string a, .int .u64 (n : Int)] 41)) ((w.alloc (.cells #[.slice ao CL ca, .bool d, .string a, .int .u64 (n : Int)] 41)).alloc (.cells #[.slice bo CM cb, .bool d, .string a, .int .u64 (n : Int)] 41)) := (Keep.refl _ _).alloc _
          have x0 : ((w.alloc (.cells #[.slice ao CL ca, .bool d, .string a, .int .u64 (n : Int)] 41)).alloc (.cells #[.slice bo CM cb, .bool d, .string a, .int .u64 (n : Int)] 41)).cell? ⟨w.heap.size, 0, none⟩ = some (.slice ao CL ca) := k0.cell (cell_alloc _ 41 rfl) (fun f => f)
          have x1 : ((w.alloc (.cells #[.slice ao CL ca, .bool d, .string a, .int .u64 (n : Int)] 41)).alloc (.cells #[.slice bo CM cb, .bool d, .string a, .int .u64 (n : Int)] 41)).cell? ⟨w.heap.size, 1, none⟩ = some (.bool d) := k0.cell (cell_alloc _ 41 rfl) (fun f => f)
          have x2 : ((w.alloc (.cells #[.slice ao CL ca, .bool d, .string a, .int .u64 (n : Int)] 41)).alloc (.cells #[.slice bo CM cb, .bool d, .string a, .int .u64 (n : Int)] 41)).cell? ⟨w.heap.size, 2, none⟩ = some (.string a) := k0.cell (cell_alloc _ 41 rfl) (fun f => f)
          have x3 : ((w.alloc (.cells #[.slice ao CL ca, .bool d, .string a, .int .u64 (n : Int)] 41)).alloc (.cells #[.slice bo CM cb, .bool d, .string a, .int .u64 (n : Int)] 41)).cell? ⟨w.heap.size, 3, none⟩ = some (.int .u64 (n : Int)) := k0.cell (cell_alloc _ 41 rfl) (fun f => f)
          have zA : (w.alloc (.cells #[.slice ao CL ca, .bool d, .string a, .int .u64 (n : Int)] 41)).heap.size = w.heap.size + 1 := World.size_alloc _ _
          have z1 : ((w.alloc (.cells #[.slice ao CL ca, .bool d, .string a, .int .u64 (n : Int)] 41)).alloc (.cells #[.slice bo CM cb, .bool d, .string a, .int .u64 (n : Int)] 41)).cell? ⟨w.heap.size + 1, 1, none⟩ = some (.bool d) := by rw [← zA]; exact cell_alloc _ 41 rfl
          have z2 : ((w.alloc (.cells #[.slice ao CL ca, .bool d, .string a, .int .u64 (n : Int)] 41)).alloc (.cells #[.slice bo CM cb, .bool d, .string a, .int .u64 (n : Int)] 41)).cell? ⟨w.heap.size + 1, 2, none⟩ = some (.string a) := by rw [← zA]; exact cell_alloc _ 41 rfl
          have z3 : ((w.alloc (.cells #[.slice ao CL ca, .bool d, .string a, .int .u64 (n : Int)] 41)).alloc (.cells #[.slice bo CM cb, .bool d, .string a, .int .u64 (n : Int)] 41)).cell? ⟨w.heap.size + 1, 3, none⟩ = some (.int .u64 (n : Int)) := by rw [← zA]; exact cell_alloc _ 41 rfl
          replace yq := yq _ kA
          clear k0 zA
          go_enter Tryz.func75, Tryz.ntmps75
          go_wp2_with fail
          generalize ((w.alloc (.cells #[.slice ao CL ca, .bool d, .string a, .int .u64 (n : Int)] 41)).alloc (.cells #[.slice bo CM cb, .bool d, .string a, .int .u64 (n : Int)] 41)) = W1 at *
          generalize w.heap.size = B at *
          refine yq.mono ?_
          rintro e w1 ⟨rfl, k1⟩
          replace x1 := k1.cell x1 (fun f => f)
          replace x2 := k1.cell x2 (fun f => f)
          replace x3 := k1.cell x3 (fun f => f)
          replace z1 := k1.cell z1 (fun f => f)
          replace z2 := k1.cell z2 (fun f => f)
          replace z3 := k1.cell z3 (fun f => f)
          have K1 := kA.trans k1
          clear yq k1 kA x0
          go_wp2
          go_ret
          exact ⟨rfl, K1⟩
        · rw [decide_eq_false (fun e => h2 e.2)]
          have j2 : ((n : Int) == (n' : Int)) = false := beq_eq_false_iff_ne.2 (by omega)
          have j3 : ¬ (n : Int) = (n' : Int) := by omega
          clear h2
          generalize c.length = CL at *
          generalize c'.length = CM at *
          have kA : Keep0 w ((w.alloc (.cells #[.slice ao CL ca, .bool d, .string a, .int .u64 (n : Int)] 41)).alloc (.cells #[.slice bo CM cb, .bool d, .string a, .int .u64 (n' : Int)] 41)) := ((Keep.refl _ w).alloc _).alloc _
          have k0 : Keep0 (w.alloc (.cells #[.slice ao CL ca, .bool d, .string a, .int .u64 (n : Int)] 41)) ((w.alloc (.cells #[.slice ao CL ca, .bool d, .string a, .int .u64 (n : Int)] 41)).alloc (.cells #[.slice bo CM cb, .bool d, .string a, .int .u64 (n' : Int)] 41)) := (Keep.refl _ _).alloc _
          have x0 : ((w.alloc (.cells #[.slice ao CL ca, .bool d, .string a, .int .u64 (n : Int)] 41)).alloc (.cells #[.slice bo CM cb, .bool d, .string a, .int .u64 (n' : Int)] 41)).cell? ⟨w.heap.size, 0, none⟩ = some (.slice ao CL ca) := k0.cell (cell_alloc _ 41 rfl) (fun f => f)
          have x1 : ((w.alloc (.cells #[.slice ao CL ca, .bool d, .string a, .int .u64 (n : Int)] 41)).alloc (.cells #[.slice bo CM cb, .bool d, .string a, .int .u64 (n' : Int)] 41)).cell? ⟨w.heap.size, 1, none⟩ = some (.bool d) := k0.cell (cell_alloc _ 41 rfl) (fun f => f)
          have x2 : ((w.alloc (.cells #[.slice ao CL ca, .bool d, .string a, .int .u64 (n : Int)] 41)).alloc (.cells #[.slice bo CM cb, .bool d, .string a, .int .u64 (n' : Int)] 41)).cell? ⟨w.heap.size, 2, none⟩ = some (.string a) := k0.cell (cell_alloc _ 41 rfl) (fun f => f)
          have x3 : ((w.alloc (.cells #[.slice ao CL ca, .bool d, .string a, .int .u64 (n : Int)] 41)).alloc (.cells #[.slice bo CM cb, .bool d, .string a, .int .u64 (n' : Int)] 41)).cell? ⟨w.heap.size, 3, none⟩ = some (.int .u64 (n : Int)) := k0.cell (cell_alloc _ 41 rfl) (fun f => f)
          have zA : (w.alloc (.cells #[.slice ao CL ca, .bool d, .string a, .int .u64 (n : Int)] 41)).heap.size = w.heap.size + 1 := World.size_alloc _ _
          have z1 : ((w.alloc (.cells #[.slice ao CL ca, .bool d, .string a, .int .u64 (n : Int)] 41)).alloc (.cells #[.slice bo CM cb, .bool d, .string a, .int .u64 (n' : Int)] 41)).cell? ⟨w.heap.size + 1, 1, none⟩ = some (.bool d) := by rw [← zA]; exact cell_alloc _ 41 rfl
          have z2 : ((w.alloc (.cells #[.slice ao CL ca, .bool d, .string a, .int .u64 (n : Int)] 41)).alloc (.cells #[.slice bo CM cb, .bool d, .string a, .int .u64 (n' : Int)] 41)).cell? ⟨w.heap.size + 1, 2, none⟩ = some (.string a) := by rw [← zA]; exact cell_alloc _ 41 rfl
          have z3 : ((w.alloc (.cells #[.slice ao CL ca, .bool d, .string a, .int .u64 (n : Int)] 41)).alloc (.cells #[.slice bo CM cb, .bool d, .string a, .int .u64 (n' : Int)] 41)).cell? ⟨w.heap.size + 1, 3, none⟩ = some (.int .u64 (n' : Int)) := by rw [← zA]; exact cell_alloc _ 41 rfl
          replace yq := yq _ kA
          clear k0 zA
          go_enter Tryz.func75, Tryz.ntmps75
          go_wp2_with fail
          generalize ((w.alloc (.cells #[.slice ao CL ca, .bool d, .string a, .int .u64 (n : Int)] 41)).alloc (.cells #[.slice bo CM cb, .bool d, .string a, .int .u64 (n' : Int)] 41)) = W1 at *
          generalize w.heap.size = B at *
          refine yq.mono ?_
          rintro e w1 ⟨rfl, k1⟩
          replace x1 := k1.cell x1 (fun f => f)
          replace x2 := k1.cell x2 (fun f => f)
          replace x3 := k1.cell x3 (fun f => f)
          replace z1 := k1.cell z1 (fun f => f)
          replace z2 := k1.cell z2 (fun f => f)
          replace z3 := k1.cell z3 (fun f => f)
          have K1 := kA.trans k1
          clear yq k1 kA x0
          go_wp2
          go_ret
          exact ⟨rfl, K1⟩
      · rw [decide_eq_false (fun e => h1 e.1)]
        obtain ⟨e2, e3, e4⟩ := txt_ne h1
        clear h1
        generalize c.length = CL at *
        generalize c'.length = CM at *
        have kA : Keep0 w ((w.alloc (.cells #[.slice ao CL ca, .bool d, .string a, .int .u64 (n : Int)] 41)).alloc (.cells #[.slice bo CM cb, .bool d, .string a', .int .u64 (n' : Int)] 41)) := ((Keep.refl _ w).alloc _).alloc _
        have k0 : Keep0 (w.alloc (.cells #[.slice ao CL ca, .bool d, .string a, .int .u64 (n : Int)] 41)) ((w.alloc (.cells #[.slice ao CL ca, .bool d, .string a, .int .u64 (n : Int)] 41)).alloc (.cells #[.slice bo CM cb, .bool d, .string a', .int .u64 (n' : Int)] 41)) := (Keep.refl _ _).alloc _
        have x0 : ((w.alloc (.cells #[.slice ao CL ca, .bool d, .string a, .int .u64 (n : Int)] 41)).alloc (.cells #[.slice bo CM cb, .bool d, .string a', .int .u64 (n' : Int)] 41)).cell? ⟨w.heap.size, 0, none⟩ = some (.slice ao CL ca) := k0.cell (cell_alloc _ 41 rfl) (fun f => f)
        have x1 : ((w.alloc (.cells #[.slice ao CL ca, .bool d, .string a, .int .u64 (n : Int)] 41)).alloc (.cells #[.slice bo CM cb, .bool d, .string a', .int .u64 (n' : Int)] 41)).cell? ⟨w.heap.size, 1, none⟩ = some (.bool d) := k0.cell (cell_alloc _ 41 rfl) (fun f => f)
        have x2 : ((w.alloc (.cells #[.slice ao CL ca, .bool d, .string a, .int .u64 (n : Int)] 41)).alloc (.cells #[.slice bo CM cb, .bool d, .string a', .int .u64 (n' : Int)] 41)).cell? ⟨w.heap.size, 2, none⟩ = some (.string a) := k0.cell (cell_alloc _ 41 rfl) (fun f => f)
        have x3 : ((w.alloc (.cells #[.slice ao CL ca, .bool d, .string a, .int .u64 (n : Int)] 41)).alloc (.cells #[.slice bo CM cb, .bool d, .string a', .int .u64 (n' : Int)] 41)).cell? ⟨w.heap.size, 3, none⟩ = some (.int .u64 (n : Int)) := k0.cell (cell_alloc _ 41 rfl) (fun f => f)
        have zA : (w.alloc (.cells #[.slice ao CL ca, .bool d, .string a, .int .u64 (n : Int)] 41)).heap.size = w.heap.size + 1 := World.size_alloc _ _
        have z1 : ((w.alloc (.cells #[.slice ao CL ca, .bool d, .string a, .int .u64 (n : Int)] 41)).alloc (.cells #[.slice bo CM cb, .bool d, .string a', .int .u64 (n' : Int)] 41)).cell? ⟨w.heap.size + 1, 1, none⟩ = some (.bool d) := by rw [← zA]; exact cell_alloc _ 41 rfl
        have z2 : ((w.alloc (.cells #[.slice ao CL ca, .bool d, .string a, .int .u64 (n : Int)] 41)).alloc (.cells #[.slice bo CM cb, .bool d, .string a', .int .u64 (n' : Int)] 41)).cell? ⟨w.heap.size + 1, 2, none⟩ = some (.string a') := by rw [← zA]; exact cell_alloc _ 41 rfl
        have z3 : ((w.alloc (.cells #[.slice ao CL ca, .bool d, .string a, .int .u64 (n : Int)] 41)).alloc (.cells #[.slice bo CM cb, .bool d, .string a', .int .u64 (n' : Int)] 41)).cell? ⟨w.heap.size + 1, 3, none⟩ = some (.int .u64 (n' : Int)) := by rw [← zA]; exact cell_alloc _ 41 rfl
        replace yq := yq _ kA
        clear k0 zA
        go_enter Tryz.func75, Tryz.ntmps75
        go_wp2_with fail
        generalize ((w.alloc (.cells #[.slice ao CL ca, .bool d, .string a, .int .u64 (n : Int)] 41)).alloc (.cells #[.slice bo CM cb, .bool d, .string a', .int .u64 (n' : Int)] 41)) = W1 at *
        generalize w.heap.size = B at *
        refine yq.mono ?_
        rintro e w1 ⟨rfl, k1⟩
        replace x1 := k1.cell x1 (fun f => f)
        replace x2 := k1.cell x2 (fun f => f)
        replace x3 := k1.cell x3 (fun f => f)
        replace z1 := k1.cell z1 (fun f => f)
        replace z2 := k1.cell z2 (fun f => f)
        replace z3 := k1.cell z3 (fun f => f)
        have K1 := kA.trans k1
        clear yq k1 kA x0
        go_wp2
        go_ret
        exact ⟨rfl, K1⟩
    · have e0 : (d == d') = false := beq_eq_false_iff_ne.2 hd
      rw [e0, Bool.false_and]
      generalize c.length = CL at *
      generalize c'.length = CM at *
      have kA : Keep0 w ((w.alloc (.cells #[.slice ao CL ca, .bool d, .string a, .int .u64 (n : Int)] 41)).alloc (.cells #[.slice bo CM cb, .bool d', .string a', .int .u64 (n' : Int)] 41)) := ((Keep.refl _ w).alloc _).alloc _
      have k0 : Keep0 (w.alloc (.cells #[.slice ao CL ca, .bool d, .string a, .int .u64 (n : Int)] 41)) ((w.alloc (.cells #[.slice ao CL ca, .bool d, .string a, .int .u64 (n : Int)] 41)).alloc (.cells #[.slice bo CM cb, .bool d', .string a', .int .u64 (n' : Int)] 41)) := (Keep.refl _ _).alloc _
      have x0 : ((w.alloc (.cells #[.slice ao CL ca, .bool d, .string a, .int .u64 (n : Int)] 41)).alloc (.cells #[.slice bo CM cb, .bool d', .string a', .int .u64 (n' : Int)] 41)).cell? ⟨w.heap.size, 0, none⟩ = some (.slice ao CL ca) := k0.cell (cell_alloc _ 41 rfl) (fun f => f)
      have x1 : ((w.alloc (.cells #[.slice ao CL ca, .bool d, .string a, .int .u64 (n : Int)] 41)).alloc (.cells #[.slice bo CM cb, .bool d', .string a', .int .u64 (n' : Int)] 41)).cell? ⟨w.heap.size, 1, none⟩ = some (.bool d) := k0.cell (cell_alloc _ 41 rfl) (fun f => f)
      have x2 : ((w.alloc (.cells #[.slice ao CL ca, .bool d, .string a, .int .u64 (n : Int)] 41)).alloc (.cells #[.slice bo CM cb, .bool d', .string a', .int .u64 (n' : Int)] 41)).cell? ⟨w.heap.size, 2, none⟩ = some (.string a) := k0.cell (cell_alloc _ 41 rfl) (fun f => f)
      have x3 : ((w.alloc (.cells #[.slice ao CL ca, .bool d, .string a, .int .u64 (n : Int)] 41)).alloc (.cells #[.slice bo CM cb, .bool d', .string a', .int .u64 (n' : Int)] 41)).cell? ⟨w.heap.size, 3, none⟩ = some (.int .u64 (n : Int)) := k0.cell (cell_alloc _ 41 rfl) (fun f => f)
      have zA : (w.alloc (.cells #[.slice ao CL ca, .bool d, .string a, .int .u64 (n : Int)] 41)).heap.size = w.heap.size + 1 := World.size_alloc _ _
      have z1 : ((w.alloc (.cells #[.slice ao CL ca, .bool d, .string a, .int .u64 (n : Int)] 41)).alloc (.cells #[.slice bo CM cb, .bool d', .string a', .int .u64 (n' : Int)] 41)).cell? ⟨w.heap.size + 1, 1, none⟩ = some (.bool d') := by rw [← zA]; exact cell_alloc _ 41 rfl
      have z2 : ((w.alloc (.cells #[.slice ao CL ca, .bool d, .string a, .int .u64 (n : Int)] 41)).alloc (.cells #[.slice bo CM cb, .bool d', .string a', .int .u64 (n' : Int)] 41)).cell? ⟨w.heap.size + 1, 2, none⟩ = some (.string a') := by rw [← zA]; exact cell_alloc _ 41 rfl
      have z3 : ((w.alloc (.cells #[.slice ao CL ca, .bool d, .string a, .int .u64 (n : Int)] 41)).alloc (.cells #[.slice bo CM cb, .bool d', .string a', .int .u64 (n' : Int)] 41)).cell? ⟨w.heap.size + 1, 3, none⟩ = some (.int .u64 (n' : Int)) := by rw [← zA]; exact cell_alloc _ 41 rfl
      replace yq := yq _ kA
      clear k0 zA
      go_enter Tryz.func75, Tryz.ntmps75
      go_wp2_with fail
      generalize ((w.alloc (.cells #[.slice ao CL ca, .bool d, .string a, .int .u64 (n : Int)] 41)).alloc (.cells #[.slice bo CM cb, .bool d', .string a', .int .u64 (n' : Int)] 41)) = W1 at *
      generalize w.heap.size = B at *
      refine yq.mono ?_
      rintro e w1 ⟨rfl, k1⟩
      replace x1 := k1.cell x1 (fun f => f)
      replace x2 := k1.cell x2 (fun f => f)
      replace x3 := k1.cell x3 (fun f => f)
      replace z1 := k1.cell z1 (fun f => f)
      replace z2 := k1.cell z2 (fun f => f)
      replace z3 := k1.cell z3 (fun f => f)
      have K1 := kA.trans k1
      clear yq k1 kA x0
      go_wp2
      go_ret
      exact ⟨rfl, K1⟩
theorem same12 (w : World) (ao bo : Option Addr) (ca cb : Nat) (a b : Ck) (oa : Ok12 a) (ob : Ok12 b) (ha : EnsAt w ao a.c) (hb : EnsAt w bo b.c) :
    Calls Tryz.prog 75 #[.agg #[.slice ao a.c.length ca, .bool a.d, .string a.x.a, .int .u64 (a.x.n : Int)], .agg #[.slice bo b.c.length cb, .bool b.d, .string b.x.a, .int .u64 (b.x.n : Int)]] w fun e w' => e = .returned (.bool (kSame a b)) ∧ Keep0 w w' :=
  same12_any w ao bo ca cb a.c b.c a.d b.d a.x.a b.x.a a.x.n b.x.n oa.ok10 ob.ok10 ha hb
end Go.Proofs.YteonkfedgopdiaaGreat
