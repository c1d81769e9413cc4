/-
  What this seat's claims lean on of the texts Open15, DtSame.
  Conditions: as each theorem states.
-/
import Derived.Test.YteonkfedgopdiaaGreatChecked
import Derived.WalkKit
import Derived.ProofKit
import Derived.Below
import Derived.Deep.Draws
import Derived.Deep.RegionHeld
import Derived.OpenShut
import Derived.ShutString
import Derived.WalkSpells
import Derived.WalkLawsBesides
import Derived.Deep.QuietTactic
import Derived.BigQuiet
import Derived.Deep.Slices
import Derived.Laws.Bits64b
import Derived.PlainAid
import Derived.Lib.AppendStr
import Derived.Deep.AppendLies
import Derived.Laws.IdiomStrings
import Derived.Laws.BytesArg
import Derived.Deep.RegionWith
import Derived.Laws.AppendOwn
import Derived.Deep.DeepAppendWide
import Derived.Deep.Upon
import Derived.Laws.Rows
import Derived.Test.YteonkfedgopdiaaGreatY20
import Derived.Test.YteonkfedgopdiaaGreatY18
import Derived.Test.YteonkfedgopdiaaGreatY25
import Derived.Test.YteonkfedgopdiaaGreatY26
import Derived.Test.YteonkfedgopdiaaGreatY17
namespace Go.Proofs.YteonkfedgopdiaaGreat
open Go.RowKit Go.WideShapes Go.ChangeShapes
structure Sbl (w : World) where
  vo : Option Addr
  vc : Nat
  po : Option Addr
  pc : Nat
  x : Sb
  fits : FitsS x
  at_ : SibIn w vo po pc x
def Sbl.cs {w : World} (c : Sbl w) : List Value := [.slice c.vo c.x.k.c.length c.vc, .bool c.x.k.d, .string c.x.k.x.a, .int .u64 (c.x.k.x.n : Int), .slice c.po c.x.m.length c.pc, .bool c.x.d, .string c.x.v]
set_option maxRecDepth 100000 in
theorem rd_sib {H : Type} {enc : TypeId × Value → H} {w : World} {cs : List Value} (h : Rd enc w 44 cs) : ∃ c : Sbl w, cs = c.cs := by
  obtain ⟨hl, hf⟩ := rd_struct Tryz.underlying44 h
  have hl7 : cs.length = 7 := hl.trans (by kernel_rfl)
  match cs, hl7 with
  | [v0, v1, v2, v3, v4, v5, v6], _ =>
    have g0 := hf 0 _ rfl
    have g1 := hf 1 _ rfl
    have g2 := hf 2 _ rfl
    have g3 := hf 3 _ rfl
    have c0 : Tryz.prog.cellsOf 41 = 4 := by kernel_rfl
    have c1 : Tryz.prog.cellsOf 42 = 1 := by kernel_rfl
    have c2 : Tryz.prog.cellsOf 4 = 1 := by kernel_rfl
    have c3 : Tryz.prog.cellsOf 9 = 1 := by kernel_rfl
    simp [c0, c1, c2, c3] at g0 g1 g2 g3
    obtain ⟨c, e0⟩ := rd_clock g0
    obtain ⟨po, pc, l, e1, hfl, ha⟩ := rd_prs g1
    have hcp : CapP l pc := by rw [e1] at g1; exact rd_cap Tryz.underlying42 g1
    obtain ⟨d, e2⟩ := rd_bool Tryz.underlying4 g2
    obtain ⟨v, e3, hv⟩ := rd_string Tryz.underlying9 g3
    simp [Clk.cs] at e0 e1 e2 e3
    refine ⟨⟨c.ao, c.cap, po, pc, ⟨c.k, l, d, v⟩, ⟨c.fits, hfl, hv⟩, ⟨c.at_, ha, hcp⟩⟩, ?_⟩
    show [v0, v1, v2, v3, v4, v5, v6] = [Value.slice c.ao c.k.c.length c.cap, .bool c.k.d, .string c.k.x.a, .int .u64 (c.k.x.n : Int), .slice po l.length pc, .bool d, .string v]
    rw [e0.1, e0.2.1, e0.2.2.1, e0.2.2.2, e1, e2, e3]
end Go.Proofs.YteonkfedgopdiaaGreat
namespace Go.Proofs.YteonkfedgopdiaaGreat
open Go.RowKit
set_option maxRecDepth 100000 in
set_option maxHeartbeats 4000000 in
theorem same12_any (w : World) (ao bo : Option Addr) (ca cb : Nat) (c c' : List En) (d d' : Bool) (a a' : ByteArray) (n n' : Nat) (hv : Ok10 c) (hv' : Ok10 c') (hc : EnsAt w ao c) (hc' : EnsAt w bo c') :
    Calls Tryz.prog 75 #[.agg #[.slice ao c.length ca, .bool d, .string a, .int .u64 (n : Int)], .agg #[.slice bo c'.length cb, .bool d', .string a', .int .u64 (n' : Int)]] w fun e w' => e = .returned (.bool (kSame ⟨c, d, ⟨a, n⟩⟩ ⟨c', d', ⟨a', n'⟩⟩)) ∧ Keep0 w w' := by
  have hk : kSame ⟨c, d, ⟨a, n⟩⟩ ⟨c', d', ⟨a', n'⟩⟩ = (vSame c c' && ((d == d') && decide (a = a' ∧ n = n'))) := rfl
  rw [hk]
  have yq := fun W (K : Keep0 w W) => same10 W ao bo ca cb c c' hv hv' (hc.keep0 K) (hc'.keep0 K)
  clear hk hc hc' hv hv'
  cases hs : vSame c c' with
  | false =>
    rw [Bool.false_and]
    rw [hs] at yq
    clear hs
    generalize c.length = CL at *
    generalize c'.length = CM at *
    have kA : Keep0 w ((w.alloc (.cells #[.slice ao CL ca, .bool d, .string a, .int .u64 (n : Int)] 41)).alloc (.cells #[.slice bo CM cb, .bool d', .string a', .int .u64 (n' : Int)] 41)) := ((Keep.refl _ w).alloc _).alloc _
    have k0 : Keep0 (w.alloc (.cells #[.slice ao CL ca, .bool d, .string a, .int .u64 (n : Int)] 41)) ((w.alloc (.cells #[.slice ao CL ca, .bool d, .string a, .int .u64 (n : Int)] 41)).alloc (.cells #[.slice bo CM cb, .bool d', .string a', .int .u64 (n' : Int)] 41)) := (Keep.refl _ _).alloc _
    have x0 : ((w.alloc (.cells #[.slice ao CL ca, .bool d, .string a, .int .u64 (n : Int)] 41)).alloc (.cells #[.slice bo CM cb, .bool d', .string a', .int .u64 (n' : Int)] 41)).cell? ⟨w.heap.size, 0, none⟩ = some (.slice ao CL ca) := k0.cell (cell_alloc _ 41 rfl) (fun f => f)
    have x1 : ((w.alloc (.cells #[.slice ao CL ca, .bool d, .string a, .int .u64 (n : Int)] 41)).alloc (.cells #[.slice bo CM cb, .bool d', .string a', .int .u64 (n' : Int)] 41)).cell? ⟨w.heap.size, 1, none⟩ = some (.bool d) := k0.cell (cell_alloc _ 41 rfl) (fun f => f)
    have x2 : ((w.alloc (.cells #[.slice ao CL ca, .bool d, .string a, .int .u64 (n : Int)] 41)).alloc (.cells #[.slice bo CM cb, .bool d', .string a', .int .u64 (n' : Int)] 41)).cell? ⟨w.heap.size, 2, none⟩ = some (.string a) := k0.cell (cell_alloc _ 41 rfl) (fun f => f)
    have x3 : ((w.alloc (.cells #[.slice ao CL ca, .bool d, .string a, .int .u64 (n : Int)] 41)).alloc (.cells #[.slice bo CM cb, .bool d', .string a', .int .u64 (n' : Int)] 41)).cell? ⟨w.heap.size, 3, none⟩ = some (.int .u64 (n : Int)) := k0.cell (cell_alloc _ 41 rfl) (fun f => f)
    have zA : (w.alloc (.cells #[.slice ao CL ca, .bool d, .string a, .int .u64 (n : Int)] 41)).heap.size = w.heap.size + 1 := World.size_alloc _ _
    have z1 : ((w.alloc (.cells #[.slice ao CL ca, .bool d, .string a, .int .u64 (n : Int)] 41)).alloc (.cells #[.slice bo CM cb, .bool d', .string a', .int .u64 (n' : Int)] 41)).cell? ⟨w.heap.size + 1, 1, none⟩ = some (.bool d') := by rw [← zA]; exact cell_alloc _ 41 rfl
    have z2 : ((w.alloc (.cells #[.slice ao CL ca, .bool d, .string a, .int .u64 (n : Int)] 41)).alloc (.cells #[.slice bo CM cb, .bool d', .string a', .int .u64 (n' : Int)] 41)).cell? ⟨w.heap.size + 1, 2, none⟩ = some (.string a') := by rw [← zA]; exact cell_alloc _ 41 rfl
    have z3 : ((w.alloc (.cells #[.slice ao CL ca, .bool d, .string a, .int .u64 (n : Int)] 41)).alloc (.cells #[.slice bo CM cb, .bool d', .string a', .int .u64 (n' : Int)] 41)).cell? ⟨w.heap.size + 1, 3, none⟩ = some (.int .u64 (n' : Int)) := by rw [← zA]; exact cell_alloc _ 41 rfl
    replace yq := yq _ kA
    clear k0 zA
    go_enter Tryz.func75, Tryz.ntmps75
    go_wp2_with fail
    generalize ((w.alloc (.cells #[.slice ao CL ca, .bool d, .string a, .int .u64 (n : Int)] 41)).alloc (.cells #[.slice bo CM cb, .bool d', .string a', .int .u64 (n' : Int)] 41)) = W1 at *
    generalize w.heap.size = B at *
    refine yq.mono ?_
    rintro e w1 ⟨rfl, k1⟩
    replace x1 := k1.cell x1 (fun f => f)
    replace x2 := k1.cell x2 (fun f => f)
    replace x3 := k1.cell x3 (fun f => f)
    replace z1 := k1.cell z1 (fun f => f)
    replace z2 := k1.cell z2 (fun f => f)
    replace z3 := k1.cell z3 (fun f => f)
    have K1 := kA.trans k1
    clear yq k1 kA x0
    go_wp2
    go_ret
    exact ⟨rfl, K1⟩
  | true =>
    rw [Bool.true_and]
    rw [hs] at yq
    clear hs
    by_cases hd : d = d'
    · subst hd
      have e0 : (d == d) = true := by simp
      rw [e0, Bool.true_and]
      by_cases h1 : a = a'
      · subst h1
        by_cases h2 : n = n'
        · subst h2
          rw [decide_eq_true ⟨rfl, rfl⟩]
          generalize c.length = CL at *
          generalize c'.length = CM at *
          have kA : Keep0 w ((w.alloc (.cells #[.slice ao CL ca, .bool d, .string a, .int .u64 (n : Int)] 41)).alloc (.cells #[.slice bo CM cb, .bool d, .string a, .int .u64 (n : Int)] 41)) := ((Keep.refl _ w).alloc _).alloc _
          have k0 : Keep0 (w.alloc (.cells #[.slice ao CL ca, .bool d, .string a, .int .u64 (n : Int)] 41)) ((w.alloc (.cells #[.slice ao CL ca, .bool d, .string a, .int .u64 (n : Int)] 41)).alloc (.cells #[.slice bo CM cb, .bool d, .string a, .int .u64 (n : Int)] 41)) := (Keep.refl _ _).alloc _
          have x0 : ((w.alloc (.cells #[.slice ao CL ca, .bool d, .string a, .int .u64 (n : Int)] 41)).alloc (.cells #[.slice bo CM cb, .bool d, .string a, .int .u64 (n : Int)] 41)).cell? ⟨w.heap.size, 0, none⟩ = some (.slice ao CL ca) := k0.cell (cell_alloc _ 41 rfl) (fun f => f)
          have x1 : ((w.alloc (.cells #[.slice ao CL ca, .bool d, .string a, .int .u64 (n : Int)] 41)).alloc (.cells #[.slice bo CM cb, .bool d, .string a, .int .u64 (n : Int)] 41)).cell? ⟨w.heap.size, 1, none⟩ = some (.bool d) := k0.cell (cell_alloc _ 41 rfl) (fun f => f)
          have x2 : ((w.alloc (.cells #[.slice ao CL ca, .bool d, .string a, .int .u64 (n : Int)] 41)).alloc (.cells #[.slice bo CM cb, .bool d, .string a, .int .u64 (n : Int)] 41)).cell? ⟨w.heap.size, 2, none⟩ = some (.string a) := k0.cell (cell_alloc _ 41 rfl) (fun f => f)
          have x3 : ((w.alloc (.cells #[.slice ao CL ca, .bool d, .string a, .int .u64 (n : Int)] 41)).alloc (.cells #[.slice bo CM cb, .bool d, .string a, .int .u64 (n : Int)] 41)).cell? ⟨w.heap.size, 3, none⟩ = some (.int .u64 (n : Int)) := k0.cell (cell_alloc _ 41 rfl) (fun f => f)
          have zA : (w.alloc (.cells #[.slice ao CL ca, .bool d, .string a, .int .u64 (n : Int)] 41)).heap.size = w.heap.size + 1 := World.size_alloc _ _
          have z1 : ((w.alloc (.cells #[.slice ao CL ca, .bool d, .string a, .int .u64 (n : Int)] 41)).alloc (.cells #[.slice bo CM cb, .bool d, .string a, .int .u64 (n : Int)] 41)).cell? ⟨w.heap.size + 1, 1, none⟩ = some (.bool d) := by rw [← zA]; exact cell_alloc _ 41 rfl
          have z2 : ((w.alloc (.cells #[.slice ao CL ca, .bool d, .string a, .int .u64 (n : Int)] 41)).alloc (.cells #[.slice bo CM cb, .bool d, .string a, .int .u64 (n : Int)] 41)).cell? ⟨w.heap.size + 1, 2, none⟩ = some (.string a) := by rw [← zA]; exact cell_alloc _ 41 rfl
          have z3 : ((w.alloc (.cells #[.slice ao CL ca, .bool d, .string a, .int .u64 (n : Int)] 41)).alloc (.cells #[.slice bo CM cb, .bool d, .string a, .int .u64 (n : Int)] 41)).cell? ⟨w.heap.size + 1, 3, none⟩ = some (.int .u64 (n : Int)) := by rw [← zA]; exact cell_alloc _ 41 rfl
          replace yq := yq _ kA
          clear k0 zA
          go_enter Tryz.func75, Tryz.ntmps75
          go_wp2_with fail
          generalize ((w.alloc (.cells #[.slice ao CL ca, .bool d, .string a, .int .u64 (n : Int)] 41)).alloc (.cells #[.slice bo CM cb, .bool d, .string a, .int .u64 (n : Int)] 41)) = W1 at *
          generalize w.heap.size = B at *
          refine yq.mono ?_
          rintro e w1 ⟨rfl, k1⟩
          replace x1 := k1.cell x1 (fun f => f)
          replace x2 := k1.cell x2 (fun f => f)
          replace x3 := k1.cell x3 (fun f => f)
          replace z1 := k1.cell z1 (fun f => f)
          replace z2 := k1.cell z2 (fun f => f)
          replace z3 := k1.cell z3 (fun f => f)
          have K1 := kA.trans k1
          clear yq k1 kA x0
          go_wp2
          go_ret
          exact ⟨rfl, K1⟩
        · rw [decide_eq_false (fun e => h2 e.2)]
          have j2 : ((n : Int) == (n' : Int)) = false := beq_eq_false_iff_ne.2 (by omega)
          have j3 : ¬ (n : Int) = (n' : Int) := by omega
          clear h2
          generalize c.length = CL at *
          generalize c'.length = CM at *
          have kA : Keep0 w ((w.alloc (.cells #[.slice ao CL ca, .bool d, .string a, .int .u64 (n : Int)] 41)).alloc (.cells #[.slice bo CM cb, .bool d, .string a, .int .u64 (n' : Int)] 41)) := ((Keep.refl _ w).alloc _).alloc _
          have k0 : Keep0 (w.alloc (.cells #[.slice ao CL ca, .bool d, .string a, .int .u64 (n : Int)] 41)) ((w.alloc (.cells #[.slice ao CL ca, .bool d, .string a, .int .u64 (n : Int)] 41)).alloc (.cells #[.slice bo CM cb, .bool d, .string a, .int .u64 (n' : Int)] 41)) := (Keep.refl _ _).alloc _
          have x0 : ((w.alloc (.cells #[.slice ao CL ca, .bool d, .string a, .int .u64 (n : Int)] 41)).alloc (.cells #[.slice bo CM cb, .bool d, .string a, .int .u64 (n' : Int)] 41)).cell? ⟨w.heap.size, 0, none⟩ = some (.slice ao CL ca) := k0.cell (cell_alloc _ 41 rfl) (fun f => f)
          have x1 : ((w.alloc (.cells #[.slice ao CL ca, .bool d, .string a, .int .u64 (n : Int)] 41)).alloc (.cells #[.slice bo CM cb, .bool d, .string a, .int .u64 (n' : Int)] 41)).cell? ⟨w.heap.size, 1, none⟩ = some (.bool d) := k0.cell (cell_alloc _ 41 rfl) (fun f => f)
          have x2 : ((w.alloc (.cells #[.slice ao CL ca, .bool d, .string a, .int .u64 (n : Int)] 41)).alloc (.cells #[.slice bo CM cb, .bool d, .string a, .int .u64 (n' : Int)] 41)).cell? ⟨w.heap.size, 2, none⟩ = some (.string a) := k0.cell (cell_alloc _ 41 rfl) (fun f => f)
          have x3 : ((w.alloc (.cells #[.slice ao CL ca, .bool d, .string a, .int .u64 (n : Int)] 41)).alloc (.cells #[.slice bo CM cb, .bool d, .string a, .int .u64 (n' : Int)] 41)).cell? ⟨w.heap.size, 3, none⟩ = some (.int .u64 (n : Int)) := k0.cell (cell_alloc _ 41 rfl) (fun f => f)
          have zA : (w.alloc (.cells #[.slice ao CL ca, .bool d, .string a, .int .u64 (n : Int)] 41)).heap.size = w.heap.size + 1 := World.size_alloc _ _
          have z1 : ((w.alloc (.cells #[.slice ao CL ca, .bool d, .string a, .int .u64 (n : Int)] 41)).alloc (.cells #[.slice bo CM cb, .bool d, .string a, .int .u64 (n' : Int)] 41)).cell? ⟨w.heap.size + 1, 1, none⟩ = some (.bool d) := by rw [← zA]; exact cell_alloc _ 41 rfl
          have z2 : ((w.alloc (.cells #[.slice ao CL ca, .bool d, .string a, .int .u64 (n : Int)] 41)).alloc (.cells #[.slice bo CM cb, .bool d, .string a, .int .u64 (n' : Int)] 41)).cell? ⟨w.heap.size + 1, 2, none⟩ = some (.string a) := by rw [← zA]; exact cell_alloc _ 41 rfl
          have z3 : ((w.alloc (.cells #[.slice ao CL ca, .bool d, .string a, .int .u64 (n : Int)] 41)).alloc (.cells #[.slice bo CM cb, .bool d, .string a, .int .u64 (n' : Int)] 41)).cell? ⟨w.heap.size + 1, 3, none⟩ = some (.int .u64 (n' : Int)) := by rw [← zA]; exact cell_alloc _ 41 rfl
          replace yq := yq _ kA
          clear k0 zA
          go_enter Tryz.func75, Tryz.ntmps75
          go_wp2_with fail
          generalize ((w.alloc (.cells #[.slice ao CL ca, .bool d, .string a, .int .u64 (n : Int)] 41)).alloc (.cells #[.slice bo CM cb, .bool d, .string a, .int .u64 (n' : Int)] 41)) = W1 at *
          generalize w.heap.size = B at *
          refine yq.mono ?_
          rintro e w1 ⟨rfl, k1⟩
          replace x1 := k1.cell x1 (fun f => f)
          replace x2 := k1.cell x2 (fun f => f)
          replace x3 := k1.cell x3 (fun f => f)
          replace z1 := k1.cell z1 (fun f => f)
          replace z2 := k1.cell z2 (fun f => f)
          replace z3 := k1.cell z3 (fun f => f)
          have K1 := kA.trans k1
          clear yq k1 kA x0
          go_wp2
          go_ret
          exact ⟨rfl, K1⟩
      · rw [decide_eq_false (fun e => h1 e.1)]
        obtain ⟨e2, e3, e4⟩ := txt_ne h1
        clear h1
        generalize c.length = CL at *
        generalize c'.length = CM at *
        have kA : Keep0 w ((w.alloc (.cells #[.slice ao CL ca, .bool d, .string a, .int .u64 (n : Int)] 41)).alloc (.cells #[.slice bo CM cb, .bool d, .string a', .int .u64 (n' : Int)] 41)) := ((Keep.refl _ w).alloc _).alloc _
        have k0 : Keep0 (w.alloc (.cells #[.slice ao CL ca, .bool d, .string a, .int .u64 (n : Int)] 41)) ((w.alloc (.cells #[.slice ao CL ca, .bool d, .string a, .int .u64 (n : Int)] 41)).alloc (.cells #[.slice bo CM cb, .bool d, .string a', .int .u64 (n' : Int)] 41)) := (Keep.refl _ _).alloc _
        have x0 : ((w.alloc (.cells #[.slice ao CL ca, .bool d, .string a, .int .u64 (n : Int)] 41)).alloc (.cells #[.slice bo CM cb, .bool d, .string a', .int .u64 (n' : Int)] 41)).cell? ⟨w.heap.size, 0, none⟩ = some (.slice ao CL ca) := k0.cell (cell_alloc _ 41 rfl) (fun f => f)
        have x1 : ((w.alloc (.cells #[.slice ao CL ca, .bool d, .string a, .int .u64 (n : Int)] 41)).alloc (.cells #[.slice bo CM cb, .bool d, .string a', .int .u64 (n' : Int)] 41)).cell? ⟨w.heap.size, 1, none⟩ = some (.bool d) := k0.cell (cell_alloc _ 41 rfl) (fun f => f)
        have x2 : ((w.alloc (.cells #[.slice ao CL ca, .bool d, .string a, .int .u64 (n : Int)] 41)).alloc (.cells #[.slice bo CM cb, .bool d, .string a', .int .u64 (n' : Int)] 41)).cell? ⟨w.heap.size, 2, none⟩ = some (.string a) := k0.cell (cell_alloc _ 41 rfl) (fun f => f)
        have x3 : ((w.alloc (.cells #[.slice ao CL ca, .bool d, .string a, .int .u64 (n : Int)] 41)).alloc (.cells #[.slice bo CM cb, .bool d, .string a', .int .u64 (n' : Int)] 41)).cell? ⟨w.heap.size, 3, none⟩ = some (.int .u64 (n : Int)) := k0.cell (cell_alloc _ 41 rfl) (fun f => f)
        have zA : (w.alloc (.cells #[.slice ao CL ca, .bool d, .string a, .int .u64 (n : Int)] 41)).heap.size = w.heap.size + 1 := World.size_alloc _ _
        have z1 : ((w.alloc (.cells #[.slice ao CL ca, .bool d, .string a, .int .u64 (n : Int)] 41)).alloc (.cells #[.slice bo CM cb, .bool d, .string a', .int .u64 (n' : Int)] 41)).cell? ⟨w.heap.size + 1, 1, none⟩ = some (.bool d) := by rw [← zA]; exact cell_alloc _ 41 rfl
        have z2 : ((w.alloc (.cells #[.slice ao CL ca, .bool d, .string a, .int .u64 (n : Int)] 41)).alloc (.cells #[.slice bo CM cb, .bool d, .string a', .int .u64 (n' : Int)] 41)).cell? ⟨w.heap.size + 1, 2, none⟩ = some (.string a') := by rw [← zA]; exact cell_alloc _ 41 rfl
        have z3 : ((w.alloc (.cells #[.slice ao CL ca, .bool d, .string a, .int .u64 (n : Int)] 41)).alloc (.cells #[.slice bo CM cb, .bool d, .string a', .int .u64 (n' : Int)] 41)).cell? ⟨w.heap.size + 1, 3, none⟩ = some (.int .u64 (n' : Int)) := by rw [← zA]; exact cell_alloc _ 41 rfl
        replace yq := yq _ kA
        clear k0 zA
        go_enter Tryz.func75, Tryz.ntmps75
        go_wp2_with fail
        generalize ((w.alloc (.cells #[.slice ao CL ca, .bool d, .string a, .int .u64 (n : Int)] 41)).alloc (.cells #[.slice bo CM cb, .bool d, .string a', .int .u64 (n' : Int)] 41)) = W1 at *
        generalize w.heap.size = B at *
        refine yq.mono ?_
        rintro e w1 ⟨rfl, k1⟩
        replace x1 := k1.cell x1 (fun f => f)
        replace x2 := k1.cell x2 (fun f => f)
        replace x3 := k1.cell x3 (fun f => f)
        replace z1 := k1.cell z1 (fun f => f)
        replace z2 := k1.cell z2 (fun f => f)
        replace z3 := k1.cell z3 (fun f => f)
        have K1 := kA.trans k1
        clear yq k1 kA x0
        go_wp2
        go_ret
        exact ⟨rfl, K1⟩
    · have e0 : (d == d') = false := beq_eq_false_iff_ne.2 hd
      rw [e0, Bool.false_and]
      generalize c.length = CL at *
      generalize c'.length = CM at *
      have kA : Keep0 w ((w.alloc (.cells #[.slice ao CL ca, .bool d, .string a, .int .u64 (n : Int)] 41)).alloc (.cells #[.slice bo CM cb, .bool d', .string a', .int .u64 (n' : Int)] 41)) := ((Keep.refl _ w).alloc _).alloc _
      have k0 : Keep0 (w.alloc (.cells #[.slice ao CL ca, .bool d, .string a, .int .u64 (n : Int)] 41)) ((w.alloc (.cells #[.slice ao CL ca, .bool d, .string a, .int .u64 (n : Int)] 41)).alloc (.cells #[.slice bo CM cb, .bool d', .string a', .int .u64 (n' : Int)] 41)) := (Keep.refl _ _).alloc _
      have x0 : ((w.alloc (.cells #[.slice ao CL ca, .bool d, .string a, .int .u64 (n : Int)] 41)).alloc (.cells #[.slice bo CM cb, .bool d', .string a', .int .u64 (n' : Int)] 41)).cell? ⟨w.heap.size, 0, none⟩ = some (.slice ao CL ca) := k0.cell (cell_alloc _ 41 rfl) (fun f => f)
      have x1 : ((w.alloc (.cells #[.slice ao CL ca, .bool d, .string a, .int .u64 (n : Int)] 41)).alloc (.cells #[.slice bo CM cb, .bool d', .string a', .int .u64 (n' : Int)] 41)).cell? ⟨w.heap.size, 1, none⟩ = some (.bool d) := k0.cell (cell_alloc _ 41 rfl) (fun f => f)
      have x2 : ((w.alloc (.cells #[.slice ao CL ca, .bool d, .string a, .int .u64 (n : Int)] 41)).alloc (.cells #[.slice bo CM cb, .bool d', .string a', .int .u64 (n' : Int)] 41)).cell? ⟨w.heap.size, 2, none⟩ = some (.string a) := k0.cell (cell_alloc _ 41 rfl) (fun f => f)
      have x3 : ((w.alloc (.cells #[.slice ao CL ca, .bool d, .string a, .int .u64 (n : Int)] 41)).alloc (.cells #[.slice bo CM cb, .bool d', .string a', .int .u64 (n' : Int)] 41)).cell? ⟨w.heap.size, 3, none⟩ = some (.int .u64 (n : Int)) := k0.cell (cell_alloc _ 41 rfl) (fun f => f)
      have zA : (w.alloc (.cells #[.slice ao CL ca, .bool d, .string a, .int .u64 (n : Int)] 41)).heap.size = w.heap.size + 1 := World.size_alloc _ _
      have z1 : ((w.alloc (.cells #[.slice ao CL ca, .bool d, .string a, .int .u64 (n : Int)] 41)).alloc (.cells #[.slice bo CM cb, .bool d', .string a', .int .u64 (n' : Int)] 41)).cell? ⟨w.heap.size + 1, 1, none⟩ = some (.bool d') := by rw [← zA]; exact cell_alloc _ 41 rfl
      have z2 : ((w.alloc (.cells #[.slice ao CL ca, .bool d, .string a, .int .u64 (n : Int)] 41)).alloc (.cells #[.slice bo CM cb, .bool d', .string a', .int .u64 (n' : Int)] 41)).cell? ⟨w.heap.size + 1, 2, none⟩ = some (.string a') := by rw [← zA]; exact cell_alloc _ 41 rfl
      have z3 : ((w.alloc (.cells #[.slice ao CL ca, .bool d, .string a, .int .u64 (n : Int)] 41)).alloc (.cells #[.slice bo CM cb, .bool d', .string a', .int .u64 (n' : Int)] 41)).cell? ⟨w.heap.size + 1, 3, none⟩ = some (.int .u64 (n' : Int)) := by rw [← zA]; exact cell_alloc _ 41 rfl
      replace yq := yq _ kA
      clear k0 zA
      go_enter Tryz.func75, Tryz.ntmps75
      go_wp2_with fail
      generalize ((w.alloc (.cells #[.slice ao CL ca, .bool d, .string a, .int .u64 (n : Int)] 41)).alloc (.cells #[.slice bo CM cb, .bool d', .string a', .int .u64 (n' : Int)] 41)) = W1 at *
      generalize w.heap.size = B at *
      refine yq.mono ?_
      rintro e w1 ⟨rfl, k1⟩
      replace x1 := k1.cell x1 (fun f => f)
      replace x2 := k1.cell x2 (fun f => f)
      replace x3 := k1.cell x3 (fun f => f)
      replace z1 := k1.cell z1 (fun f => f)
      replace z2 := k1.cell z2 (fun f => f)
      replace z3 := k1.cell z3 (fun f => f)
      have K1 := kA.trans k1
      clear yq k1 kA x0
      go_wp2
      go_ret
      exact ⟨rfl, K1⟩
theorem same12 (w : World) (ao bo : Option Addr) (ca cb : Nat) (a b : Ck) (oa : Ok12 a) (ob : Ok12 b) (ha : EnsAt w ao a.c) (hb : EnsAt w bo b.c) :
    Calls Tryz.prog 75 #[.agg #[.slice ao a.c.length ca, .bool a.d, .string a.x.a, .int .u64 (a.x.n : Int)], .agg #[.slice bo b.c.length cb, .bool b.d, .string b.x.a, .int .u64 (b.x.n : Int)]] w fun e w' => e = .returned (.bool (kSame a b)) ∧ Keep0 w w' :=
  same12_any w ao bo ca cb a.c b.c a.d b.d a.x.a b.x.a a.x.n b.x.n oa.ok10 ob.ok10 ha hb
end Go.Proofs.YteonkfedgopdiaaGreat
