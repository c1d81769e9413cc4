/-
  Contracts of package dotted's Knows, Covers and Same, each proved over this seat's translation.
  Conditions: at most 10,000 entries a vector; each actor takes at most the greatest length that a text may have.
-/
import Derived.Test.YtkbihpdfafapeaaDtB
namespace Go.Proofs.Ytkbihpdfafapeaa
open Go.RowKit

theorem kRights_one (k : Ck) : kRights [k] = (kCheck k == 0) := by
  show ((kCheck k == 0) && true) = _
  rw [Bool.and_true]
theorem kRights_two (a b : Ck) : kRights [a, b] = kRight a b := by
  show ((kCheck a == 0) && ((kCheck b == 0) && true)) = _
  rw [Bool.and_true]
  rfl
theorem clks_two {w : World} {ao bo : Option Addr} {ca cb : Nat} {a b : Ck} (t : TypeId) (ha : EnsAt w ao a.c) (hb : EnsAt w bo b.c) :
    ClksAt (w.alloc (.cells #[.slice ao a.c.length ca, .bool a.d, .string a.x.a, .int .u64 (a.x.n : Int), .slice bo b.c.length cb, .bool b.d, .string b.x.a, .int .u64 (b.x.n : Int)] t)) (some ⟨w.heap.size, 0, none⟩) [a, b] := by
  have K : Keep0 w (w.alloc (.cells #[.slice ao a.c.length ca, .bool a.d, .string a.x.a, .int .u64 (a.x.n : Int), .slice bo b.c.length cb, .bool b.d, .string b.x.a, .int .u64 (b.x.n : Int)] t)) := (Keep.refl _ w).alloc _
  intro i hi
  have hi2 : i < 2 := by simpa using hi
  have h01 : i = 0 ∨ i = 1 := by omega
  rcases h01 with rfl | rfl
  · exact ⟨w.heap.size, 0, ao, ca, rfl, ⟨cell_alloc w t rfl, cell_alloc w t rfl, cell_alloc w t rfl, cell_alloc w t rfl⟩, ha.keep0 K⟩
  · exact ⟨w.heap.size, 0, bo, cb, rfl, ⟨cell_alloc w t rfl, cell_alloc w t rfl, cell_alloc w t rfl, cell_alloc w t rfl⟩, hb.keep0 K⟩
theorem ok_one12 {k : Ck} (h : Ok12 k) : ∀ y ∈ [k], Ok12 y := by
  intro y hy
  rw [List.mem_singleton.1 hy]
  exact h
theorem ok_two12 {a b : Ck} (ha : Ok12 a) (hb : Ok12 b) : ∀ y ∈ [a, b], Ok12 y := by
  intro y hy
  simp at hy
  rcases hy with rfl | rfl <;> assumption

/-! ### Knows -/
set_option maxRecDepth 100000 in
set_option maxHeartbeats 4000000 in
theorem knows12 (w : World) (ao : Option Addr) (cap : Nat) (k : Ck) (ok : Ok12 k) (hc : EnsAt w ao k.c) (s : ByteArray) (n : Nat) :
    Calls Try.prog 14 #[.agg #[.slice ao k.c.length cap, .bool k.d, .string k.x.a, .int .u64 (k.x.n : Int)], .string s, .int .u64 (n : Int)] w fun e w' => e = .returned (.bool ((kCheck k == 0) && kKnows k s n)) ∧ Keep0 w w' := by
  have kA : Keep0 w (w.alloc (.cells #[.slice ao k.c.length cap, .bool k.d, .string k.x.a, .int .u64 (k.x.n : Int)] 27)) := (Keep.refl _ w).alloc _
  have kB : Keep0 (w.alloc (.cells #[.slice ao k.c.length cap, .bool k.d, .string k.x.a, .int .u64 (k.x.n : Int)] 27)) ((w.alloc (.cells #[.slice ao k.c.length cap, .bool k.d, .string k.x.a, .int .u64 (k.x.n : Int)] 27)).alloc (.cells #[.slice ao k.c.length cap, .bool k.d, .string k.x.a, .int .u64 (k.x.n : Int)] 27)) := (Keep.refl _ _).alloc _
  have zA : (w.alloc (.cells #[.slice ao k.c.length cap, .bool k.d, .string k.x.a, .int .u64 (k.x.n : Int)] 27)).heap.size = w.heap.size + 1 := World.size_alloc _ _
  obtain ⟨x0, x1, x2, x3⟩ := (clk_new w 27 k ao cap).keep0 kB
  have hL := clks_one (k := k) (cap := cap) 27 (hc.keep0 kA)
  rw [zA] at hL
  have yr := right12 _ _ 1 [k] (by show 1 ≤ 10000; omega) (ok_one12 ok) hL
  have e1 : ([k] : List Ck).length = 1 := rfl
  rw [kRights_one, e1] at yr
  have yk := fun W (K : Keep0 w W) => know12_any W ao cap k.c k.d k.x.a k.x.n ok.ok10 (hc.keep0 K) s n
  have K2 := kA.trans kB
  clear e1 hL zA kA kB hc ok
  cases hR : kCheck k == 0 with
  | false =>
    rw [hR] at yr
    rw [Bool.false_and]
    clear hR yk
    go_enter Try.func14, Try.ntmps14
    go_wp2_with fail
    generalize ((w.alloc (.cells #[.slice ao k.c.length cap, .bool k.d, .string k.x.a, .int .u64 (k.x.n : Int)] 27)).alloc (.cells #[.slice ao k.c.length cap, .bool k.d, .string k.x.a, .int .u64 (k.x.n : Int)] 27)) = W0 at *
    generalize w.heap.size = B at *
    refine yr.mono ?_
    rintro e w1 ⟨rfl, k1⟩
    have K3 := K2.trans k1
    clear yr k1 K2 x0 x1 x2 x3
    go_wp2
    go_ret
    exact ⟨rfl, K3⟩
  | true =>
    rw [hR] at yr
    rw [Bool.true_and]
    have yk : ∀ W (K : Keep0 w W), Calls Try.prog 32 #[.agg #[.slice ao k.c.length cap, .bool k.d, .string k.x.a, .int .u64 (k.x.n : Int)], .agg #[.string s, .int .u64 (n : Int)]] W fun e w' => e = .returned (.bool (kKnows k s n)) ∧ Keep0 W w' := yk
    clear hR
    generalize kKnows k s n = q at *
    go_enter Try.func14, Try.ntmps14
    go_wp2_with fail
    generalize ((w.alloc (.cells #[.slice ao k.c.length cap, .bool k.d, .string k.x.a, .int .u64 (k.x.n : Int)] 27)).alloc (.cells #[.slice ao k.c.length cap, .bool k.d, .string k.x.a, .int .u64 (k.x.n : Int)] 27)) = W0 at *
    generalize w.heap.size = B at *
    refine yr.mono ?_
    rintro e w1 ⟨rfl, k1⟩
    have K3 := K2.trans k1
    have y0 := k1.cell x0 (fun f => f)
    have y1 := k1.cell x1 (fun f => f)
    have y2 := k1.cell x2 (fun f => f)
    have y3 := k1.cell x3 (fun f => f)
    have yk := yk w1 K3
    clear yr k1 K2 x0 x1 x2 x3
    go_wp2_with fail
    refine yk.mono ?_
    rintro e w2 ⟨rfl, k2⟩
    have K4 := K3.trans k2
    clear yk k2 K3 y0 y1 y2 y3
    go_wp2
    go_ret
    exact ⟨rfl, K4⟩

/-! ### Covers -/
set_option maxRecDepth 100000 in
set_option maxHeartbeats 4000000 in
theorem covers12 (w : World) (ao bo : Option Addr) (ca cb : Nat) (a b : Ck) (oa : Ok12 a) (ob : Ok12 b) (ha : EnsAt w ao a.c) (hb : EnsAt w bo b.c) :
    Calls Try.prog 16 #[.agg #[.slice ao a.c.length ca, .bool a.d, .string a.x.a, .int .u64 (a.x.n : Int)], .agg #[.slice bo b.c.length cb, .bool b.d, .string b.x.a, .int .u64 (b.x.n : Int)]] w fun e w' => e = .returned (.bool (kRight a b && kCovers a b)) ∧ Keep0 w w' := by
  have kA : Keep0 w (w.alloc (.cells #[.slice ao a.c.length ca, .bool a.d, .string a.x.a, .int .u64 (a.x.n : Int)] 27)) := (Keep.refl _ w).alloc _
  have kB : Keep0 (w.alloc (.cells #[.slice ao a.c.length ca, .bool a.d, .string a.x.a, .int .u64 (a.x.n : Int)] 27)) ((w.alloc (.cells #[.slice ao a.c.length ca, .bool a.d, .string a.x.a, .int .u64 (a.x.n : Int)] 27)).alloc (.cells #[.slice bo b.c.length cb, .bool b.d, .string b.x.a, .int .u64 (b.x.n : Int)] 27)) := (Keep.refl _ _).alloc _
  have kC : Keep0 ((w.alloc (.cells #[.slice ao a.c.length ca, .bool a.d, .string a.x.a, .int .u64 (a.x.n : Int)] 27)).alloc (.cells #[.slice bo b.c.length cb, .bool b.d, .string b.x.a, .int .u64 (b.x.n : Int)] 27)) (((w.alloc (.cells #[.slice ao a.c.length ca, .bool a.d, .string a.x.a, .int .u64 (a.x.n : Int)] 27)).alloc (.cells #[.slice bo b.c.length cb, .bool b.d, .string b.x.a, .int .u64 (b.x.n : Int)] 27)).alloc (.cells #[.slice ao a.c.length ca, .bool a.d, .string a.x.a, .int .u64 (a.x.n : Int), .slice bo b.c.length cb, .bool b.d, .string b.x.a, .int .u64 (b.x.n : Int)] 27)) := (Keep.refl _ _).alloc _
  have zA : (w.alloc (.cells #[.slice ao a.c.length ca, .bool a.d, .string a.x.a, .int .u64 (a.x.n : Int)] 27)).heap.size = w.heap.size + 1 := World.size_alloc _ _
  have zB : ((w.alloc (.cells #[.slice ao a.c.length ca, .bool a.d, .string a.x.a, .int .u64 (a.x.n : Int)] 27)).alloc (.cells #[.slice bo b.c.length cb, .bool b.d, .string b.x.a, .int .u64 (b.x.n : Int)] 27)).heap.size = w.heap.size + 1 + 1 := by rw [World.size_alloc, zA]
  obtain ⟨x0, x1, x2, x3⟩ := (clk_new w 27 a ao ca).keep0 (kB.trans kC)
  have hZ := (clk_new (w.alloc (.cells #[.slice ao a.c.length ca, .bool a.d, .string a.x.a, .int .u64 (a.x.n : Int)] 27)) 27 b bo cb).keep0 kC
  rw [zA] at hZ
  obtain ⟨z0, z1, z2, z3⟩ := hZ
  have hL := clks_two (a := a) (b := b) (ca := ca) (cb := cb) 27 (ha.keep0 (kA.trans kB)) (hb.keep0 (kA.trans kB))
  rw [zB] at hL
  have yr := right12 _ _ 2 [a, b] (by show 2 ≤ 10000; omega) (ok_two12 oa ob) hL
  have e1 : ([a, b] : List Ck).length = 2 := rfl
  rw [kRights_two, e1] at yr
  have yk := fun W (K : Keep0 w W) => cover12_any W ao bo ca cb a.c b.c a.d b.d a.x.a b.x.a a.x.n b.x.n oa.ok10 ob.ok10 oa.fit.num (ha.keep0 K) (hb.keep0 K)
  have K2 := (kA.trans kB).trans kC
  clear e1 hL zA zB kA kB kC ha hb oa ob
  cases hR : kRight a b with
  | false =>
    rw [hR] at yr
    rw [Bool.false_and]
    clear hR yk
    go_enter Try.func16, Try.ntmps16
    go_wp2_with fail
    generalize (((w.alloc (.cells #[.slice ao a.c.length ca, .bool a.d, .string a.x.a, .int .u64 (a.x.n : Int)] 27)).alloc (.cells #[.slice bo b.c.length cb, .bool b.d, .string b.x.a, .int .u64 (b.x.n : Int)] 27)).alloc (.cells #[.slice ao a.c.length ca, .bool a.d, .string a.x.a, .int .u64 (a.x.n : Int), .slice bo b.c.length cb, .bool b.d, .string b.x.a, .int .u64 (b.x.n : Int)] 27)) = W0 at *
    generalize w.heap.size = B at *
    refine yr.mono ?_
    rintro e w1 ⟨rfl, k1⟩
    have K3 := K2.trans k1
    clear yr k1 K2 x0 x1 x2 x3 z0 z1 z2 z3
    go_wp2
    go_ret
    exact ⟨rfl, K3⟩
  | true =>
    rw [hR] at yr
    rw [Bool.true_and]
    have yk : ∀ W (K : Keep0 w W), Calls Try.prog 33 #[.agg #[.slice ao a.c.length ca, .bool a.d, .string a.x.a, .int .u64 (a.x.n : Int)], .agg #[.slice bo b.c.length cb, .bool b.d, .string b.x.a, .int .u64 (b.x.n : Int)]] W fun e w' => e = .returned (.bool (kCovers a b)) ∧ Keep0 W w' := yk
    clear hR
    generalize kCovers a b = q at *
    go_enter Try.func16, Try.ntmps16
    go_wp2_with fail
    generalize (((w.alloc (.cells #[.slice ao a.c.length ca, .bool a.d, .string a.x.a, .int .u64 (a.x.n : Int)] 27)).alloc (.cells #[.slice bo b.c.length cb, .bool b.d, .string b.x.a, .int .u64 (b.x.n : Int)] 27)).alloc (.cells #[.slice ao a.c.length ca, .bool a.d, .string a.x.a, .int .u64 (a.x.n : Int), .slice bo b.c.length cb, .bool b.d, .string b.x.a, .int .u64 (b.x.n : Int)] 27)) = W0 at *
    generalize w.heap.size = B at *
    refine yr.mono ?_
    rintro e w1 ⟨rfl, k1⟩
    have K3 := K2.trans k1
    replace x0 := k1.cell x0 (fun f => f)
    replace x1 := k1.cell x1 (fun f => f)
    replace x2 := k1.cell x2 (fun f => f)
    replace x3 := k1.cell x3 (fun f => f)
    replace z0 := k1.cell z0 (fun f => f)
    replace z1 := k1.cell z1 (fun f => f)
    replace z2 := k1.cell z2 (fun f => f)
    replace z3 := k1.cell z3 (fun f => f)
    have yk := yk w1 K3
    clear yr k1 K2
    go_wp2_with fail
    refine yk.mono ?_
    rintro e w2 ⟨rfl, k2⟩
    have K4 := K3.trans k2
    clear yk k2 K3 x0 x1 x2 x3 z0 z1 z2 z3
    go_wp2
    go_ret
    exact ⟨rfl, K4⟩

/-! ### Same -/
set_option maxRecDepth 100000 in
set_option maxHeartbeats 4000000 in
theorem same12_any (w : World) (ao bo : Option Addr) (ca cb : Nat) (c c' : List En) (d d' : Bool) (a a' : ByteArray) (n n' : Nat) (hv : Ok10 c) (hv' : Ok10 c') (hc : EnsAt w ao c) (hc' : EnsAt w bo c') :
    Calls Try.prog 12 #[.agg #[.slice ao c.length ca, .bool d, .string a, .int .u64 (n : Int)], .agg #[.slice bo c'.length cb, .bool d', .string a', .int .u64 (n' : Int)]] w fun e w' => e = .returned (.bool (kSame ⟨c, d, ⟨a, n⟩⟩ ⟨c', d', ⟨a', n'⟩⟩)) ∧ Keep0 w w' := by
  have hk : kSame ⟨c, d, ⟨a, n⟩⟩ ⟨c', d', ⟨a', n'⟩⟩ = (vSame c c' && ((d == d') && decide (a = a' ∧ n = n'))) := rfl
  rw [hk]
  have yq := fun W (K : Keep0 w W) => same10 W ao bo ca cb c c' hv hv' (hc.keep0 K) (hc'.keep0 K)
  clear hk hc hc' hv hv'
  cases hs : vSame c c' with
  | false =>
    rw [Bool.false_and]
    rw [hs] at yq
    clear hs
    generalize c.length = CL at *
    generalize c'.length = CM at *
    have kA : Keep0 w ((w.alloc (.cells #[.slice ao CL ca, .bool d, .string a, .int .u64 (n : Int)] 27)).alloc (.cells #[.slice bo CM cb, .bool d', .string a', .int .u64 (n' : Int)] 27)) := ((Keep.refl _ w).alloc _).alloc _
    have k0 : Keep0 (w.alloc (.cells #[.slice ao CL ca, .bool d, .string a, .int .u64 (n : Int)] 27)) ((w.alloc (.cells #[.slice ao CL ca, .bool d, .string a, .int .u64 (n : Int)] 27)).alloc (.cells #[.slice bo CM cb, .bool d', .string a', .int .u64 (n' : Int)] 27)) := (Keep.refl _ _).alloc _
    have x0 : ((w.alloc (.cells #[.slice ao CL ca, .bool d, .string a, .int .u64 (n : Int)] 27)).alloc (.cells #[.slice bo CM cb, .bool d', .string a', .int .u64 (n' : Int)] 27)).cell? ⟨w.heap.size, 0, none⟩ = some (.slice ao CL ca) := k0.cell (cell_alloc _ 27 rfl) (fun f => f)
    have x1 : ((w.alloc (.cells #[.slice ao CL ca, .bool d, .string a, .int .u64 (n : Int)] 27)).alloc (.cells #[.slice bo CM cb, .bool d', .string a', .int .u64 (n' : Int)] 27)).cell? ⟨w.heap.size, 1, none⟩ = some (.bool d) := k0.cell (cell_alloc _ 27 rfl) (fun f => f)
    have x2 : ((w.alloc (.cells #[.slice ao CL ca, .bool d, .string a, .int .u64 (n : Int)] 27)).alloc (.cells #[.slice bo CM cb, .bool d', .string a', .int .u64 (n' : Int)] 27)).cell? ⟨w.heap.size, 2, none⟩ = some (.string a) := k0.cell (cell_alloc _ 27 rfl) (fun f => f)
    have x3 : ((w.alloc (.cells #[.slice ao CL ca, .bool d, .string a, .int .u64 (n : Int)] 27)).alloc (.cells #[.slice bo CM cb, .bool d', .string a', .int .u64 (n' : Int)] 27)).cell? ⟨w.heap.size, 3, none⟩ = some (.int .u64 (n : Int)) := k0.cell (cell_alloc _ 27 rfl) (fun f => f)
    have zA : (w.alloc (.cells #[.slice ao CL ca, .bool d, .string a, .int .u64 (n : Int)] 27)).heap.size = w.heap.size + 1 := World.size_alloc _ _
    have z1 : ((w.alloc (.cells #[.slice ao CL ca, .bool d, .string a, .int .u64 (n : Int)] 27)).alloc (.cells #[.slice bo CM cb, .bool d', .string a', .int .u64 (n' : Int)] 27)).cell? ⟨w.heap.size + 1, 1, none⟩ = some (.bool d') := by rw [← zA]; exact cell_alloc _ 27 rfl
    have z2 : ((w.alloc (.cells #[.slice ao CL ca, .bool d, .string a, .int .u64 (n : Int)] 27)).alloc (.cells #[.slice bo CM cb, .bool d', .string a', .int .u64 (n' : Int)] 27)).cell? ⟨w.heap.size + 1, 2, none⟩ = some (.string a') := by rw [← zA]; exact cell_alloc _ 27 rfl
    have z3 : ((w.alloc (.cells #[.slice ao CL ca, .bool d, .string a, .int .u64 (n : Int)] 27)).alloc (.cells #[.slice bo CM cb, .bool d', .string a', .int .u64 (n' : Int)] 27)).cell? ⟨w.heap.size + 1, 3, none⟩ = some (.int .u64 (n' : Int)) := by rw [← zA]; exact cell_alloc _ 27 rfl
    replace yq := yq _ kA
    clear k0 zA
    go_enter Try.func12, Try.ntmps12
    go_wp2_with fail
    generalize ((w.alloc (.cells #[.slice ao CL ca, .bool d, .string a, .int .u64 (n : Int)] 27)).alloc (.cells #[.slice bo CM cb, .bool d', .string a', .int .u64 (n' : Int)] 27)) = W1 at *
    generalize w.heap.size = B at *
    refine yq.mono ?_
    rintro e w1 ⟨rfl, k1⟩
    replace x1 := k1.cell x1 (fun f => f)
    replace x2 := k1.cell x2 (fun f => f)
    replace x3 := k1.cell x3 (fun f => f)
    replace z1 := k1.cell z1 (fun f => f)
    replace z2 := k1.cell z2 (fun f => f)
    replace z3 := k1.cell z3 (fun f => f)
    have K1 := kA.trans k1
    clear yq k1 kA x0
    go_wp2
    go_ret
    exact ⟨rfl, K1⟩
  | true =>
    rw [Bool.true_and]
    rw [hs] at yq
    clear hs
    by_cases hd : d = d'
    · subst hd
      have e0 : (d == d) = true := by simp
      rw [e0, Bool.true_and]
      by_cases h1 : a = a'
      · subst h1
        by_cases h2 : n = n'
        · subst h2
          rw [decide_eq_true ⟨rfl, rfl⟩]
          generalize c.length = CL at *
          generalize c'.length = CM at *
          have kA : Keep0 w ((w.alloc (.cells #[.slice ao CL ca, .bool d, .string a, .int .u64 (n : Int)] 27)).alloc (.cells #[.slice bo CM cb, .bool d, .string a, .int .u64 (n : Int)] 27)) := ((Keep.refl _ w).alloc _).alloc _
          have k0 : Keep0 (w.alloc (.cells #[.slice ao CL ca, .bool d, .string a, .int .u64 (n : Int)] 27)) ((w.alloc (.cells #[.slice ao CL ca, .bool d, .string a, .int .u64 (n : Int)] 27)).alloc (.cells #[.slice bo CM cb, .bool d, .string a, .int .u64 (n : Int)] 27)) := (Keep.refl _ _).alloc _
          have x0 : ((w.alloc (.cells #[.slice ao CL ca, .bool d, .string a, .int .u64 (n : Int)] 27)).alloc (.cells #[.slice bo CM cb, .bool d, .string a, .int .u64 (n : Int)] 27)).cell? ⟨w.heap.size, 0, none⟩ = some (.slice ao CL ca) := k0.cell (cell_alloc _ 27 rfl) (fun f => f)
          have x1 : ((w.alloc (.cells #[.slice ao CL ca, .bool d, .string a, .int .u64 (n : Int)] 27)).alloc (.cells #[.slice bo CM cb, .bool d, .string a, .int .u64 (n : Int)] 27)).cell? ⟨w.heap.size, 1, none⟩ = some (.bool d) := k0.cell (cell_alloc _ 27 rfl) (fun f => f)
          have x2 : ((w.alloc (.cells #[.slice ao CL ca, .bool d, .string a, .int .u64 (n : Int)] 27)).alloc (.cells #[.slice bo CM cb, .bool d, .string a, .int .u64 (n : Int)] 27)).cell? ⟨w.heap.size, 2, none⟩ = some (.string a) := k0.cell (cell_alloc _ 27 rfl) (fun f => f)
          have x3 : ((w.alloc (.cells #[.slice ao CL ca, .bool d, .string a, .int .u64 (n : Int)] 27)).alloc (.cells #[.slice bo CM cb, .bool d, .string a, .int .u64 (n : Int)] 27)).cell? ⟨w.heap.size, 3, none⟩ = some (.int .u64 (n : Int)) := k0.cell (cell_alloc _ 27 rfl) (fun f => f)
          have zA : (w.alloc (.cells #[.slice ao CL ca, .bool d, .string a, .int .u64 (n : Int)] 27)).heap.size = w.heap.size + 1 := World.size_alloc _ _
          have z1 : ((w.alloc (.cells #[.slice ao CL ca, .bool d, .string a, .int .u64 (n : Int)] 27)).alloc (.cells #[.slice bo CM cb, .bool d, .string a, .int .u64 (n : Int)] 27)).cell? ⟨w.heap.size + 1, 1, none⟩ = some (.bool d) := by rw [← zA]; exact cell_alloc _ 27 rfl
          have z2 : ((w.alloc (.cells #[.slice ao CL ca, .bool d, .string a, .int .u64 (n : Int)] 27)).alloc (.cells #[.slice bo CM cb, .bool d, .string a, .int .u64 (n : Int)] 27)).cell? ⟨w.heap.size + 1, 2, none⟩ = some (.string a) := by rw [← zA]; exact cell_alloc _ 27 rfl
          have z3 : ((w.alloc (.cells #[.slice ao CL ca, .bool d, .string a, .int .u64 (n : Int)] 27)).alloc (.cells #[.slice bo CM cb, .bool d, .string a, .int .u64 (n : Int)] 27)).cell? ⟨w.heap.size + 1, 3, none⟩ = some (.int .u64 (n : Int)) := by rw [← zA]; exact cell_alloc _ 27 rfl
          replace yq := yq _ kA
          clear k0 zA
          go_enter Try.func12, Try.ntmps12
          go_wp2_with fail
          generalize ((w.alloc (.cells #[.slice ao CL ca, .bool d, .string a, .int .u64 (n : Int)] 27)).alloc (.cells #[.slice bo CM cb, .bool d, .string a, .int .u64 (n : Int)] 27)) = W1 at *
          generalize w.heap.size = B at *
          refine yq.mono ?_
          rintro e w1 ⟨rfl, k1⟩
          replace x1 := k1.cell x1 (fun f => f)
          replace x2 := k1.cell x2 (fun f => f)
          replace x3 := k1.cell x3 (fun f => f)
          replace z1 := k1.cell z1 (fun f => f)
          replace z2 := k1.cell z2 (fun f => f)
          replace z3 := k1.cell z3 (fun f => f)
          have K1 := kA.trans k1
          clear yq k1 kA x0
          go_wp2
          go_ret
          exact ⟨rfl, K1⟩
        · rw [decide_eq_false (fun e => h2 e.2)]
          have j2 : ((n : Int) == (n' : Int)) = false := beq_eq_false_iff_ne.2 (by omega)
          have j3 : ¬ (n : Int) = (n' : Int) := by omega
          clear h2
          generalize c.length = CL at *
          generalize c'.length = CM at *
          have kA : Keep0 w ((w.alloc (.cells #[.slice ao CL ca, .bool d, .string a, .int .u64 (n : Int)] 27)).alloc (.cells #[.slice bo CM cb, .bool d, .string a, .int .u64 (n' : Int)] 27)) := ((Keep.refl _ w).alloc _).alloc _
          have k0 : Keep0 (w.alloc (.cells #[.slice ao CL ca, .bool d, .string a, .int .u64 (n : Int)] 27)) ((w.alloc (.cells #[.slice ao CL ca, .bool d, .string a, .int .u64 (n : Int)] 27)).alloc (.cells #[.slice bo CM cb, .bool d, .string a, .int .u64 (n' : Int)] 27)) := (Keep.refl _ _).alloc _
          have x0 : ((w.alloc (.cells #[.slice ao CL ca, .bool d, .string a, .int .u64 (n : Int)] 27)).alloc (.cells #[.slice bo CM cb, .bool d, .string a, .int .u64 (n' : Int)] 27)).cell? ⟨w.heap.size, 0, none⟩ = some (.slice ao CL ca) := k0.cell (cell_alloc _ 27 rfl) (fun f => f)
          have x1 : ((w.alloc (.cells #[.slice ao CL ca, .bool d, .string a, .int .u64 (n : Int)] 27)).alloc (.cells #[.slice bo CM cb, .bool d, .string a, .int .u64 (n' : Int)] 27)).cell? ⟨w.heap.size, 1, none⟩ = some (.bool d) := k0.cell (cell_alloc _ 27 rfl) (fun f => f)
          have x2 : ((w.alloc (.cells #[.slice ao CL ca, .bool d, .string a, .int .u64 (n : Int)] 27)).alloc (.cells #[.slice bo CM cb, .bool d, .string a, .int .u64 (n' : Int)] 27)).cell? ⟨w.heap.size, 2, none⟩ = some (.string a) := k0.cell (cell_alloc _ 27 rfl) (fun f => f)
          have x3 : ((w.alloc (.cells #[.slice ao CL ca, .bool d, .string a, .int .u64 (n : Int)] 27)).alloc (.cells #[.slice bo CM cb, .bool d, .string a, .int .u64 (n' : Int)] 27)).cell? ⟨w.heap.size, 3, none⟩ = some (.int .u64 (n : Int)) := k0.cell (cell_alloc _ 27 rfl) (fun f => f)
          have zA : (w.alloc (.cells #[.slice ao CL ca, .bool d, .string a, .int .u64 (n : Int)] 27)).heap.size = w.heap.size + 1 := World.size_alloc _ _
          have z1 : ((w.alloc (.cells #[.slice ao CL ca, .bool d, .string a, .int .u64 (n : Int)] 27)).alloc (.cells #[.slice bo CM cb, .bool d, .string a, .int .u64 (n' : Int)] 27)).cell? ⟨w.heap.size + 1, 1, none⟩ = some (.bool d) := by rw [← zA]; exact cell_alloc _ 27 rfl
          have z2 : ((w.alloc (.cells #[.slice ao CL ca, .bool d, .string a, .int .u64 (n : Int)] 27)).alloc (.cells #[.slice bo CM cb, .bool d, .string a, .int .u64 (n' : Int)] 27)).cell? ⟨w.heap.size + 1, 2, none⟩ = some (.string a) := by rw [← zA]; exact cell_alloc _ 27 rfl
          have z3 : ((w.alloc (.cells #[.slice ao CL ca, .bool d, .string a, .int .u64 (n : Int)] 27)).alloc (.cells #[.slice bo CM cb, .bool d, .string a, .int .u64 (n' : Int)] 27)).cell? ⟨w.heap.size + 1, 3, none⟩ = some (.int .u64 (n' : Int)) := by rw [← zA]; exact cell_alloc _ 27 rfl
          replace yq := yq _ kA
          clear k0 zA
          go_enter Try.func12, Try.ntmps12
          go_wp2_with fail
          generalize ((w.alloc (.cells #[.slice ao CL ca, .bool d, .string a, .int .u64 (n : Int)] 27)).alloc (.cells #[.slice bo CM cb, .bool d, .string a, .int .u64 (n' : Int)] 27)) = W1 at *
          generalize w.heap.size = B at *
          refine yq.mono ?_
          rintro e w1 ⟨rfl, k1⟩
          replace x1 := k1.cell x1 (fun f => f)
          replace x2 := k1.cell x2 (fun f => f)
          replace x3 := k1.cell x3 (fun f => f)
          replace z1 := k1.cell z1 (fun f => f)
          replace z2 := k1.cell z2 (fun f => f)
          replace z3 := k1.cell z3 (fun f => f)
          have K1 := kA.trans k1
          clear yq k1 kA x0
          go_wp2
          go_ret
          exact ⟨rfl, K1⟩
      · rw [decide_eq_false (fun e => h1 e.1)]
        obtain ⟨e2, e3, e4⟩ := txt_ne h1
        clear h1
        generalize c.length = CL at *
        generalize c'.length = CM at *
        have kA : Keep0 w ((w.alloc (.cells #[.slice ao CL ca, .bool d, .string a, .int .u64 (n : Int)] 27)).alloc (.cells #[.slice bo CM cb, .bool d, .string a', .int .u64 (n' : Int)] 27)) := ((Keep.refl _ w).alloc _).alloc _
        have k0 : Keep0 (w.alloc (.cells #[.slice ao CL ca, .bool d, .string a, .int .u64 (n : Int)] 27)) ((w.alloc (.cells #[.slice ao CL ca, .bool d, .string a, .int .u64 (n : Int)] 27)).alloc (.cells #[.slice bo CM cb, .bool d, .string a', .int .u64 (n' : Int)] 27)) := (Keep.refl _ _).alloc _
        have x0 : ((w.alloc (.cells #[.slice ao CL ca, .bool d, .string a, .int .u64 (n : Int)] 27)).alloc (.cells #[.slice bo CM cb, .bool d, .string a', .int .u64 (n' : Int)] 27)).cell? ⟨w.heap.size, 0, none⟩ = some (.slice ao CL ca) := k0.cell (cell_alloc _ 27 rfl) (fun f => f)
        have x1 : ((w.alloc (.cells #[.slice ao CL ca, .bool d, .string a, .int .u64 (n : Int)] 27)).alloc (.cells #[.slice bo CM cb, .bool d, .string a', .int .u64 (n' : Int)] 27)).cell? ⟨w.heap.size, 1, none⟩ = some (.bool d) := k0.cell (cell_alloc _ 27 rfl) (fun f => f)
        have x2 : ((w.alloc (.cells #[.slice ao CL ca, .bool d, .string a, .int .u64 (n : Int)] 27)).alloc (.cells #[.slice bo CM cb, .bool d, .string a', .int .u64 (n' : Int)] 27)).cell? ⟨w.heap.size, 2, none⟩ = some (.string a) := k0.cell (cell_alloc _ 27 rfl) (fun f => f)
        have x3 : ((w.alloc (.cells #[.slice ao CL ca, .bool d, .string a, .int .u64 (n : Int)] 27)).alloc (.cells #[.slice bo CM cb, .bool d, .string a', .int .u64 (n' : Int)] 27)).cell? ⟨w.heap.size, 3, none⟩ = some (.int .u64 (n : Int)) := k0.cell (cell_alloc _ 27 rfl) (fun f => f)
        have zA : (w.alloc (.cells #[.slice ao CL ca, .bool d, .string a, .int .u64 (n : Int)] 27)).heap.size = w.heap.size + 1 := World.size_alloc _ _
        have z1 : ((w.alloc (.cells #[.slice ao CL ca, .bool d, .string a, .int .u64 (n : Int)] 27)).alloc (.cells #[.slice bo CM cb, .bool d, .string a', .int .u64 (n' : Int)] 27)).cell? ⟨w.heap.size + 1, 1, none⟩ = some (.bool d) := by rw [← zA]; exact cell_alloc _ 27 rfl
        have z2 : ((w.alloc (.cells #[.slice ao CL ca, .bool d, .string a, .int .u64 (n : Int)] 27)).alloc (.cells #[.slice bo CM cb, .bool d, .string a', .int .u64 (n' : Int)] 27)).cell? ⟨w.heap.size + 1, 2, none⟩ = some (.string a') := by rw [← zA]; exact cell_alloc _ 27 rfl
        have z3 : ((w.alloc (.cells #[.slice ao CL ca, .bool d, .string a, .int .u64 (n : Int)] 27)).alloc (.cells #[.slice bo CM cb, .bool d, .string a', .int .u64 (n' : Int)] 27)).cell? ⟨w.heap.size + 1, 3, none⟩ = some (.int .u64 (n' : Int)) := by rw [← zA]; exact cell_alloc _ 27 rfl
        replace yq := yq _ kA
        clear k0 zA
        go_enter Try.func12, Try.ntmps12
        go_wp2_with fail
        generalize ((w.alloc (.cells #[.slice ao CL ca, .bool d, .string a, .int .u64 (n : Int)] 27)).alloc (.cells #[.slice bo CM cb, .bool d, .string a', .int .u64 (n' : Int)] 27)) = W1 at *
        generalize w.heap.size = B at *
        refine yq.mono ?_
        rintro e w1 ⟨rfl, k1⟩
        replace x1 := k1.cell x1 (fun f => f)
        replace x2 := k1.cell x2 (fun f => f)
        replace x3 := k1.cell x3 (fun f => f)
        replace z1 := k1.cell z1 (fun f => f)
        replace z2 := k1.cell z2 (fun f => f)
        replace z3 := k1.cell z3 (fun f => f)
        have K1 := kA.trans k1
        clear yq k1 kA x0
        go_wp2
        go_ret
        exact ⟨rfl, K1⟩
    · have e0 : (d == d') = false := beq_eq_false_iff_ne.2 hd
      rw [e0, Bool.false_and]
      generalize c.length = CL at *
      generalize c'.length = CM at *
      have kA : Keep0 w ((w.alloc (.cells #[.slice ao CL ca, .bool d, .string a, .int .u64 (n : Int)] 27)).alloc (.cells #[.slice bo CM cb, .bool d', .string a', .int .u64 (n' : Int)] 27)) := ((Keep.refl _ w).alloc _).alloc _
      have k0 : Keep0 (w.alloc (.cells #[.slice ao CL ca, .bool d, .string a, .int .u64 (n : Int)] 27)) ((w.alloc (.cells #[.slice ao CL ca, .bool d, .string a, .int .u64 (n : Int)] 27)).alloc (.cells #[.slice bo CM cb, .bool d', .string a', .int .u64 (n' : Int)] 27)) := (Keep.refl _ _).alloc _
      have x0 : ((w.alloc (.cells #[.slice ao CL ca, .bool d, .string a, .int .u64 (n : Int)] 27)).alloc (.cells #[.slice bo CM cb, .bool d', .string a', .int .u64 (n' : Int)] 27)).cell? ⟨w.heap.size, 0, none⟩ = some (.slice ao CL ca) := k0.cell (cell_alloc _ 27 rfl) (fun f => f)
      have x1 : ((w.alloc (.cells #[.slice ao CL ca, .bool d, .string a, .int .u64 (n : Int)] 27)).alloc (.cells #[.slice bo CM cb, .bool d', .string a', .int .u64 (n' : Int)] 27)).cell? ⟨w.heap.size, 1, none⟩ = some (.bool d) := k0.cell (cell_alloc _ 27 rfl) (fun f => f)
      have x2 : ((w.alloc (.cells #[.slice ao CL ca, .bool d, .string a, .int .u64 (n : Int)] 27)).alloc (.cells #[.slice bo CM cb, .bool d', .string a', .int .u64 (n' : Int)] 27)).cell? ⟨w.heap.size, 2, none⟩ = some (.string a) := k0.cell (cell_alloc _ 27 rfl) (fun f => f)
      have x3 : ((w.alloc (.cells #[.slice ao CL ca, .bool d, .string a, .int .u64 (n : Int)] 27)).alloc (.cells #[.slice bo CM cb, .bool d', .string a', .int .u64 (n' : Int)] 27)).cell? ⟨w.heap.size, 3, none⟩ = some (.int .u64 (n : Int)) := k0.cell (cell_alloc _ 27 rfl) (fun f => f)
      have zA : (w.alloc (.cells #[.slice ao CL ca, .bool d, .string a, .int .u64 (n : Int)] 27)).heap.size = w.heap.size + 1 := World.size_alloc _ _
      have z1 : ((w.alloc (.cells #[.slice ao CL ca, .bool d, .string a, .int .u64 (n : Int)] 27)).alloc (.cells #[.slice bo CM cb, .bool d', .string a', .int .u64 (n' : Int)] 27)).cell? ⟨w.heap.size + 1, 1, none⟩ = some (.bool d') := by rw [← zA]; exact cell_alloc _ 27 rfl
      have z2 : ((w.alloc (.cells #[.slice ao CL ca, .bool d, .string a, .int .u64 (n : Int)] 27)).alloc (.cells #[.slice bo CM cb, .bool d', .string a', .int .u64 (n' : Int)] 27)).cell? ⟨w.heap.size + 1, 2, none⟩ = some (.string a') := by rw [← zA]; exact cell_alloc _ 27 rfl
      have z3 : ((w.alloc (.cells #[.slice ao CL ca, .bool d, .string a, .int .u64 (n : Int)] 27)).alloc (.cells #[.slice bo CM cb, .bool d', .string a', .int .u64 (n' : Int)] 27)).cell? ⟨w.heap.size + 1, 3, none⟩ = some (.int .u64 (n' : Int)) := by rw [← zA]; exact cell_alloc _ 27 rfl
      replace yq := yq _ kA
      clear k0 zA
      go_enter Try.func12, Try.ntmps12
      go_wp2_with fail
      generalize ((w.alloc (.cells #[.slice ao CL ca, .bool d, .string a, .int .u64 (n : Int)] 27)).alloc (.cells #[.slice bo CM cb, .bool d', .string a', .int .u64 (n' : Int)] 27)) = W1 at *
      generalize w.heap.size = B at *
      refine yq.mono ?_
      rintro e w1 ⟨rfl, k1⟩
      replace x1 := k1.cell x1 (fun f => f)
      replace x2 := k1.cell x2 (fun f => f)
      replace x3 := k1.cell x3 (fun f => f)
      replace z1 := k1.cell z1 (fun f => f)
      replace z2 := k1.cell z2 (fun f => f)
      replace z3 := k1.cell z3 (fun f => f)
      have K1 := kA.trans k1
      clear yq k1 kA x0
      go_wp2
      go_ret
      exact ⟨rfl, K1⟩
theorem same12 (w : World) (ao bo : Option Addr) (ca cb : Nat) (a b : Ck) (oa : Ok12 a) (ob : Ok12 b) (ha : EnsAt w ao a.c) (hb : EnsAt w bo b.c) :
    Calls Try.prog 12 #[.agg #[.slice ao a.c.length ca, .bool a.d, .string a.x.a, .int .u64 (a.x.n : Int)], .agg #[.slice bo b.c.length cb, .bool b.d, .string b.x.a, .int .u64 (b.x.n : Int)]] w fun e w' => e = .returned (.bool (kSame a b)) ∧ Keep0 w w' :=
  same12_any w ao bo ca cb a.c b.c a.d b.d a.x.a b.x.a a.x.n b.x.n oa.ok10 ob.ok10 ha hb
end Go.Proofs.Ytkbihpdfafapeaa
