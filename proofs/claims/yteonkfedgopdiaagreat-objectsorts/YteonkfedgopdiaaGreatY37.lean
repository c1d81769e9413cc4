/-
  What this seat's claims lean on of the texts SbA.
  Conditions: as each theorem states.
-/
import Derived.WalkKit
import Derived.ProofKit
import Derived.Below
import Derived.Deep.Draws
import Derived.Deep.RegionHeld
import Derived.Test.YteonkfedgopdiaaGreatChecked
import Derived.OpenShut
import Derived.ShutString
import Derived.WalkSpells
import Derived.WalkLawsBesides
import Derived.Deep.QuietTactic
import Derived.BigQuiet
import Derived.Laws.Bits64b
import Derived.PlainAid
import Derived.Lib.AppendStr
import Derived.Deep.AppendLies
import Derived.Laws.IdiomStrings
import Derived.Laws.BytesArg
import Derived.Deep.RegionWith
import Derived.Laws.AppendOwn
import Derived.Deep.DeepAppendWide
import Derived.Deep.Upon
import Derived.Laws.Rows
import Derived.Deep.Slices
import Derived.Test.YteonkfedgopdiaaGreatY35
import Derived.Test.YteonkfedgopdiaaGreatY29
import Derived.Test.YteonkfedgopdiaaGreatY21
namespace Go.Proofs.YteonkfedgopdiaaGreat
open Go.RowKit
set_option maxRecDepth 100000 in
set_option maxHeartbeats 4000000 in
theorem check15_any (w : World) (vo : Option Addr) (vc : Nat) (po : Option Addr) (pc : Nat) (c : List En) (d : Bool) (a : ByteArray) (n : Nat) (m : List Pr) (q : Bool) (v : ByteArray) (fl : c.length ≤ 10000) (fk : FitsK ⟨c, d, ⟨a, n⟩⟩) (fp : FitsP m) (hcp : CapP m pc) (fv : v.size ≤ maxLen) (hE : EnsAt w vo c) (hP : PrsAt w po m) :
    Calls Tryz.prog 35 #[.agg #[.slice vo c.length vc, .bool d, .string a, .int .u64 (n : Int), .slice po m.length pc, .bool q, .string v]] w fun e w' => e = .returned (.int .i64 (sCheck ⟨⟨c, d, ⟨a, n⟩⟩, m, q, v⟩)) ∧ Keep0 w w' := by
  have kA : Keep0 w (w.alloc (.cells #[.slice vo c.length vc, .bool d, .string a, .int .u64 (n : Int), .slice po m.length pc, .bool q, .string v] 44)) := (Keep.refl _ w).alloc _
  obtain ⟨x0, x1, x2, x3, x4, x5, x6⟩ := sib_new w 44 ⟨⟨c, d, ⟨a, n⟩⟩, m, q, v⟩ vo vc po pc
  have yk := check12 (w.alloc (.cells #[.slice vo c.length vc, .bool d, .string a, .int .u64 (n : Int), .slice po m.length pc, .bool q, .string v] 44)) vo vc ⟨c, d, ⟨a, n⟩⟩ ⟨fl, fk⟩ (hE.keep0 kA)
  have yp := fun W (h : PrsAt W po m) => check14 W po pc m fp hcp h
  have hPA := hP.keep0 kA
  have i0 : (v.size : Int) ≤ 9223372036854775807 := by unfold maxLen at fv; omega
  have a1 := sCheck_a (x := ⟨⟨c, d, ⟨a, n⟩⟩, m, q, v⟩)
  have a2 := sCheck_b (x := ⟨⟨c, d, ⟨a, n⟩⟩, m, q, v⟩)
  have a3 := sCheck_c (x := ⟨⟨c, d, ⟨a, n⟩⟩, m, q, v⟩)
  have a4 := (sCheck_zero (x := ⟨⟨c, d, ⟨a, n⟩⟩, m, q, v⟩)).2
  by_cases h1 : kCheck ⟨c, d, ⟨a, n⟩⟩ = 0
  case neg =>
    rw [a1 h1]
    have e1 : (kCheck ⟨c, d, ⟨a, n⟩⟩ != 0) = true := by simpa using h1
    clear a1 a2 a3 a4 yp hPA fl fk fp hcp fv hE hP
    show Calls _ _ _ _ fun e w' => e = .returned (.int .i64 (kCheck ⟨c, d, ⟨a, n⟩⟩)) ∧ Keep0 w w'
    generalize kCheck ⟨c, d, ⟨a, n⟩⟩ = C at *
    go_enter Tryz.func35, Tryz.ntmps35
    go_wp2_with fail
    generalize (w.alloc (.cells #[.slice vo c.length vc, .bool d, .string a, .int .u64 (n : Int), .slice po m.length pc, .bool q, .string v] 44)) = W0 at *
    generalize w.heap.size = g at *
    refine yk.mono ?_
    rintro e w1 ⟨rfl, k1⟩
    have K1 := kA.trans k1
    clear yk k1 kA
    go_wp2
    go_ret
    exact ⟨rfl, K1⟩
  rw [h1] at yk
  by_cases h2 : qCheck m = 0
  case neg =>
    rw [a2 h1 h2]
    have e1 : (qCheck m != 0) = true := by simpa using h2
    clear a1 a2 a3 a4 fl fk fp hcp fv hE hP
    show Calls _ _ _ _ fun e w' => e = .returned (.int .i64 (qCheck m)) ∧ Keep0 w w'
    generalize qCheck m = C at *
    go_enter Tryz.func35, Tryz.ntmps35
    go_wp2_with fail
    generalize (w.alloc (.cells #[.slice vo c.length vc, .bool d, .string a, .int .u64 (n : Int), .slice po m.length pc, .bool q, .string v] 44)) = W0 at *
    generalize w.heap.size = g at *
    refine yk.mono ?_
    rintro e w1 ⟨rfl, k1⟩
    have K1 := kA.trans k1
    replace x4 := k1.cell x4 (fun f => f)
    have yp := yp _ (hPA.keep0 k1)
    clear yk k1 kA hPA x0 x1 x2 x3 x5 x6
    go_wp2_with fail
    refine yp.mono ?_
    rintro e w2 ⟨rfl, k2⟩
    have K2 := K1.trans k2
    clear yp k2 K1
    go_wp2
    go_ret
    exact ⟨rfl, K2⟩
  rw [h2] at yp
  by_cases h3 : 32768 < v.size
  · rw [a3 h1 h2 h3]
    have j1 : (32768 : Int) < v.size := by omega
    have j2 : decide ((32768 : Int) < (v.size : Int)) = true := decide_eq_true j1
    clear a1 a2 a3 a4 fl fk fp hcp fv hE hP h3
    go_enter Tryz.func35, Tryz.ntmps35
    go_wp2_with fail
    generalize (w.alloc (.cells #[.slice vo c.length vc, .bool d, .string a, .int .u64 (n : Int), .slice po m.length pc, .bool q, .string v] 44)) = W0 at *
    generalize w.heap.size = g at *
    refine yk.mono ?_
    rintro e w1 ⟨rfl, k1⟩
    have K1 := kA.trans k1
    replace x4 := k1.cell x4 (fun f => f)
    replace x6 := k1.cell x6 (fun f => f)
    have yp := yp _ (hPA.keep0 k1)
    clear yk k1 kA hPA x0 x1 x2 x3 x5
    go_wp2_with fail
    refine yp.mono ?_
    rintro e w2 ⟨rfl, k2⟩
    have K2 := K1.trans k2
    replace x6 := k2.cell x6 (fun f => f)
    clear yp k2 K1 x4
    go_wp2
    go_ret
    exact ⟨rfl, K2⟩
  · rw [a4 ⟨h1, h2, by show v.size ≤ 32768; omega⟩]
    have j1 : ¬ (32768 : Int) < v.size := by omega
    have j2 : decide ((32768 : Int) < (v.size : Int)) = false := decide_eq_false j1
    clear a1 a2 a3 a4 fl fk fp hcp fv hE hP h3
    go_enter Tryz.func35, Tryz.ntmps35
    go_wp2_with fail
    generalize (w.alloc (.cells #[.slice vo c.length vc, .bool d, .string a, .int .u64 (n : Int), .slice po m.length pc, .bool q, .string v] 44)) = W0 at *
    generalize w.heap.size = g at *
    refine yk.mono ?_
    rintro e w1 ⟨rfl, k1⟩
    have K1 := kA.trans k1
    replace x4 := k1.cell x4 (fun f => f)
    replace x6 := k1.cell x6 (fun f => f)
    have yp := yp _ (hPA.keep0 k1)
    clear yk k1 kA hPA x0 x1 x2 x3 x5
    go_wp2_with fail
    refine yp.mono ?_
    rintro e w2 ⟨rfl, k2⟩
    have K2 := K1.trans k2
    replace x6 := k2.cell x6 (fun f => f)
    clear yp k2 K1 x4
    go_wp2
    go_ret
    exact ⟨rfl, K2⟩
theorem check15 (w : World) (vo : Option Addr) (vc : Nat) (po : Option Addr) (pc : Nat) (x : Sb) (o : Ok15 x) (h : SibIn w vo po pc x) :
    Calls Tryz.prog 35 #[.agg #[.slice vo x.k.c.length vc, .bool x.k.d, .string x.k.x.a, .int .u64 (x.k.x.n : Int), .slice po x.m.length pc, .bool x.d, .string x.v]] w fun e w' => e = .returned (.int .i64 (sCheck x)) ∧ Keep0 w w' :=
  check15_any w vo vc po pc x.k.c x.k.d x.k.x.a x.k.x.n x.m x.d x.v o.len o.fit.clk o.fit.prs h.room o.fit.val h.ens h.prs
set_option maxRecDepth 100000 in
set_option maxHeartbeats 4000000 in
theorem same15_any (w : World) (vo : Option Addr) (vc : Nat) (po : Option Addr) (pc : Nat) (c : List En) (d : Bool) (a : ByteArray) (n : Nat) (m : List Pr) (q : Bool) (v : ByteArray) (vox : Option Addr) (vcx : Nat) (pox : Option Addr) (pcx : Nat) (cx : List En) (dx : Bool) (ax : ByteArray) (nx : Nat) (mx : List Pr) (qx : Bool) (vx : ByteArray) (fk : Ok12 ⟨c, d, ⟨a, n⟩⟩) (fp : FitsP m) (fk' : Ok12 ⟨cx, dx, ⟨ax, nx⟩⟩) (fp' : FitsP mx) (hE : EnsAt w vo c) (hP : PrsAt w po m) (hE' : EnsAt w vox cx) (hP' : PrsAt w pox mx) :
    Calls Tryz.prog 42 #[.agg #[.slice vo c.length vc, .bool d, .string a, .int .u64 (n : Int), .slice po m.length pc, .bool q, .string v], .agg #[.slice vox cx.length vcx, .bool dx, .string ax, .int .u64 (nx : Int), .slice pox mx.length pcx, .bool qx, .string vx]] w fun e w' => e = .returned (.bool (sSame ⟨⟨c, d, ⟨a, n⟩⟩, m, q, v⟩ ⟨⟨cx, dx, ⟨ax, nx⟩⟩, mx, qx, vx⟩)) ∧ Keep0 w w' := by
  have k0 : Keep0 w (w.alloc (.cells #[.slice vo c.length vc, .bool d, .string a, .int .u64 (n : Int), .slice po m.length pc, .bool q, .string v] 44)) := (Keep.refl _ w).alloc _
  have kB : Keep0 (w.alloc (.cells #[.slice vo c.length vc, .bool d, .string a, .int .u64 (n : Int), .slice po m.length pc, .bool q, .string v] 44)) ((w.alloc (.cells #[.slice vo c.length vc, .bool d, .string a, .int .u64 (n : Int), .slice po m.length pc, .bool q, .string v] 44)).alloc (.cells #[.slice vox cx.length vcx, .bool dx, .string ax, .int .u64 (nx : Int), .slice pox mx.length pcx, .bool qx, .string vx] 44)) := (Keep.refl _ _).alloc _
  have kA := k0.trans kB
  obtain ⟨x0, x1, x2, x3, x4, x5, x6⟩ := (sib_new w 44 ⟨⟨c, d, ⟨a, n⟩⟩, m, q, v⟩ vo vc po pc).keep0 kB
  have hN := sib_new (w.alloc (.cells #[.slice vo c.length vc, .bool d, .string a, .int .u64 (n : Int), .slice po m.length pc, .bool q, .string v] 44)) 44 ⟨⟨cx, dx, ⟨ax, nx⟩⟩, mx, qx, vx⟩ vox vcx pox pcx
  rw [World.size_alloc] at hN
  obtain ⟨z0, z1, z2, z3, z4, z5, z6⟩ := hN
  have yk := same12 ((w.alloc (.cells #[.slice vo c.length vc, .bool d, .string a, .int .u64 (n : Int), .slice po m.length pc, .bool q, .string v] 44)).alloc (.cells #[.slice vox cx.length vcx, .bool dx, .string ax, .int .u64 (nx : Int), .slice pox mx.length pcx, .bool qx, .string vx] 44)) vo vox vc vcx ⟨c, d, ⟨a, n⟩⟩ ⟨cx, dx, ⟨ax, nx⟩⟩ fk fk' (hE.keep0 kA) (hE'.keep0 kA)
  have yp := fun W (h : PrsAt W po m) (h' : PrsAt W pox mx) => same14 W po pox pc pcx m mx fp.1 fp'.1 h h'
  have hPA := hP.keep0 kA
  have hPB := hP'.keep0 kA
  have hk : sSame ⟨⟨c, d, ⟨a, n⟩⟩, m, q, v⟩ ⟨⟨cx, dx, ⟨ax, nx⟩⟩, mx, qx, vx⟩ = (kSame ⟨c, d, ⟨a, n⟩⟩ ⟨cx, dx, ⟨ax, nx⟩⟩ && (qSame m mx && ((q == qx) && decide (v = vx)))) := rfl
  rw [hk]
  clear hk fk fp fk' fp' hE hP hE' hP' k0 kB
  cases h1 : kSame ⟨c, d, ⟨a, n⟩⟩ ⟨cx, dx, ⟨ax, nx⟩⟩ with
  | false =>
    rw [h1] at yk
    rw [Bool.false_and]
    clear h1 yp hPA hPB
    go_enter Tryz.func42, Tryz.ntmps42
    go_wp2_with fail
    generalize ((w.alloc (.cells #[.slice vo c.length vc, .bool d, .string a, .int .u64 (n : Int), .slice po m.length pc, .bool q, .string v] 44)).alloc (.cells #[.slice vox cx.length vcx, .bool dx, .string ax, .int .u64 (nx : Int), .slice pox mx.length pcx, .bool qx, .string vx] 44)) = W0 at *
    generalize w.heap.size = g at *
    refine yk.mono ?_
    rintro e w1 ⟨rfl, k1⟩
    have K1 := kA.trans k1
    clear yk k1 kA
    go_wp2
    go_ret
    exact ⟨rfl, K1⟩
  | true =>
    rw [h1] at yk
    rw [Bool.true_and]
    clear h1
    cases h2 : qSame m mx with
    | false =>
      rw [h2] at yp
      rw [Bool.false_and]
      clear h2
      go_enter Tryz.func42, Tryz.ntmps42
      go_wp2_with fail
      generalize ((w.alloc (.cells #[.slice vo c.length vc, .bool d, .string a, .int .u64 (n : Int), .slice po m.length pc, .bool q, .string v] 44)).alloc (.cells #[.slice vox cx.length vcx, .bool dx, .string ax, .int .u64 (nx : Int), .slice pox mx.length pcx, .bool qx, .string vx] 44)) = W0 at *
      generalize w.heap.size = g at *
      refine yk.mono ?_
      rintro e w1 ⟨rfl, k1⟩
      have K1 := kA.trans k1
      replace x4 := k1.cell x4 (fun f => f)
      replace x5 := k1.cell x5 (fun f => f)
      replace x6 := k1.cell x6 (fun f => f)
      replace z4 := k1.cell z4 (fun f => f)
      replace z5 := k1.cell z5 (fun f => f)
      replace z6 := k1.cell z6 (fun f => f)
      have yp := yp _ (hPA.keep0 k1) (hPB.keep0 k1)
      clear yk k1 kA hPA hPB x0 x1 x2 x3 z0 z1 z2 z3
      go_wp2_with fail
      refine yp.mono ?_
      rintro e w2 ⟨rfl, k2⟩
      have K2 := K1.trans k2
      replace x5 := k2.cell x5 (fun f => f)
      replace x6 := k2.cell x6 (fun f => f)
      replace z5 := k2.cell z5 (fun f => f)
      replace z6 := k2.cell z6 (fun f => f)
      clear yp k2 K1 x4 z4
      go_wp2
      go_ret
      exact ⟨rfl, K2⟩
    | true =>
      rw [h2] at yp
      rw [Bool.true_and]
      clear h2
      by_cases h3 : q = qx
      · subst h3
        have e0 : (q == q) = true := by simp
        rw [e0, Bool.true_and]
        by_cases h4 : v = vx
        · subst h4
          rw [decide_eq_true rfl]
          clear e0
          generalize c.length = cl at *
          generalize cx.length = clx at *
          generalize m.length = ml at *
          generalize mx.length = mlx at *
          go_enter Tryz.func42, Tryz.ntmps42
          go_wp2_with fail
          generalize ((w.alloc (.cells #[.slice vo cl vc, .bool d, .string a, .int .u64 (n : Int), .slice po ml pc, .bool q, .string v] 44)).alloc (.cells #[.slice vox clx vcx, .bool dx, .string ax, .int .u64 (nx : Int), .slice pox mlx pcx, .bool q, .string v] 44)) = W0 at *
          generalize w.heap.size = g at *
          refine yk.mono ?_
          rintro e w1 ⟨rfl, k1⟩
          have K1 := kA.trans k1
          replace x4 := k1.cell x4 (fun f => f)
          replace x5 := k1.cell x5 (fun f => f)
          replace x6 := k1.cell x6 (fun f => f)
          replace z4 := k1.cell z4 (fun f => f)
          replace z5 := k1.cell z5 (fun f => f)
          replace z6 := k1.cell z6 (fun f => f)
          have yp := yp _ (hPA.keep0 k1) (hPB.keep0 k1)
          clear yk k1 kA hPA hPB x0 x1 x2 x3 z0 z1 z2 z3
          go_wp2_with fail
          refine yp.mono ?_
          rintro e w2 ⟨rfl, k2⟩
          have K2 := K1.trans k2
          replace x5 := k2.cell x5 (fun f => f)
          replace x6 := k2.cell x6 (fun f => f)
          replace z5 := k2.cell z5 (fun f => f)
          replace z6 := k2.cell z6 (fun f => f)
          clear yp k2 K1 x4 z4
          go_wp2
          go_ret
          exact ⟨rfl, K2⟩
        · rw [decide_eq_false h4]
          obtain ⟨e2, e3, e4⟩ := txt_ne h4
          have e5 : (v == vx) = false := by rw [beq_toListBytes]; exact e2
          clear e0
          go_enter Tryz.func42, Tryz.ntmps42
          go_wp2_with fail
          generalize ((w.alloc (.cells #[.slice vo c.length vc, .bool d, .string a, .int .u64 (n : Int), .slice po m.length pc, .bool q, .string v] 44)).alloc (.cells #[.slice vox cx.length vcx, .bool dx, .string ax, .int .u64 (nx : Int), .slice pox mx.length pcx, .bool q, .string vx] 44)) = W0 at *
          generalize w.heap.size = g at *
          refine yk.mono ?_
          rintro e w1 ⟨rfl, k1⟩
          have K1 := kA.trans k1
          replace x4 := k1.cell x4 (fun f => f)
          replace x5 := k1.cell x5 (fun f => f)
          replace x6 := k1.cell x6 (fun f => f)
          replace z4 := k1.cell z4 (fun f => f)
          replace z5 := k1.cell z5 (fun f => f)
          replace z6 := k1.cell z6 (fun f => f)
          have yp := yp _ (hPA.keep0 k1) (hPB.keep0 k1)
          clear yk k1 kA hPA hPB x0 x1 x2 x3 z0 z1 z2 z3
          go_wp2_with fail
          refine yp.mono ?_
          rintro e w2 ⟨rfl, k2⟩
          have K2 := K1.trans k2
          replace x5 := k2.cell x5 (fun f => f)
          replace x6 := k2.cell x6 (fun f => f)
          replace z5 := k2.cell z5 (fun f => f)
          replace z6 := k2.cell z6 (fun f => f)
          clear yp k2 K1 x4 z4
          go_wp2
          go_ret
          exact ⟨rfl, K2⟩
      · have e0 : (q == qx) = false := beq_eq_false_iff_ne.2 h3
        rw [e0, Bool.false_and]
        go_enter Tryz.func42, Tryz.ntmps42
        go_wp2_with fail
        generalize ((w.alloc (.cells #[.slice vo c.length vc, .bool d, .string a, .int .u64 (n : Int), .slice po m.length pc, .bool q, .string v] 44)).alloc (.cells #[.slice vox cx.length vcx, .bool dx, .string ax, .int .u64 (nx : Int), .slice pox mx.length pcx, .bool qx, .string vx] 44)) = W0 at *
        generalize w.heap.size = g at *
        refine yk.mono ?_
        rintro e w1 ⟨rfl, k1⟩
        have K1 := kA.trans k1
        replace x4 := k1.cell x4 (fun f => f)
        replace x5 := k1.cell x5 (fun f => f)
        replace x6 := k1.cell x6 (fun f => f)
        replace z4 := k1.cell z4 (fun f => f)
        replace z5 := k1.cell z5 (fun f => f)
        replace z6 := k1.cell z6 (fun f => f)
        have yp := yp _ (hPA.keep0 k1) (hPB.keep0 k1)
        clear yk k1 kA hPA hPB x0 x1 x2 x3 z0 z1 z2 z3
        go_wp2_with fail
        refine yp.mono ?_
        rintro e w2 ⟨rfl, k2⟩
        have K2 := K1.trans k2
        replace x5 := k2.cell x5 (fun f => f)
        replace x6 := k2.cell x6 (fun f => f)
        replace z5 := k2.cell z5 (fun f => f)
        replace z6 := k2.cell z6 (fun f => f)
        clear yp k2 K1 x4 z4
        go_wp2
        go_ret
        exact ⟨rfl, K2⟩
theorem same15 (w : World) (vo : Option Addr) (vc : Nat) (po : Option Addr) (pc : Nat) (x : Sb) (vo' : Option Addr) (vc' : Nat) (po' : Option Addr) (pc' : Nat) (y : Sb) (o : Ok15 x) (o' : Ok15 y) (h : SibIn w vo po pc x) (h' : SibIn w vo' po' pc' y) :
    Calls Tryz.prog 42 #[.agg #[.slice vo x.k.c.length vc, .bool x.k.d, .string x.k.x.a, .int .u64 (x.k.x.n : Int), .slice po x.m.length pc, .bool x.d, .string x.v], .agg #[.slice vo' y.k.c.length vc', .bool y.k.d, .string y.k.x.a, .int .u64 (y.k.x.n : Int), .slice po' y.m.length pc', .bool y.d, .string y.v]] w fun e w' => e = .returned (.bool (sSame x y)) ∧ Keep0 w w' :=
  same15_any w vo vc po pc x.k.c x.k.d x.k.x.a x.k.x.n x.m x.d x.v vo' vc' po' pc' y.k.c y.k.d y.k.x.a y.k.x.n y.m y.d y.v ⟨o.len, o.fit.clk⟩ o.fit.prs ⟨o'.len, o'.fit.clk⟩ o'.fit.prs h.ens h.prs h'.ens h'.prs
end Go.Proofs.YteonkfedgopdiaaGreat
