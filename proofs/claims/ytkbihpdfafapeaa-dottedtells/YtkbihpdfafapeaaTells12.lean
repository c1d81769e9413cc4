/-
  The walk of the law DottedTells, out of what package dotted's functions answer (DotCode) and of the document's own answers.
  Conditions: none beyond that the arguments can be read as data.
-/
import Derived.Test.YtkbihpdfafapeaaLaw12
import Derived.Test.YtkbihpdfafapeaaL1
namespace Go.Proofs.Ytkbihpdfafapeaa
open Go.RowKit

theorem kgreat_no {k : Ck} (h : kGreat k = false) : k.c.length ≤ 100 ∧ k.x.a.size ≤ 100 := by
  unfold kGreat at h
  rw [Bool.or_eq_false_iff] at h
  have h2 := of_decide_eq_false h.2
  exact ⟨(great_no h.1).1, by omega⟩
set_option maxRecDepth 100000 in
set_option maxHeartbeats 8000000 in
theorem dottedTells_nat (V : DotCode) (w : World) (ao : Option Addr) (ca : Nat) (a : Ck) (fa : FitsK a) (hA : EnsAt w ao a.c) (bo : Option Addr) (cb : Nat) (b : Ck) (fb : FitsK b) (hB : EnsAt w bo b.c) (s : ByteArray) (hs : s.size ≤ maxLen) (n : Nat) (hn : n < 18446744073709551616) :
    Calls Try.prog 3 #[.agg #[.slice ao a.c.length ca, .bool a.d, .string a.x.a, .int .u64 (a.x.n : Int)], .agg #[.slice bo b.c.length cb, .bool b.d, .string b.x.a, .int .u64 (b.x.n : Int)], .string s, .int .u64 (n : Int)] w fun e w' => e = .returned (.bool true) ∧ Keep0 w w' := by
  have yga := fun W (h : EnsAt W ao a.c) => rgreat12 W ao ca a fa h
  have ygb := fun W (h : EnsAt W bo b.c) => rgreat12 W bo cb b fb h
  have i0 : (s.size : Int) ≤ 9223372036854775807 := by unfold maxLen at hs; omega
  cases hga : kGreat a with
  | true =>
    rw [hga] at yga
    have kB : Keep0 w ((w.alloc (.cells #[.slice ao a.c.length ca, .bool a.d, .string a.x.a, .int .u64 (a.x.n : Int)] 27)).alloc (.cells #[.slice bo b.c.length cb, .bool b.d, .string b.x.a, .int .u64 (b.x.n : Int)] 27)) := ((Keep.refl _ w).alloc _).alloc _
    have k0 : Keep0 (w.alloc (.cells #[.slice ao a.c.length ca, .bool a.d, .string a.x.a, .int .u64 (a.x.n : Int)] 27)) ((w.alloc (.cells #[.slice ao a.c.length ca, .bool a.d, .string a.x.a, .int .u64 (a.x.n : Int)] 27)).alloc (.cells #[.slice bo b.c.length cb, .bool b.d, .string b.x.a, .int .u64 (b.x.n : Int)] 27)) := (Keep.refl _ _).alloc _
    have hX : ClkAt ((w.alloc (.cells #[.slice ao a.c.length ca, .bool a.d, .string a.x.a, .int .u64 (a.x.n : Int)] 27)).alloc (.cells #[.slice bo b.c.length cb, .bool b.d, .string b.x.a, .int .u64 (b.x.n : Int)] 27)) w.heap.size 0 a ao ca := (clk_new w 27 a ao ca).keep0 k0
    have hZ : ClkAt ((w.alloc (.cells #[.slice ao a.c.length ca, .bool a.d, .string a.x.a, .int .u64 (a.x.n : Int)] 27)).alloc (.cells #[.slice bo b.c.length cb, .bool b.d, .string b.x.a, .int .u64 (b.x.n : Int)] 27)) (w.heap.size + 1) 0 b bo cb := by
      have := clk_new (w.alloc (.cells #[.slice ao a.c.length ca, .bool a.d, .string a.x.a, .int .u64 (a.x.n : Int)] 27)) 27 b bo cb
      rw [World.size_alloc] at this
      exact this
    have yw := awake12 V ((w.alloc (.cells #[.slice ao a.c.length ca, .bool a.d, .string a.x.a, .int .u64 (a.x.n : Int)] 27)).alloc (.cells #[.slice bo b.c.length cb, .bool b.d, .string b.x.a, .int .u64 (b.x.n : Int)] 27))
    have hA2 := hA.keep0 kB
    have hB2 := hB.keep0 kB
    clear hA hB k0
    clear hga fa fb
    go_enter Try.func3, Try.ntmps3
    go_wp2_with fail
    generalize ((w.alloc (.cells #[.slice ao a.c.length ca, .bool a.d, .string a.x.a, .int .u64 (a.x.n : Int)] 27)).alloc (.cells #[.slice bo b.c.length cb, .bool b.d, .string b.x.a, .int .u64 (b.x.n : Int)] 27)) = WB at *
    generalize w.heap.size = gA at *
    refine yw.mono ?_
    rintro e w1 ⟨rfl, k1⟩
    have K1 := kB.trans k1
    obtain ⟨cA0, cA1, cA2, cA3⟩ := hX.keep0 k1
    obtain ⟨cB0, cB1, cB2, cB3⟩ := hZ.keep0 k1
    have hA1 := hA2.keep0 k1
    have hB1 := hB2.keep0 k1
    clear yw kB k1 hX hZ hA2 hB2

    go_wp2_with fail
    refine (yga w1 hA1).mono ?_
    rintro e w2 ⟨rfl, k⟩
    have cA0 := k.cell cA0 (fun f => f)
    have cA1 := k.cell cA1 (fun f => f)
    have cA2 := k.cell cA2 (fun f => f)
    have cA3 := k.cell cA3 (fun f => f)
    have cB0 := k.cell cB0 (fun f => f)
    have cB1 := k.cell cB1 (fun f => f)
    have cB2 := k.cell cB2 (fun f => f)
    have cB3 := k.cell cB3 (fun f => f)
    have hAw2 := hA1.keep0 k
    have hBw2 := hB1.keep0 k
    have Kw2 := K1.trans k
    clear k K1 hA1 hB1
    go_wp2
    go_ret
    exact ⟨rfl, Kw2⟩
  | false =>
    rw [hga] at yga
    have la := kgreat_no hga
    cases hgb : kGreat b with
    | true =>
      rw [hgb] at ygb
      have kB : Keep0 w ((w.alloc (.cells #[.slice ao a.c.length ca, .bool a.d, .string a.x.a, .int .u64 (a.x.n : Int)] 27)).alloc (.cells #[.slice bo b.c.length cb, .bool b.d, .string b.x.a, .int .u64 (b.x.n : Int)] 27)) := ((Keep.refl _ w).alloc _).alloc _
      have k0 : Keep0 (w.alloc (.cells #[.slice ao a.c.length ca, .bool a.d, .string a.x.a, .int .u64 (a.x.n : Int)] 27)) ((w.alloc (.cells #[.slice ao a.c.length ca, .bool a.d, .string a.x.a, .int .u64 (a.x.n : Int)] 27)).alloc (.cells #[.slice bo b.c.length cb, .bool b.d, .string b.x.a, .int .u64 (b.x.n : Int)] 27)) := (Keep.refl _ _).alloc _
      have hX : ClkAt ((w.alloc (.cells #[.slice ao a.c.length ca, .bool a.d, .string a.x.a, .int .u64 (a.x.n : Int)] 27)).alloc (.cells #[.slice bo b.c.length cb, .bool b.d, .string b.x.a, .int .u64 (b.x.n : Int)] 27)) w.heap.size 0 a ao ca := (clk_new w 27 a ao ca).keep0 k0
      have hZ : ClkAt ((w.alloc (.cells #[.slice ao a.c.length ca, .bool a.d, .string a.x.a, .int .u64 (a.x.n : Int)] 27)).alloc (.cells #[.slice bo b.c.length cb, .bool b.d, .string b.x.a, .int .u64 (b.x.n : Int)] 27)) (w.heap.size + 1) 0 b bo cb := by
        have := clk_new (w.alloc (.cells #[.slice ao a.c.length ca, .bool a.d, .string a.x.a, .int .u64 (a.x.n : Int)] 27)) 27 b bo cb
        rw [World.size_alloc] at this
        exact this
      have yw := awake12 V ((w.alloc (.cells #[.slice ao a.c.length ca, .bool a.d, .string a.x.a, .int .u64 (a.x.n : Int)] 27)).alloc (.cells #[.slice bo b.c.length cb, .bool b.d, .string b.x.a, .int .u64 (b.x.n : Int)] 27))
      have hA2 := hA.keep0 kB
      have hB2 := hB.keep0 kB
      clear hA hB k0
      clear hga hgb fa fb la
      go_enter Try.func3, Try.ntmps3
      go_wp2_with fail
      generalize ((w.alloc (.cells #[.slice ao a.c.length ca, .bool a.d, .string a.x.a, .int .u64 (a.x.n : Int)] 27)).alloc (.cells #[.slice bo b.c.length cb, .bool b.d, .string b.x.a, .int .u64 (b.x.n : Int)] 27)) = WB at *
      generalize w.heap.size = gA at *
      refine yw.mono ?_
      rintro e w1 ⟨rfl, k1⟩
      have K1 := kB.trans k1
      obtain ⟨cA0, cA1, cA2, cA3⟩ := hX.keep0 k1
      obtain ⟨cB0, cB1, cB2, cB3⟩ := hZ.keep0 k1
      have hA1 := hA2.keep0 k1
      have hB1 := hB2.keep0 k1
      clear yw kB k1 hX hZ hA2 hB2

      go_wp2_with fail
      refine (yga w1 hA1).mono ?_
      rintro e w2 ⟨rfl, k⟩
      have cA0 := k.cell cA0 (fun f => f)
      have cA1 := k.cell cA1 (fun f => f)
      have cA2 := k.cell cA2 (fun f => f)
      have cA3 := k.cell cA3 (fun f => f)
      have cB0 := k.cell cB0 (fun f => f)
      have cB1 := k.cell cB1 (fun f => f)
      have cB2 := k.cell cB2 (fun f => f)
      have cB3 := k.cell cB3 (fun f => f)
      have hAw2 := hA1.keep0 k
      have hBw2 := hB1.keep0 k
      have Kw2 := K1.trans k
      clear k K1 hA1 hB1
      go_wp2_with fail
      refine (ygb w2 hBw2).mono ?_
      rintro e w3 ⟨rfl, k⟩
      have cA0 := k.cell cA0 (fun f => f)
      have cA1 := k.cell cA1 (fun f => f)
      have cA2 := k.cell cA2 (fun f => f)
      have cA3 := k.cell cA3 (fun f => f)
      have cB0 := k.cell cB0 (fun f => f)
      have cB1 := k.cell cB1 (fun f => f)
      have cB2 := k.cell cB2 (fun f => f)
      have cB3 := k.cell cB3 (fun f => f)
      have hAw3 := hAw2.keep0 k
      have hBw3 := hBw2.keep0 k
      have Kw3 := Kw2.trans k
      clear k Kw2 hAw2 hBw2
      go_wp2
      go_ret
      exact ⟨rfl, Kw3⟩
    | false =>
      rw [hgb] at ygb
      have lb := kgreat_no hgb
      by_cases hl : 100 < s.size
      · have i1 : (100 : Int) < s.size := by omega
        have kB : Keep0 w ((w.alloc (.cells #[.slice ao a.c.length ca, .bool a.d, .string a.x.a, .int .u64 (a.x.n : Int)] 27)).alloc (.cells #[.slice bo b.c.length cb, .bool b.d, .string b.x.a, .int .u64 (b.x.n : Int)] 27)) := ((Keep.refl _ w).alloc _).alloc _
        have k0 : Keep0 (w.alloc (.cells #[.slice ao a.c.length ca, .bool a.d, .string a.x.a, .int .u64 (a.x.n : Int)] 27)) ((w.alloc (.cells #[.slice ao a.c.length ca, .bool a.d, .string a.x.a, .int .u64 (a.x.n : Int)] 27)).alloc (.cells #[.slice bo b.c.length cb, .bool b.d, .string b.x.a, .int .u64 (b.x.n : Int)] 27)) := (Keep.refl _ _).alloc _
        have hX : ClkAt ((w.alloc (.cells #[.slice ao a.c.length ca, .bool a.d, .string a.x.a, .int .u64 (a.x.n : Int)] 27)).alloc (.cells #[.slice bo b.c.length cb, .bool b.d, .string b.x.a, .int .u64 (b.x.n : Int)] 27)) w.heap.size 0 a ao ca := (clk_new w 27 a ao ca).keep0 k0
        have hZ : ClkAt ((w.alloc (.cells #[.slice ao a.c.length ca, .bool a.d, .string a.x.a, .int .u64 (a.x.n : Int)] 27)).alloc (.cells #[.slice bo b.c.length cb, .bool b.d, .string b.x.a, .int .u64 (b.x.n : Int)] 27)) (w.heap.size + 1) 0 b bo cb := by
          have := clk_new (w.alloc (.cells #[.slice ao a.c.length ca, .bool a.d, .string a.x.a, .int .u64 (a.x.n : Int)] 27)) 27 b bo cb
          rw [World.size_alloc] at this
          exact this
        have yw := awake12 V ((w.alloc (.cells #[.slice ao a.c.length ca, .bool a.d, .string a.x.a, .int .u64 (a.x.n : Int)] 27)).alloc (.cells #[.slice bo b.c.length cb, .bool b.d, .string b.x.a, .int .u64 (b.x.n : Int)] 27))
        have hA2 := hA.keep0 kB
        have hB2 := hB.keep0 kB
        clear hA hB k0
        clear hga hgb fa fb la lb hl
        go_enter Try.func3, Try.ntmps3
        go_wp2_with fail
        generalize ((w.alloc (.cells #[.slice ao a.c.length ca, .bool a.d, .string a.x.a, .int .u64 (a.x.n : Int)] 27)).alloc (.cells #[.slice bo b.c.length cb, .bool b.d, .string b.x.a, .int .u64 (b.x.n : Int)] 27)) = WB at *
        generalize w.heap.size = gA at *
        refine yw.mono ?_
        rintro e w1 ⟨rfl, k1⟩
        have K1 := kB.trans k1
        obtain ⟨cA0, cA1, cA2, cA3⟩ := hX.keep0 k1
        obtain ⟨cB0, cB1, cB2, cB3⟩ := hZ.keep0 k1
        have hA1 := hA2.keep0 k1
        have hB1 := hB2.keep0 k1
        clear yw kB k1 hX hZ hA2 hB2

        go_wp2_with fail
        refine (yga w1 hA1).mono ?_
        rintro e w2 ⟨rfl, k⟩
        have cA0 := k.cell cA0 (fun f => f)
        have cA1 := k.cell cA1 (fun f => f)
        have cA2 := k.cell cA2 (fun f => f)
        have cA3 := k.cell cA3 (fun f => f)
        have cB0 := k.cell cB0 (fun f => f)
        have cB1 := k.cell cB1 (fun f => f)
        have cB2 := k.cell cB2 (fun f => f)
        have cB3 := k.cell cB3 (fun f => f)
        have hAw2 := hA1.keep0 k
        have hBw2 := hB1.keep0 k
        have Kw2 := K1.trans k
        clear k K1 hA1 hB1
        go_wp2_with fail
        refine (ygb w2 hBw2).mono ?_
        rintro e w3 ⟨rfl, k⟩
        have cA0 := k.cell cA0 (fun f => f)
        have cA1 := k.cell cA1 (fun f => f)
        have cA2 := k.cell cA2 (fun f => f)
        have cA3 := k.cell cA3 (fun f => f)
        have cB0 := k.cell cB0 (fun f => f)
        have cB1 := k.cell cB1 (fun f => f)
        have cB2 := k.cell cB2 (fun f => f)
        have cB3 := k.cell cB3 (fun f => f)
        have hAw3 := hAw2.keep0 k
        have hBw3 := hBw2.keep0 k
        have Kw3 := Kw2.trans k
        clear k Kw2 hAw2 hBw2
        go_wp2
        go_ret
        exact ⟨rfl, Kw3⟩
      · have i1 : ¬ (100 : Int) < s.size := by omega
        have la1 := la.1
        have lb1 := lb.1
        have okA : Ok12 a := ⟨by omega, fa⟩
        have okB : Ok12 b := ⟨by omega, fb⟩
        have yca := fun W (h : EnsAt W ao a.c) => rcheck12 W ao ca a fa h
        have ycb := fun W (h : EnsAt W bo b.c) => rcheck12 W bo cb b fb h
        have ycd := fun W (h : EnsAt W ao a.c) => V.check W ao ca a okA h
        have ysd := fun W (h : EnsAt W ao a.c) (h' : EnsAt W bo b.c) => V.same W ao bo ca cb a b okA okB h h'
        have ysr := fun W (h : EnsAt W ao a.c) (h' : EnsAt W bo b.c) => rsame12 W ao bo ca cb a b fa fb h h'
        have ykd := fun W (h : EnsAt W ao a.c) => V.knows W ao ca a okA h s n hs hn
        have yvd := fun W (h : EnsAt W ao a.c) (h' : EnsAt W bo b.c) => V.covers W ao bo ca cb a b okA okB h h'
        have yp := fun W (h : EnsAt W ao a.c) => V.plain W ao ca a.c fa.vec (by omega) h
        have ypp : ∀ (po : Option Addr) (pc : Nat) (W : World), EnsAt W po a.c → EnsAt W ao a.c → Calls Try.prog 13 #[.agg #[.slice po a.c.length pc, .bool false, .string ⟨#[]⟩, .int .u64 0], .agg #[.slice ao a.c.length ca, .bool false, .string ⟨#[]⟩, .int .u64 0]] W fun e w' => e = .returned (.bool true) ∧ Keep0 W w' := by
          intro po pc W h h'
          have fp : FitsK ⟨a.c, false, ⟨⟨#[]⟩, 0⟩⟩ := ⟨fa.vec, Nat.zero_le _, by show 0 < 18446744073709551616; omega⟩
          have := rsame12 W po ao pc ca ⟨a.c, false, ⟨⟨#[]⟩, 0⟩⟩ ⟨a.c, false, ⟨⟨#[]⟩, 0⟩⟩ fp fp h h'
          rw [kSame_iff.2 rfl] at this
          exact this
        by_cases ha : kCheck a = 0
        · by_cases hb : kCheck b = 0
          · have hr : kRight a b = true := by unfold kRight; rw [ha, hb]; rfl
            have ykr := fun W (h : EnsAt W ao a.c) => rknows12 W ao ca a fa h s n
            have yvr := fun W (h : EnsAt W ao a.c) (h' : EnsAt W bo b.c) => rcovers12 W ao bo ca cb a b fa fb ((right_iff a).1 ha) h h'
            have e0 : ((0 : Int) == 0) = true := rfl
            rw [ha] at yca ycd
            rw [hb] at ycb
            rw [ha, e0, Bool.true_and] at ykd
            rw [hr, Bool.true_and] at yvd
            generalize kSame a b = SM at *
            generalize kKnows a s n = KN at *
            generalize kCovers a b = KC at *
            have kB : Keep0 w ((w.alloc (.cells #[.slice ao a.c.length ca, .bool a.d, .string a.x.a, .int .u64 (a.x.n : Int)] 27)).alloc (.cells #[.slice bo b.c.length cb, .bool b.d, .string b.x.a, .int .u64 (b.x.n : Int)] 27)) := ((Keep.refl _ w).alloc _).alloc _
            have k0 : Keep0 (w.alloc (.cells #[.slice ao a.c.length ca, .bool a.d, .string a.x.a, .int .u64 (a.x.n : Int)] 27)) ((w.alloc (.cells #[.slice ao a.c.length ca, .bool a.d, .string a.x.a, .int .u64 (a.x.n : Int)] 27)).alloc (.cells #[.slice bo b.c.length cb, .bool b.d, .string b.x.a, .int .u64 (b.x.n : Int)] 27)) := (Keep.refl _ _).alloc _
            have hX : ClkAt ((w.alloc (.cells #[.slice ao a.c.length ca, .bool a.d, .string a.x.a, .int .u64 (a.x.n : Int)] 27)).alloc (.cells #[.slice bo b.c.length cb, .bool b.d, .string b.x.a, .int .u64 (b.x.n : Int)] 27)) w.heap.size 0 a ao ca := (clk_new w 27 a ao ca).keep0 k0
            have hZ : ClkAt ((w.alloc (.cells #[.slice ao a.c.length ca, .bool a.d, .string a.x.a, .int .u64 (a.x.n : Int)] 27)).alloc (.cells #[.slice bo b.c.length cb, .bool b.d, .string b.x.a, .int .u64 (b.x.n : Int)] 27)) (w.heap.size + 1) 0 b bo cb := by
              have := clk_new (w.alloc (.cells #[.slice ao a.c.length ca, .bool a.d, .string a.x.a, .int .u64 (a.x.n : Int)] 27)) 27 b bo cb
              rw [World.size_alloc] at this
              exact this
            have yw := awake12 V ((w.alloc (.cells #[.slice ao a.c.length ca, .bool a.d, .string a.x.a, .int .u64 (a.x.n : Int)] 27)).alloc (.cells #[.slice bo b.c.length cb, .bool b.d, .string b.x.a, .int .u64 (b.x.n : Int)] 27))
            have hA2 := hA.keep0 kB
            have hB2 := hB.keep0 kB
            clear hA hB k0
            clear hga hgb la lb la1 lb1 hl okA okB fa fb hs hn
            clear ha hb hr e0
            go_enter Try.func3, Try.ntmps3
            go_wp2_with fail
            generalize ((w.alloc (.cells #[.slice ao a.c.length ca, .bool a.d, .string a.x.a, .int .u64 (a.x.n : Int)] 27)).alloc (.cells #[.slice bo b.c.length cb, .bool b.d, .string b.x.a, .int .u64 (b.x.n : Int)] 27)) = WB at *
            generalize w.heap.size = gA at *
            refine yw.mono ?_
            rintro e w1 ⟨rfl, k1⟩
            have K1 := kB.trans k1
            obtain ⟨cA0, cA1, cA2, cA3⟩ := hX.keep0 k1
            obtain ⟨cB0, cB1, cB2, cB3⟩ := hZ.keep0 k1
            have hA1 := hA2.keep0 k1
            have hB1 := hB2.keep0 k1
            clear yw kB k1 hX hZ hA2 hB2

            go_wp2_with fail
            refine (yga w1 hA1).mono ?_
            rintro e w2 ⟨rfl, k⟩
            have cA0 := k.cell cA0 (fun f => f)
            have cA1 := k.cell cA1 (fun f => f)
            have cA2 := k.cell cA2 (fun f => f)
            have cA3 := k.cell cA3 (fun f => f)
            have cB0 := k.cell cB0 (fun f => f)
            have cB1 := k.cell cB1 (fun f => f)
            have cB2 := k.cell cB2 (fun f => f)
            have cB3 := k.cell cB3 (fun f => f)
            have hAw2 := hA1.keep0 k
            have hBw2 := hB1.keep0 k
            have Kw2 := K1.trans k
            clear k K1 hA1 hB1
            go_wp2_with fail
            refine (ygb w2 hBw2).mono ?_
            rintro e w3 ⟨rfl, k⟩
            have cA0 := k.cell cA0 (fun f => f)
            have cA1 := k.cell cA1 (fun f => f)
            have cA2 := k.cell cA2 (fun f => f)
            have cA3 := k.cell cA3 (fun f => f)
            have cB0 := k.cell cB0 (fun f => f)
            have cB1 := k.cell cB1 (fun f => f)
            have cB2 := k.cell cB2 (fun f => f)
            have cB3 := k.cell cB3 (fun f => f)
            have hAw3 := hAw2.keep0 k
            have hBw3 := hBw2.keep0 k
            have Kw3 := Kw2.trans k
            clear k Kw2 hAw2 hBw2
            go_wp2_with fail
            refine (yca w3 hAw3).mono ?_
            rintro e w4 ⟨rfl, k⟩
            have cA0 := k.cell cA0 (fun f => f)
            have cA1 := k.cell cA1 (fun f => f)
            have cA2 := k.cell cA2 (fun f => f)
            have cA3 := k.cell cA3 (fun f => f)
            have cB0 := k.cell cB0 (fun f => f)
            have cB1 := k.cell cB1 (fun f => f)
            have cB2 := k.cell cB2 (fun f => f)
            have cB3 := k.cell cB3 (fun f => f)
            have hAw4 := hAw3.keep0 k
            have hBw4 := hBw3.keep0 k
            have Kw4 := Kw3.trans k
            clear k Kw3 hAw3 hBw3
            go_wp2_with fail
            refine (ycb w4 hBw4).mono ?_
            rintro e w5 ⟨rfl, k⟩
            have cA0 := k.cell cA0 (fun f => f)
            have cA1 := k.cell cA1 (fun f => f)
            have cA2 := k.cell cA2 (fun f => f)
            have cA3 := k.cell cA3 (fun f => f)
            have cB0 := k.cell cB0 (fun f => f)
            have cB1 := k.cell cB1 (fun f => f)
            have cB2 := k.cell cB2 (fun f => f)
            have cB3 := k.cell cB3 (fun f => f)
            have hAw5 := hAw4.keep0 k
            have hBw5 := hBw4.keep0 k
            have Kw5 := Kw4.trans k
            clear k Kw4 hAw4 hBw4
            go_wp2_with fail
            refine (yp w5 hAw5).mono ?_
            rintro e w6 ⟨po, pc, rfl, hP, k⟩
            have cA0 := k.cell cA0 (fun f => f)
            have cA1 := k.cell cA1 (fun f => f)
            have cA2 := k.cell cA2 (fun f => f)
            have cA3 := k.cell cA3 (fun f => f)
            have cB0 := k.cell cB0 (fun f => f)
            have cB1 := k.cell cB1 (fun f => f)
            have cB2 := k.cell cB2 (fun f => f)
            have cB3 := k.cell cB3 (fun f => f)
            have hAw6 := hAw5.keep0 k
            have hBw6 := hBw5.keep0 k
            have Kw6 := Kw5.trans k
            clear k Kw5 hAw5 hBw5
            have kP : Keep0 w6 (w6.alloc (.cells #[.slice po a.c.length pc, .bool false, .string ⟨#[]⟩, .int .u64 0] 27)) := (Keep.refl _ _).alloc _
            obtain ⟨cP0, cP1, cP2, cP3⟩ : ClkAt (w6.alloc (.cells #[.slice po a.c.length pc, .bool false, .string ⟨#[]⟩, .int .u64 0] 27)) w6.heap.size 0 ⟨a.c, false, ⟨⟨#[]⟩, 0⟩⟩ po pc := clk_new w6 27 ⟨a.c, false, ⟨⟨#[]⟩, 0⟩⟩ po pc
            have cP1 : (w6.alloc (.cells #[.slice po a.c.length pc, .bool false, .string ⟨#[]⟩, .int .u64 0] 27)).cell? ⟨w6.heap.size, 1, none⟩ = some (.bool false) := cP1
            have cP2 : (w6.alloc (.cells #[.slice po a.c.length pc, .bool false, .string ⟨#[]⟩, .int .u64 0] 27)).cell? ⟨w6.heap.size, 2, none⟩ = some (.string ⟨#[]⟩) := cP2
            have cP3 : (w6.alloc (.cells #[.slice po a.c.length pc, .bool false, .string ⟨#[]⟩, .int .u64 0] 27)).cell? ⟨w6.heap.size, 3, none⟩ = some (.int .u64 0) := cP3
            have cA0 := kP.cell cA0 (fun f => f)
            have cA1 := kP.cell cA1 (fun f => f)
            have cA2 := kP.cell cA2 (fun f => f)
            have cA3 := kP.cell cA3 (fun f => f)
            have cB0 := kP.cell cB0 (fun f => f)
            have cB1 := kP.cell cB1 (fun f => f)
            have cB2 := kP.cell cB2 (fun f => f)
            have cB3 := kP.cell cB3 (fun f => f)
            have hA9 := hAw6.keep0 kP
            have hB9 := hBw6.keep0 kP
            have hP9 := hP.keep0 kP
            have K9 := Kw6.trans kP
            clear kP hAw6 hBw6 hP Kw6
            go_wp2_with fail
            generalize (w6.alloc (.cells #[.slice po a.c.length pc, .bool false, .string ⟨#[]⟩, .int .u64 0] 27)) = w9 at *
            generalize w6.heap.size = gP at *
            have zcd := fun W (K : Keep0 w9 W) => ycd W (hA9.keep0 K)
            have zca := fun W (K : Keep0 w9 W) => yca W (hA9.keep0 K)
            have zsd := fun W (K : Keep0 w9 W) => ysd W (hA9.keep0 K) (hB9.keep0 K)
            have zsr := fun W (K : Keep0 w9 W) => ysr W (hA9.keep0 K) (hB9.keep0 K)
            have zkd := fun W (K : Keep0 w9 W) => ykd W (hA9.keep0 K)
            have zkr := fun W (K : Keep0 w9 W) => ykr W (hA9.keep0 K)
            have zvd := fun W (K : Keep0 w9 W) => yvd W (hA9.keep0 K) (hB9.keep0 K)
            have zvr := fun W (K : Keep0 w9 W) => yvr W (hA9.keep0 K) (hB9.keep0 K)
            have zp := fun W (K : Keep0 w9 W) => ypp po pc W (hP9.keep0 K) (hA9.keep0 K)
            clear ycd yca ysd ysr ykd yvd ypp ycb yga ygb yp ykr yvr hA9 hB9 hP9
            have cA0 : w9.cell? ⟨gA, 0, none⟩ = some (.slice ao a.c.length ca) := cA0
            have cA1 : w9.cell? ⟨gA, 1, none⟩ = some (.bool a.d) := cA1
            have cA2 : w9.cell? ⟨gA, 2, none⟩ = some (.string a.x.a) := cA2
            have cA3 : w9.cell? ⟨gA, 3, none⟩ = some (.int .u64 (a.x.n : Int)) := cA3
            have cB0 : w9.cell? ⟨gA + 1, 0, none⟩ = some (.slice bo b.c.length cb) := cB0
            have cB1 : w9.cell? ⟨gA + 1, 1, none⟩ = some (.bool b.d) := cB1
            have cB2 : w9.cell? ⟨gA + 1, 2, none⟩ = some (.string b.x.a) := cB2
            have cB3 : w9.cell? ⟨gA + 1, 3, none⟩ = some (.int .u64 (b.x.n : Int)) := cB3
            have cP0 : w9.cell? ⟨gP, 0, none⟩ = some (.slice po a.c.length pc) := cP0
            have cP1 : w9.cell? ⟨gP, 1, none⟩ = some (.bool false) := cP1
            have cP2 : w9.cell? ⟨gP, 2, none⟩ = some (.string ⟨#[]⟩) := cP2
            have cP3 : w9.cell? ⟨gP, 3, none⟩ = some (.int .u64 0) := cP3
            refine wp_region_held_drew (S := (fun W => W.cell? ⟨gA, 0, none⟩ = some (.slice ao a.c.length ca) ∧ W.cell? ⟨gA, 1, none⟩ = some (.bool a.d) ∧ W.cell? ⟨gA, 2, none⟩ = some (.string a.x.a) ∧ W.cell? ⟨gA, 3, none⟩ = some (.int .u64 (a.x.n : Int)) ∧ W.cell? ⟨gA + 1, 0, none⟩ = some (.slice bo b.c.length cb) ∧ W.cell? ⟨gA + 1, 1, none⟩ = some (.bool b.d) ∧ W.cell? ⟨gA + 1, 2, none⟩ = some (.string b.x.a) ∧ W.cell? ⟨gA + 1, 3, none⟩ = some (.int .u64 (b.x.n : Int)) ∧ W.cell? ⟨gP, 0, none⟩ = some (.slice po a.c.length pc) ∧ W.cell? ⟨gP, 1, none⟩ = some (.bool false) ∧ W.cell? ⟨gP, 2, none⟩ = some (.string ⟨#[]⟩) ∧ W.cell? ⟨gP, 3, none⟩ = some (.int .u64 0))) (by kernel_rfl) ⟨cA0, cA1, cA2, cA3, cB0, cB1, cB2, cB3, cP0, cP1, cP2, cP3⟩ (fun hHeld => ?_)
            refine wpAnyH_take (i := 0) (v := ?t0v) (by simp only [List.getElem?_toArray, List.getElem?_cons_zero] <;> rfl) (by kernel_rfl) (by kernel_rfl) (by kernel_rfl) (by exact fun _ _ _ h => h) (Or.inl ⟨by rfl, ?t0y⟩) hHeld ?t0r
            case t0y => intro w hSw; (try dsimp only at hSw); go_simp <;> rfl
            simp only [Act.put, List.setIfInBounds_toArray, List.set_cons_zero, List.set_cons_succ]
            refine wpAnyH_take (i := 2) (v := ?t1v) (by simp only [List.getElem?_toArray, List.getElem?_cons_succ, List.getElem?_cons_zero] <;> rfl) (by kernel_rfl) (by kernel_rfl) (by kernel_rfl) (by exact fun _ _ _ h => h) (Or.inl ⟨by rfl, ?t1y⟩) hHeld ?t1r
            case t1y => intro w hSw; (try dsimp only at hSw); go_simp <;> rfl
            simp only [Act.put, List.setIfInBounds_toArray, List.set_cons_zero, List.set_cons_succ]
            refine wpAnyH_ready (rs := [1]) (by kernel_rfl) (by simp) ?_
            refine AllReadyH.cons (by simp only [List.getElem?_toArray, List.getElem?_cons_succ, List.getElem?_cons_zero] <;> rfl) (fun K hK => ?_) AllReadyH.nil
            go_simp
            refine (zcd _ ((Keep.refl (fun _ => False) w9).drew)).mono ?_
            rintro e v1 ⟨rfl, kx⟩
            have kv1 : Keep0 w9 v1 := ((Keep.refl (fun _ => False) w9).drew).trans kx
            clear kx
            go_wp2_with fail
            refine hK.out _ _ ⟨kv1.cell cA0 (fun f => f), kv1.cell cA1 (fun f => f), kv1.cell cA2 (fun f => f), kv1.cell cA3 (fun f => f), kv1.cell cB0 (fun f => f), kv1.cell cB1 (fun f => f), kv1.cell cB2 (fun f => f), kv1.cell cB3 (fun f => f), kv1.cell cP0 (fun f => f), kv1.cell cP1 (fun f => f), kv1.cell cP2 (fun f => f), kv1.cell cP3 (fun f => f)⟩ (fun hHeld => ?_)
            clear hK K
            refine wpAnyH_ready (rs := [3]) (by kernel_rfl) (by simp) ?_
            refine AllReadyH.cons (by simp only [List.getElem?_toArray, List.getElem?_cons_succ, List.getElem?_cons_zero] <;> rfl) (fun K hK => ?_) AllReadyH.nil
            go_simp
            refine (zca _ (kv1)).mono ?_
            rintro e v2 ⟨rfl, kx⟩
            have kv2 : Keep0 w9 v2 := (kv1).trans kx
            clear kx
            go_wp2_with fail
            refine hK.out _ _ ⟨kv2.cell cA0 (fun f => f), kv2.cell cA1 (fun f => f), kv2.cell cA2 (fun f => f), kv2.cell cA3 (fun f => f), kv2.cell cB0 (fun f => f), kv2.cell cB1 (fun f => f), kv2.cell cB2 (fun f => f), kv2.cell cB3 (fun f => f), kv2.cell cP0 (fun f => f), kv2.cell cP1 (fun f => f), kv2.cell cP2 (fun f => f), kv2.cell cP3 (fun f => f)⟩ (fun hHeld => ?_)
            clear hK K
            refine wpAnyH_take (i := 4) (v := ?t2v) (by simp only [List.getElem?_toArray, List.getElem?_cons_succ, List.getElem?_cons_zero] <;> rfl) (by kernel_rfl) (by kernel_rfl) (by kernel_rfl) (by exact fun _ _ _ h => h) (Or.inl ⟨by rfl, ?t2y⟩) hHeld ?t2r
            case t2y => intro w hSw; (try dsimp only at hSw); go_simp <;> rfl
            simp only [Act.put, List.setIfInBounds_toArray, List.set_cons_zero, List.set_cons_succ]
            refine wpAnyH_take (i := 5) (v := ?t3v) (by simp only [List.getElem?_toArray, List.getElem?_cons_succ, List.getElem?_cons_zero] <;> rfl) (by kernel_rfl) (by kernel_rfl) (by kernel_rfl) (by exact fun _ _ _ h => h) (Or.inl ⟨by rfl, ?t3y⟩) hHeld ?t3r
            case t3y => intro w hSw; (try dsimp only at hSw); go_simp <;> rfl
            simp only [Act.put, List.setIfInBounds_toArray, List.set_cons_zero, List.set_cons_succ]
            refine wpAnyH_take (i := 6) (v := ?t4v) (by simp only [List.getElem?_toArray, List.getElem?_cons_succ, List.getElem?_cons_zero] <;> rfl) (by kernel_rfl) (by kernel_rfl) (by kernel_rfl) (by exact fun _ _ _ h => h) (Or.inl ⟨by rfl, ?t4y⟩) hHeld ?t4r
            case t4y => intro w hSw; (try dsimp only at hSw); go_simp <;> rfl
            simp only [Act.put, List.setIfInBounds_toArray, List.set_cons_zero, List.set_cons_succ]
            refine wpAnyH_take (i := 7) (v := ?t5v) (by simp only [List.getElem?_toArray, List.getElem?_cons_succ, List.getElem?_cons_zero] <;> rfl) (by kernel_rfl) (by kernel_rfl) (by kernel_rfl) (by exact fun _ _ _ h => h) (Or.inl ⟨by rfl, ?t5y⟩) hHeld ?t5r
            case t5y => intro w hSw; (try dsimp only at hSw); go_simp <;> rfl
            simp only [Act.put, List.setIfInBounds_toArray, List.set_cons_zero, List.set_cons_succ]
            refine wpAnyH_take (i := 9) (v := ?t6v) (by simp only [List.getElem?_toArray, List.getElem?_cons_succ, List.getElem?_cons_zero] <;> rfl) (by kernel_rfl) (by kernel_rfl) (by kernel_rfl) (by exact fun _ _ _ h => h) (Or.inl ⟨by rfl, ?t6y⟩) hHeld ?t6r
            case t6y => intro w hSw; (try dsimp only at hSw); go_simp <;> rfl
            simp only [Act.put, List.setIfInBounds_toArray, List.set_cons_zero, List.set_cons_succ]
            refine wpAnyH_take (i := 10) (v := ?t7v) (by simp only [List.getElem?_toArray, List.getElem?_cons_succ, List.getElem?_cons_zero] <;> rfl) (by kernel_rfl) (by kernel_rfl) (by kernel_rfl) (by exact fun _ _ _ h => h) (Or.inl ⟨by rfl, ?t7y⟩) hHeld ?t7r
            case t7y => intro w hSw; (try dsimp only at hSw); go_simp <;> rfl
            simp only [Act.put, List.setIfInBounds_toArray, List.set_cons_zero, List.set_cons_succ]
            refine wpAnyH_ready (rs := [8]) (by kernel_rfl) (by simp) ?_
            refine AllReadyH.cons (by simp only [List.getElem?_toArray, List.getElem?_cons_succ, List.getElem?_cons_zero] <;> rfl) (fun K hK => ?_) AllReadyH.nil
            go_simp
            refine (zsd _ (kv2)).mono ?_
            rintro e v3 ⟨rfl, kx⟩
            have kv3 : Keep0 w9 v3 := (kv2).trans kx
            clear kx
            go_wp2_with fail
            refine hK.out _ _ ⟨kv3.cell cA0 (fun f => f), kv3.cell cA1 (fun f => f), kv3.cell cA2 (fun f => f), kv3.cell cA3 (fun f => f), kv3.cell cB0 (fun f => f), kv3.cell cB1 (fun f => f), kv3.cell cB2 (fun f => f), kv3.cell cB3 (fun f => f), kv3.cell cP0 (fun f => f), kv3.cell cP1 (fun f => f), kv3.cell cP2 (fun f => f), kv3.cell cP3 (fun f => f)⟩ (fun hHeld => ?_)
            clear hK K
            refine wpAnyH_ready (rs := [11]) (by kernel_rfl) (by simp) ?_
            refine AllReadyH.cons (by simp only [List.getElem?_toArray, List.getElem?_cons_succ, List.getElem?_cons_zero] <;> rfl) (fun K hK => ?_) AllReadyH.nil
            go_simp
            refine (zsr _ (kv3)).mono ?_
            rintro e v4 ⟨rfl, kx⟩
            have kv4 : Keep0 w9 v4 := (kv3).trans kx
            clear kx
            go_wp2_with fail
            refine hK.out _ _ ⟨kv4.cell cA0 (fun f => f), kv4.cell cA1 (fun f => f), kv4.cell cA2 (fun f => f), kv4.cell cA3 (fun f => f), kv4.cell cB0 (fun f => f), kv4.cell cB1 (fun f => f), kv4.cell cB2 (fun f => f), kv4.cell cB3 (fun f => f), kv4.cell cP0 (fun f => f), kv4.cell cP1 (fun f => f), kv4.cell cP2 (fun f => f), kv4.cell cP3 (fun f => f)⟩ (fun hHeld => ?_)
            clear hK K
            refine wpAnyH_take (i := 12) (v := ?t8v) (by simp only [List.getElem?_toArray, List.getElem?_cons_succ, List.getElem?_cons_zero] <;> rfl) (by kernel_rfl) (by kernel_rfl) (by kernel_rfl) (by exact fun _ _ _ h => h) (Or.inl ⟨by rfl, ?t8y⟩) hHeld ?t8r
            case t8y => intro w hSw; (try dsimp only at hSw); go_simp <;> rfl
            simp only [Act.put, List.setIfInBounds_toArray, List.set_cons_zero, List.set_cons_succ]
            refine wpAnyH_take (i := 13) (v := ?t9v) (by simp only [List.getElem?_toArray, List.getElem?_cons_succ, List.getElem?_cons_zero] <;> rfl) (by kernel_rfl) (by kernel_rfl) (by kernel_rfl) (by exact fun _ _ _ h => h) (Or.inl ⟨by rfl, ?t9y⟩) hHeld ?t9r
            case t9y => intro w hSw; (try dsimp only at hSw); go_simp <;> rfl
            simp only [Act.put, List.setIfInBounds_toArray, List.set_cons_zero, List.set_cons_succ]
            refine wpAnyH_take (i := 14) (v := ?t10v) (by simp only [List.getElem?_toArray, List.getElem?_cons_succ, List.getElem?_cons_zero] <;> rfl) (by kernel_rfl) (by kernel_rfl) (by kernel_rfl) (by exact fun _ _ _ h => h) (Or.inl ⟨by rfl, ?t10y⟩) hHeld ?t10r
            case t10y => intro w hSw; (try dsimp only at hSw); go_simp <;> rfl
            simp only [Act.put, List.setIfInBounds_toArray, List.set_cons_zero, List.set_cons_succ]
            refine wpAnyH_take (i := 15) (v := ?t11v) (by simp only [List.getElem?_toArray, List.getElem?_cons_succ, List.getElem?_cons_zero] <;> rfl) (by kernel_rfl) (by kernel_rfl) (by kernel_rfl) (by exact fun _ _ _ h => h) (Or.inl ⟨by rfl, ?t11y⟩) hHeld ?t11r
            case t11y => intro w hSw; (try dsimp only at hSw); go_simp <;> rfl
            simp only [Act.put, List.setIfInBounds_toArray, List.set_cons_zero, List.set_cons_succ]
            refine wpAnyH_take (i := 16) (v := ?t12v) (by simp only [List.getElem?_toArray, List.getElem?_cons_succ, List.getElem?_cons_zero] <;> rfl) (by kernel_rfl) (by kernel_rfl) (by kernel_rfl) (by exact fun _ _ _ h => h) (Or.inl ⟨by rfl, ?t12y⟩) hHeld ?t12r
            case t12y => intro w hSw; (try dsimp only at hSw); go_simp <;> rfl
            simp only [Act.put, List.setIfInBounds_toArray, List.set_cons_zero, List.set_cons_succ]
            refine wpAnyH_take (i := 17) (v := ?t13v) (by simp only [List.getElem?_toArray, List.getElem?_cons_succ, List.getElem?_cons_zero] <;> rfl) (by kernel_rfl) (by kernel_rfl) (by kernel_rfl) (by exact fun _ _ _ h => h) (Or.inl ⟨by rfl, ?t13y⟩) hHeld ?t13r
            case t13y => intro w hSw; (try dsimp only at hSw); go_simp <;> rfl
            simp only [Act.put, List.setIfInBounds_toArray, List.set_cons_zero, List.set_cons_succ]
            refine wpAnyH_take (i := 19) (v := ?t14v) (by simp only [List.getElem?_toArray, List.getElem?_cons_succ, List.getElem?_cons_zero] <;> rfl) (by kernel_rfl) (by kernel_rfl) (by kernel_rfl) (by exact fun _ _ _ h => h) (Or.inl ⟨by rfl, ?t14y⟩) hHeld ?t14r
            case t14y => intro w hSw; (try dsimp only at hSw); go_simp <;> rfl
            simp only [Act.put, List.setIfInBounds_toArray, List.set_cons_zero, List.set_cons_succ]
            refine wpAnyH_ready (rs := [18]) (by kernel_rfl) (by simp) ?_
            refine AllReadyH.cons (by simp only [List.getElem?_toArray, List.getElem?_cons_succ, List.getElem?_cons_zero] <;> rfl) (fun K hK => ?_) AllReadyH.nil
            go_simp
            refine (zkd _ (kv4)).mono ?_
            rintro e v5 ⟨rfl, kx⟩
            have kv5 : Keep0 w9 v5 := (kv4).trans kx
            clear kx
            go_wp2_with fail
            refine hK.out _ _ ⟨kv5.cell cA0 (fun f => f), kv5.cell cA1 (fun f => f), kv5.cell cA2 (fun f => f), kv5.cell cA3 (fun f => f), kv5.cell cB0 (fun f => f), kv5.cell cB1 (fun f => f), kv5.cell cB2 (fun f => f), kv5.cell cB3 (fun f => f), kv5.cell cP0 (fun f => f), kv5.cell cP1 (fun f => f), kv5.cell cP2 (fun f => f), kv5.cell cP3 (fun f => f)⟩ (fun hHeld => ?_)
            clear hK K
            refine wpAnyH_take (i := 20) (v := ?t15v) (by simp only [List.getElem?_toArray, List.getElem?_cons_succ, List.getElem?_cons_zero] <;> rfl) (by kernel_rfl) (by kernel_rfl) (by kernel_rfl) (by exact fun _ _ _ h => h) (Or.inl ⟨by rfl, ?t15y⟩) hHeld ?t15r
            case t15y => intro w hSw; (try dsimp only at hSw); go_simp <;> rfl
            simp only [Act.put, List.setIfInBounds_toArray, List.set_cons_zero, List.set_cons_succ]
            refine wpAnyH_take (i := 21) (v := ?t16v) (by simp only [List.getElem?_toArray, List.getElem?_cons_succ, List.getElem?_cons_zero] <;> rfl) (by kernel_rfl) (by kernel_rfl) (by kernel_rfl) (by exact fun _ _ _ h => h) (Or.inl ⟨by rfl, ?t16y⟩) hHeld ?t16r
            case t16y => intro w hSw; (try dsimp only at hSw); go_simp <;> rfl
            simp only [Act.put, List.setIfInBounds_toArray, List.set_cons_zero, List.set_cons_succ]
            refine wpAnyH_take (i := 22) (v := ?t17v) (by simp only [List.getElem?_toArray, List.getElem?_cons_succ, List.getElem?_cons_zero] <;> rfl) (by kernel_rfl) (by kernel_rfl) (by kernel_rfl) (by exact fun _ _ _ h => h) (Or.inl ⟨by rfl, ?t17y⟩) hHeld ?t17r
            case t17y => intro w hSw; (try dsimp only at hSw); go_simp <;> rfl
            simp only [Act.put, List.setIfInBounds_toArray, List.set_cons_zero, List.set_cons_succ]
            refine wpAnyH_take (i := 23) (v := ?t18v) (by simp only [List.getElem?_toArray, List.getElem?_cons_succ, List.getElem?_cons_zero] <;> rfl) (by kernel_rfl) (by kernel_rfl) (by kernel_rfl) (by exact fun _ _ _ h => h) (Or.inl ⟨by rfl, ?t18y⟩) hHeld ?t18r
            case t18y => intro w hSw; (try dsimp only at hSw); go_simp <;> rfl
            simp only [Act.put, List.setIfInBounds_toArray, List.set_cons_zero, List.set_cons_succ]
            refine wpAnyH_ready (rs := [24]) (by kernel_rfl) (by simp) ?_
            refine AllReadyH.cons (by simp only [List.getElem?_toArray, List.getElem?_cons_succ, List.getElem?_cons_zero] <;> rfl) (fun K hK => ?_) AllReadyH.nil
            go_simp
            refine (zkr _ (kv5)).mono ?_
            rintro e v6 ⟨rfl, kx⟩
            have kv6 : Keep0 w9 v6 := (kv5).trans kx
            clear kx
            go_wp2_with fail
            refine hK.out _ _ ⟨kv6.cell cA0 (fun f => f), kv6.cell cA1 (fun f => f), kv6.cell cA2 (fun f => f), kv6.cell cA3 (fun f => f), kv6.cell cB0 (fun f => f), kv6.cell cB1 (fun f => f), kv6.cell cB2 (fun f => f), kv6.cell cB3 (fun f => f), kv6.cell cP0 (fun f => f), kv6.cell cP1 (fun f => f), kv6.cell cP2 (fun f => f), kv6.cell cP3 (fun f => f)⟩ (fun hHeld => ?_)
            clear hK K
            refine wpAnyH_take (i := 25) (v := ?t19v) (by simp only [List.getElem?_toArray, List.getElem?_cons_succ, List.getElem?_cons_zero] <;> rfl) (by kernel_rfl) (by kernel_rfl) (by kernel_rfl) (by exact fun _ _ _ h => h) (Or.inl ⟨by rfl, ?t19y⟩) hHeld ?t19r
            case t19y => intro w hSw; (try dsimp only at hSw); go_simp <;> rfl
            simp only [Act.put, List.setIfInBounds_toArray, List.set_cons_zero, List.set_cons_succ]
            refine wpAnyH_take (i := 26) (v := ?t20v) (by simp only [List.getElem?_toArray, List.getElem?_cons_succ, List.getElem?_cons_zero] <;> rfl) (by kernel_rfl) (by kernel_rfl) (by kernel_rfl) (by exact fun _ _ _ h => h) (Or.inl ⟨by rfl, ?t20y⟩) hHeld ?t20r
            case t20y => intro w hSw; (try dsimp only at hSw); go_simp <;> rfl
            simp only [Act.put, List.setIfInBounds_toArray, List.set_cons_zero, List.set_cons_succ]
            refine wpAnyH_take (i := 27) (v := ?t21v) (by simp only [List.getElem?_toArray, List.getElem?_cons_succ, List.getElem?_cons_zero] <;> rfl) (by kernel_rfl) (by kernel_rfl) (by kernel_rfl) (by exact fun _ _ _ h => h) (Or.inl ⟨by rfl, ?t21y⟩) hHeld ?t21r
            case t21y => intro w hSw; (try dsimp only at hSw); go_simp <;> rfl
            simp only [Act.put, List.setIfInBounds_toArray, List.set_cons_zero, List.set_cons_succ]
            refine wpAnyH_take (i := 28) (v := ?t22v) (by simp only [List.getElem?_toArray, List.getElem?_cons_succ, List.getElem?_cons_zero] <;> rfl) (by kernel_rfl) (by kernel_rfl) (by kernel_rfl) (by exact fun _ _ _ h => h) (Or.inl ⟨by rfl, ?t22y⟩) hHeld ?t22r
            case t22y => intro w hSw; (try dsimp only at hSw); go_simp <;> rfl
            simp only [Act.put, List.setIfInBounds_toArray, List.set_cons_zero, List.set_cons_succ]
            refine wpAnyH_take (i := 29) (v := ?t23v) (by simp only [List.getElem?_toArray, List.getElem?_cons_succ, List.getElem?_cons_zero] <;> rfl) (by kernel_rfl) (by kernel_rfl) (by kernel_rfl) (by exact fun _ _ _ h => h) (Or.inl ⟨by rfl, ?t23y⟩) hHeld ?t23r
            case t23y => intro w hSw; (try dsimp only at hSw); go_simp <;> rfl
            simp only [Act.put, List.setIfInBounds_toArray, List.set_cons_zero, List.set_cons_succ]
            refine wpAnyH_take (i := 30) (v := ?t24v) (by simp only [List.getElem?_toArray, List.getElem?_cons_succ, List.getElem?_cons_zero] <;> rfl) (by kernel_rfl) (by kernel_rfl) (by kernel_rfl) (by exact fun _ _ _ h => h) (Or.inl ⟨by rfl, ?t24y⟩) hHeld ?t24r
            case t24y => intro w hSw; (try dsimp only at hSw); go_simp <;> rfl
            simp only [Act.put, List.setIfInBounds_toArray, List.set_cons_zero, List.set_cons_succ]
            refine wpAnyH_take (i := 32) (v := ?t25v) (by simp only [List.getElem?_toArray, List.getElem?_cons_succ, List.getElem?_cons_zero] <;> rfl) (by kernel_rfl) (by kernel_rfl) (by kernel_rfl) (by exact fun _ _ _ h => h) (Or.inl ⟨by rfl, ?t25y⟩) hHeld ?t25r
            case t25y => intro w hSw; (try dsimp only at hSw); go_simp <;> rfl
            simp only [Act.put, List.setIfInBounds_toArray, List.set_cons_zero, List.set_cons_succ]
            refine wpAnyH_ready (rs := [31]) (by kernel_rfl) (by simp) ?_
            refine AllReadyH.cons (by simp only [List.getElem?_toArray, List.getElem?_cons_succ, List.getElem?_cons_zero] <;> rfl) (fun K hK => ?_) AllReadyH.nil
            go_simp
            refine (zvd _ (kv6)).mono ?_
            rintro e v7 ⟨rfl, kx⟩
            have kv7 : Keep0 w9 v7 := (kv6).trans kx
            clear kx
            go_wp2_with fail
            refine hK.out _ _ ⟨kv7.cell cA0 (fun f => f), kv7.cell cA1 (fun f => f), kv7.cell cA2 (fun f => f), kv7.cell cA3 (fun f => f), kv7.cell cB0 (fun f => f), kv7.cell cB1 (fun f => f), kv7.cell cB2 (fun f => f), kv7.cell cB3 (fun f => f), kv7.cell cP0 (fun f => f), kv7.cell cP1 (fun f => f), kv7.cell cP2 (fun f => f), kv7.cell cP3 (fun f => f)⟩ (fun hHeld => ?_)
            clear hK K
            refine wpAnyH_take (i := 33) (v := ?t26v) (by simp only [List.getElem?_toArray, List.getElem?_cons_succ, List.getElem?_cons_zero] <;> rfl) (by kernel_rfl) (by kernel_rfl) (by kernel_rfl) (by exact fun _ _ _ h => h) (Or.inl ⟨by rfl, ?t26y⟩) hHeld ?t26r
            case t26y => intro w hSw; (try dsimp only at hSw); go_simp <;> rfl
            simp only [Act.put, List.setIfInBounds_toArray, List.set_cons_zero, List.set_cons_succ]
            refine wpAnyH_take (i := 34) (v := ?t27v) (by simp only [List.getElem?_toArray, List.getElem?_cons_succ, List.getElem?_cons_zero] <;> rfl) (by kernel_rfl) (by kernel_rfl) (by kernel_rfl) (by exact fun _ _ _ h => h) (Or.inl ⟨by rfl, ?t27y⟩) hHeld ?t27r
            case t27y => intro w hSw; (try dsimp only at hSw); go_simp <;> rfl
            simp only [Act.put, List.setIfInBounds_toArray, List.set_cons_zero, List.set_cons_succ]
            refine wpAnyH_take (i := 35) (v := ?t28v) (by simp only [List.getElem?_toArray, List.getElem?_cons_succ, List.getElem?_cons_zero] <;> rfl) (by kernel_rfl) (by kernel_rfl) (by kernel_rfl) (by exact fun _ _ _ h => h) (Or.inl ⟨by rfl, ?t28y⟩) hHeld ?t28r
            case t28y => intro w hSw; (try dsimp only at hSw); go_simp <;> rfl
            simp only [Act.put, List.setIfInBounds_toArray, List.set_cons_zero, List.set_cons_succ]
            refine wpAnyH_ready (rs := [36]) (by kernel_rfl) (by simp) ?_
            refine AllReadyH.cons (by simp only [List.getElem?_toArray, List.getElem?_cons_succ, List.getElem?_cons_zero] <;> rfl) (fun K hK => ?_) AllReadyH.nil
            go_simp
            refine (zvr _ (kv7)).mono ?_
            rintro e v8 ⟨rfl, kx⟩
            have kv8 : Keep0 w9 v8 := (kv7).trans kx
            clear kx
            go_wp2_with fail
            refine hK.out _ _ ⟨kv8.cell cA0 (fun f => f), kv8.cell cA1 (fun f => f), kv8.cell cA2 (fun f => f), kv8.cell cA3 (fun f => f), kv8.cell cB0 (fun f => f), kv8.cell cB1 (fun f => f), kv8.cell cB2 (fun f => f), kv8.cell cB3 (fun f => f), kv8.cell cP0 (fun f => f), kv8.cell cP1 (fun f => f), kv8.cell cP2 (fun f => f), kv8.cell cP3 (fun f => f)⟩ (fun hHeld => ?_)
            clear hK K
            refine wpAnyH_take (i := 37) (v := ?t29v) (by simp only [List.getElem?_toArray, List.getElem?_cons_succ, List.getElem?_cons_zero] <;> rfl) (by kernel_rfl) (by kernel_rfl) (by kernel_rfl) (by exact fun _ _ _ h => h) (Or.inl ⟨by rfl, ?t29y⟩) hHeld ?t29r
            case t29y => intro w hSw; (try dsimp only at hSw); go_simp <;> rfl
            simp only [Act.put, List.setIfInBounds_toArray, List.set_cons_zero, List.set_cons_succ]
            refine wpAnyH_take (i := 38) (v := ?t30v) (by simp only [List.getElem?_toArray, List.getElem?_cons_succ, List.getElem?_cons_zero] <;> rfl) (by kernel_rfl) (by kernel_rfl) (by kernel_rfl) (by exact fun _ _ _ h => h) (Or.inl ⟨by rfl, ?t30y⟩) hHeld ?t30r
            case t30y => intro w hSw; (try dsimp only at hSw); go_simp <;> rfl
            simp only [Act.put, List.setIfInBounds_toArray, List.set_cons_zero, List.set_cons_succ]
            refine wpAnyH_take (i := 39) (v := ?t31v) (by simp only [List.getElem?_toArray, List.getElem?_cons_succ, List.getElem?_cons_zero] <;> rfl) (by kernel_rfl) (by kernel_rfl) (by kernel_rfl) (by exact fun _ _ _ h => h) (Or.inl ⟨by rfl, ?t31y⟩) hHeld ?t31r
            case t31y => intro w hSw; (try dsimp only at hSw); go_simp <;> rfl
            simp only [Act.put, List.setIfInBounds_toArray, List.set_cons_zero, List.set_cons_succ]
            refine wpAnyH_take (i := 40) (v := ?t32v) (by simp only [List.getElem?_toArray, List.getElem?_cons_succ, List.getElem?_cons_zero] <;> rfl) (by kernel_rfl) (by kernel_rfl) (by kernel_rfl) (by exact fun _ _ _ h => h) (Or.inl ⟨by rfl, ?t32y⟩) hHeld ?t32r
            case t32y => intro w hSw; (try dsimp only at hSw); go_simp <;> rfl
            simp only [Act.put, List.setIfInBounds_toArray, List.set_cons_zero, List.set_cons_succ]
            refine wpAnyH_take (i := 41) (v := ?t33v) (by simp only [List.getElem?_toArray, List.getElem?_cons_succ, List.getElem?_cons_zero] <;> rfl) (by kernel_rfl) (by kernel_rfl) (by kernel_rfl) (by exact fun _ _ _ h => h) (Or.inl ⟨by rfl, ?t33y⟩) hHeld ?t33r
            case t33y => intro w hSw; (try dsimp only at hSw); go_simp <;> rfl
            simp only [Act.put, List.setIfInBounds_toArray, List.set_cons_zero, List.set_cons_succ]
            refine wpAnyH_take (i := 42) (v := ?t34v) (by simp only [List.getElem?_toArray, List.getElem?_cons_succ, List.getElem?_cons_zero] <;> rfl) (by kernel_rfl) (by kernel_rfl) (by kernel_rfl) (by exact fun _ _ _ h => h) (Or.inl ⟨by rfl, ?t34y⟩) hHeld ?t34r
            case t34y => intro w hSw; (try dsimp only at hSw); go_simp <;> rfl
            simp only [Act.put, List.setIfInBounds_toArray, List.set_cons_zero, List.set_cons_succ]
            refine wpAnyH_take (i := 43) (v := ?t35v) (by simp only [List.getElem?_toArray, List.getElem?_cons_succ, List.getElem?_cons_zero] <;> rfl) (by kernel_rfl) (by kernel_rfl) (by kernel_rfl) (by exact fun _ _ _ h => h) (Or.inl ⟨by rfl, ?t35y⟩) hHeld ?t35r
            case t35y => intro w hSw; (try dsimp only at hSw); go_simp <;> rfl
            simp only [Act.put, List.setIfInBounds_toArray, List.set_cons_zero, List.set_cons_succ]
            refine wpAnyH_take (i := 44) (v := ?t36v) (by simp only [List.getElem?_toArray, List.getElem?_cons_succ, List.getElem?_cons_zero] <;> rfl) (by kernel_rfl) (by kernel_rfl) (by kernel_rfl) (by exact fun _ _ _ h => h) (Or.inl ⟨by rfl, ?t36y⟩) hHeld ?t36r
            case t36y => intro w hSw; (try dsimp only at hSw); go_simp <;> rfl
            simp only [Act.put, List.setIfInBounds_toArray, List.set_cons_zero, List.set_cons_succ]
            refine wpAnyH_ready (rs := [45]) (by kernel_rfl) (by simp) ?_
            refine AllReadyH.cons (by simp only [List.getElem?_toArray, List.getElem?_cons_succ, List.getElem?_cons_zero] <;> rfl) (fun K hK => ?_) AllReadyH.nil
            go_simp
            refine (zp _ (kv8)).mono ?_
            rintro e v9 ⟨rfl, kx⟩
            have kv9 : Keep0 w9 v9 := (kv8).trans kx
            clear kx
            go_wp2_with fail
            refine hK.out _ _ ⟨kv9.cell cA0 (fun f => f), kv9.cell cA1 (fun f => f), kv9.cell cA2 (fun f => f), kv9.cell cA3 (fun f => f), kv9.cell cB0 (fun f => f), kv9.cell cB1 (fun f => f), kv9.cell cB2 (fun f => f), kv9.cell cB3 (fun f => f), kv9.cell cP0 (fun f => f), kv9.cell cP1 (fun f => f), kv9.cell cP2 (fun f => f), kv9.cell cP3 (fun f => f)⟩ (fun hHeld => ?_)
            clear hK K
            refine wpAnyH_take (i := 46) (v := ?t37v) (by simp only [List.getElem?_toArray, List.getElem?_cons_succ, List.getElem?_cons_zero] <;> rfl) (by kernel_rfl) (by kernel_rfl) (by kernel_rfl) (by exact fun _ _ _ h => h) (Or.inl ⟨by rfl, ?t37y⟩) hHeld ?t37r
            case t37y => intro w hSw; (try dsimp only at hSw); go_simp <;> rfl
            simp only [Act.put, List.setIfInBounds_toArray, List.set_cons_zero, List.set_cons_succ]
            refine wpAnyH_take (i := 47) (v := ?t38v) (by simp only [List.getElem?_toArray, List.getElem?_cons_succ, List.getElem?_cons_zero] <;> rfl) (by kernel_rfl) (by kernel_rfl) (by kernel_rfl) (by exact fun _ _ _ h => h) (Or.inl ⟨by rfl, ?t38y⟩) hHeld ?t38r
            case t38y => intro w hSw; (try dsimp only at hSw); go_simp <;> rfl
            simp only [Act.put, List.setIfInBounds_toArray, List.set_cons_zero, List.set_cons_succ]
            refine wpAnyH_done (by kernel_rfl) ?_ _
            have KF := K9.trans kv9
            clear hHeld K9
            go_wp2
            go_ret
            exact ⟨rfl, KF⟩
          · have hr : kRight a b = false := by unfold kRight; rw [beq_eq_false_iff_ne.2 hb, Bool.and_false]
            have ykr := fun W (h : EnsAt W ao a.c) => rknows12 W ao ca a fa h s n
            have e0 : ((0 : Int) == 0) = true := rfl
            have e1 : (kCheck b == 0) = false := beq_eq_false_iff_ne.2 hb
            rw [ha] at yca ycd
            rw [ha, e0, Bool.true_and] at ykd
            rw [hr, Bool.false_and] at yvd
            clear ha hb hr e0
            generalize kSame a b = SM at *
            generalize kKnows a s n = KN at *
            generalize kCheck b = CB at *
            have kB : Keep0 w ((w.alloc (.cells #[.slice ao a.c.length ca, .bool a.d, .string a.x.a, .int .u64 (a.x.n : Int)] 27)).alloc (.cells #[.slice bo b.c.length cb, .bool b.d, .string b.x.a, .int .u64 (b.x.n : Int)] 27)) := ((Keep.refl _ w).alloc _).alloc _
            have k0 : Keep0 (w.alloc (.cells #[.slice ao a.c.length ca, .bool a.d, .string a.x.a, .int .u64 (a.x.n : Int)] 27)) ((w.alloc (.cells #[.slice ao a.c.length ca, .bool a.d, .string a.x.a, .int .u64 (a.x.n : Int)] 27)).alloc (.cells #[.slice bo b.c.length cb, .bool b.d, .string b.x.a, .int .u64 (b.x.n : Int)] 27)) := (Keep.refl _ _).alloc _
            have hX : ClkAt ((w.alloc (.cells #[.slice ao a.c.length ca, .bool a.d, .string a.x.a, .int .u64 (a.x.n : Int)] 27)).alloc (.cells #[.slice bo b.c.length cb, .bool b.d, .string b.x.a, .int .u64 (b.x.n : Int)] 27)) w.heap.size 0 a ao ca := (clk_new w 27 a ao ca).keep0 k0
            have hZ : ClkAt ((w.alloc (.cells #[.slice ao a.c.length ca, .bool a.d, .string a.x.a, .int .u64 (a.x.n : Int)] 27)).alloc (.cells #[.slice bo b.c.length cb, .bool b.d, .string b.x.a, .int .u64 (b.x.n : Int)] 27)) (w.heap.size + 1) 0 b bo cb := by
              have := clk_new (w.alloc (.cells #[.slice ao a.c.length ca, .bool a.d, .string a.x.a, .int .u64 (a.x.n : Int)] 27)) 27 b bo cb
              rw [World.size_alloc] at this
              exact this
            have yw := awake12 V ((w.alloc (.cells #[.slice ao a.c.length ca, .bool a.d, .string a.x.a, .int .u64 (a.x.n : Int)] 27)).alloc (.cells #[.slice bo b.c.length cb, .bool b.d, .string b.x.a, .int .u64 (b.x.n : Int)] 27))
            have hA2 := hA.keep0 kB
            have hB2 := hB.keep0 kB
            clear hA hB k0
            clear hga hgb la lb la1 lb1 hl okA okB fa fb hs hn
            go_enter Try.func3, Try.ntmps3
            go_wp2_with fail
            generalize ((w.alloc (.cells #[.slice ao a.c.length ca, .bool a.d, .string a.x.a, .int .u64 (a.x.n : Int)] 27)).alloc (.cells #[.slice bo b.c.length cb, .bool b.d, .string b.x.a, .int .u64 (b.x.n : Int)] 27)) = WB at *
            generalize w.heap.size = gA at *
            refine yw.mono ?_
            rintro e w1 ⟨rfl, k1⟩
            have K1 := kB.trans k1
            obtain ⟨cA0, cA1, cA2, cA3⟩ := hX.keep0 k1
            obtain ⟨cB0, cB1, cB2, cB3⟩ := hZ.keep0 k1
            have hA1 := hA2.keep0 k1
            have hB1 := hB2.keep0 k1
            clear yw kB k1 hX hZ hA2 hB2

            go_wp2_with fail
            refine (yga w1 hA1).mono ?_
            rintro e w2 ⟨rfl, k⟩
            have cA0 := k.cell cA0 (fun f => f)
            have cA1 := k.cell cA1 (fun f => f)
            have cA2 := k.cell cA2 (fun f => f)
            have cA3 := k.cell cA3 (fun f => f)
            have cB0 := k.cell cB0 (fun f => f)
            have cB1 := k.cell cB1 (fun f => f)
            have cB2 := k.cell cB2 (fun f => f)
            have cB3 := k.cell cB3 (fun f => f)
            have hAw2 := hA1.keep0 k
            have hBw2 := hB1.keep0 k
            have Kw2 := K1.trans k
            clear k K1 hA1 hB1
            go_wp2_with fail
            refine (ygb w2 hBw2).mono ?_
            rintro e w3 ⟨rfl, k⟩
            have cA0 := k.cell cA0 (fun f => f)
            have cA1 := k.cell cA1 (fun f => f)
            have cA2 := k.cell cA2 (fun f => f)
            have cA3 := k.cell cA3 (fun f => f)
            have cB0 := k.cell cB0 (fun f => f)
            have cB1 := k.cell cB1 (fun f => f)
            have cB2 := k.cell cB2 (fun f => f)
            have cB3 := k.cell cB3 (fun f => f)
            have hAw3 := hAw2.keep0 k
            have hBw3 := hBw2.keep0 k
            have Kw3 := Kw2.trans k
            clear k Kw2 hAw2 hBw2
            go_wp2_with fail
            refine (yca w3 hAw3).mono ?_
            rintro e w4 ⟨rfl, k⟩
            have cA0 := k.cell cA0 (fun f => f)
            have cA1 := k.cell cA1 (fun f => f)
            have cA2 := k.cell cA2 (fun f => f)
            have cA3 := k.cell cA3 (fun f => f)
            have cB0 := k.cell cB0 (fun f => f)
            have cB1 := k.cell cB1 (fun f => f)
            have cB2 := k.cell cB2 (fun f => f)
            have cB3 := k.cell cB3 (fun f => f)
            have hAw4 := hAw3.keep0 k
            have hBw4 := hBw3.keep0 k
            have Kw4 := Kw3.trans k
            clear k Kw3 hAw3 hBw3
            go_wp2_with fail
            refine (ycb w4 hBw4).mono ?_
            rintro e w5 ⟨rfl, k⟩
            have cA0 := k.cell cA0 (fun f => f)
            have cA1 := k.cell cA1 (fun f => f)
            have cA2 := k.cell cA2 (fun f => f)
            have cA3 := k.cell cA3 (fun f => f)
            have cB0 := k.cell cB0 (fun f => f)
            have cB1 := k.cell cB1 (fun f => f)
            have cB2 := k.cell cB2 (fun f => f)
            have cB3 := k.cell cB3 (fun f => f)
            have hAw5 := hAw4.keep0 k
            have hBw5 := hBw4.keep0 k
            have Kw5 := Kw4.trans k
            clear k Kw4 hAw4 hBw4
            go_wp2_with fail
            refine (yp w5 hAw5).mono ?_
            rintro e w6 ⟨po, pc, rfl, hP, k⟩
            have cA0 := k.cell cA0 (fun f => f)
            have cA1 := k.cell cA1 (fun f => f)
            have cA2 := k.cell cA2 (fun f => f)
            have cA3 := k.cell cA3 (fun f => f)
            have cB0 := k.cell cB0 (fun f => f)
            have cB1 := k.cell cB1 (fun f => f)
            have cB2 := k.cell cB2 (fun f => f)
            have cB3 := k.cell cB3 (fun f => f)
            have hAw6 := hAw5.keep0 k
            have hBw6 := hBw5.keep0 k
            have Kw6 := Kw5.trans k
            clear k Kw5 hAw5 hBw5
            have kP : Keep0 w6 (w6.alloc (.cells #[.slice po a.c.length pc, .bool false, .string ⟨#[]⟩, .int .u64 0] 27)) := (Keep.refl _ _).alloc _
            obtain ⟨cP0, cP1, cP2, cP3⟩ : ClkAt (w6.alloc (.cells #[.slice po a.c.length pc, .bool false, .string ⟨#[]⟩, .int .u64 0] 27)) w6.heap.size 0 ⟨a.c, false, ⟨⟨#[]⟩, 0⟩⟩ po pc := clk_new w6 27 ⟨a.c, false, ⟨⟨#[]⟩, 0⟩⟩ po pc
            have cP1 : (w6.alloc (.cells #[.slice po a.c.length pc, .bool false, .string ⟨#[]⟩, .int .u64 0] 27)).cell? ⟨w6.heap.size, 1, none⟩ = some (.bool false) := cP1
            have cP2 : (w6.alloc (.cells #[.slice po a.c.length pc, .bool false, .string ⟨#[]⟩, .int .u64 0] 27)).cell? ⟨w6.heap.size, 2, none⟩ = some (.string ⟨#[]⟩) := cP2
            have cP3 : (w6.alloc (.cells #[.slice po a.c.length pc, .bool false, .string ⟨#[]⟩, .int .u64 0] 27)).cell? ⟨w6.heap.size, 3, none⟩ = some (.int .u64 0) := cP3
            have cA0 := kP.cell cA0 (fun f => f)
            have cA1 := kP.cell cA1 (fun f => f)
            have cA2 := kP.cell cA2 (fun f => f)
            have cA3 := kP.cell cA3 (fun f => f)
            have cB0 := kP.cell cB0 (fun f => f)
            have cB1 := kP.cell cB1 (fun f => f)
            have cB2 := kP.cell cB2 (fun f => f)
            have cB3 := kP.cell cB3 (fun f => f)
            have hA9 := hAw6.keep0 kP
            have hB9 := hBw6.keep0 kP
            have hP9 := hP.keep0 kP
            have K9 := Kw6.trans kP
            clear kP hAw6 hBw6 hP Kw6
            go_wp2_with fail
            generalize (w6.alloc (.cells #[.slice po a.c.length pc, .bool false, .string ⟨#[]⟩, .int .u64 0] 27)) = w9 at *
            generalize w6.heap.size = gP at *
            have zcd := fun W (K : Keep0 w9 W) => ycd W (hA9.keep0 K)
            have zca := fun W (K : Keep0 w9 W) => yca W (hA9.keep0 K)
            have zsd := fun W (K : Keep0 w9 W) => ysd W (hA9.keep0 K) (hB9.keep0 K)
            have zsr := fun W (K : Keep0 w9 W) => ysr W (hA9.keep0 K) (hB9.keep0 K)
            have zkd := fun W (K : Keep0 w9 W) => ykd W (hA9.keep0 K)
            have zkr := fun W (K : Keep0 w9 W) => ykr W (hA9.keep0 K)
            have zvd := fun W (K : Keep0 w9 W) => yvd W (hA9.keep0 K) (hB9.keep0 K)
            have zp := fun W (K : Keep0 w9 W) => ypp po pc W (hP9.keep0 K) (hA9.keep0 K)
            clear ycd yca ysd ysr ykd yvd ypp ycb yga ygb yp ykr  hA9 hB9 hP9
            have cA0 : w9.cell? ⟨gA, 0, none⟩ = some (.slice ao a.c.length ca) := cA0
            have cA1 : w9.cell? ⟨gA, 1, none⟩ = some (.bool a.d) := cA1
            have cA2 : w9.cell? ⟨gA, 2, none⟩ = some (.string a.x.a) := cA2
            have cA3 : w9.cell? ⟨gA, 3, none⟩ = some (.int .u64 (a.x.n : Int)) := cA3
            have cB0 : w9.cell? ⟨gA + 1, 0, none⟩ = some (.slice bo b.c.length cb) := cB0
            have cB1 : w9.cell? ⟨gA + 1, 1, none⟩ = some (.bool b.d) := cB1
            have cB2 : w9.cell? ⟨gA + 1, 2, none⟩ = some (.string b.x.a) := cB2
            have cB3 : w9.cell? ⟨gA + 1, 3, none⟩ = some (.int .u64 (b.x.n : Int)) := cB3
            have cP0 : w9.cell? ⟨gP, 0, none⟩ = some (.slice po a.c.length pc) := cP0
            have cP1 : w9.cell? ⟨gP, 1, none⟩ = some (.bool false) := cP1
            have cP2 : w9.cell? ⟨gP, 2, none⟩ = some (.string ⟨#[]⟩) := cP2
            have cP3 : w9.cell? ⟨gP, 3, none⟩ = some (.int .u64 0) := cP3
            refine wp_region_held_drew (S := (fun W => W.cell? ⟨gA, 0, none⟩ = some (.slice ao a.c.length ca) ∧ W.cell? ⟨gA, 1, none⟩ = some (.bool a.d) ∧ W.cell? ⟨gA, 2, none⟩ = some (.string a.x.a) ∧ W.cell? ⟨gA, 3, none⟩ = some (.int .u64 (a.x.n : Int)) ∧ W.cell? ⟨gA + 1, 0, none⟩ = some (.slice bo b.c.length cb) ∧ W.cell? ⟨gA + 1, 1, none⟩ = some (.bool b.d) ∧ W.cell? ⟨gA + 1, 2, none⟩ = some (.string b.x.a) ∧ W.cell? ⟨gA + 1, 3, none⟩ = some (.int .u64 (b.x.n : Int)) ∧ W.cell? ⟨gP, 0, none⟩ = some (.slice po a.c.length pc) ∧ W.cell? ⟨gP, 1, none⟩ = some (.bool false) ∧ W.cell? ⟨gP, 2, none⟩ = some (.string ⟨#[]⟩) ∧ W.cell? ⟨gP, 3, none⟩ = some (.int .u64 0))) (by kernel_rfl) ⟨cA0, cA1, cA2, cA3, cB0, cB1, cB2, cB3, cP0, cP1, cP2, cP3⟩ (fun hHeld => ?_)
            refine wpAnyH_take (i := 0) (v := ?u0v) (by simp only [List.getElem?_toArray, List.getElem?_cons_zero] <;> rfl) (by kernel_rfl) (by kernel_rfl) (by kernel_rfl) (by exact fun _ _ _ h => h) (Or.inl ⟨by rfl, ?u0y⟩) hHeld ?u0r
            case u0y => intro w hSw; (try dsimp only at hSw); go_simp <;> rfl
            simp only [Act.put, List.setIfInBounds_toArray, List.set_cons_zero, List.set_cons_succ]
            refine wpAnyH_take (i := 2) (v := ?u1v) (by simp only [List.getElem?_toArray, List.getElem?_cons_succ, List.getElem?_cons_zero] <;> rfl) (by kernel_rfl) (by kernel_rfl) (by kernel_rfl) (by exact fun _ _ _ h => h) (Or.inl ⟨by rfl, ?u1y⟩) hHeld ?u1r
            case u1y => intro w hSw; (try dsimp only at hSw); go_simp <;> rfl
            simp only [Act.put, List.setIfInBounds_toArray, List.set_cons_zero, List.set_cons_succ]
            refine wpAnyH_ready (rs := [1]) (by kernel_rfl) (by simp) ?_
            refine AllReadyH.cons (by simp only [List.getElem?_toArray, List.getElem?_cons_succ, List.getElem?_cons_zero] <;> rfl) (fun K hK => ?_) AllReadyH.nil
            go_simp
            refine (zcd _ ((Keep.refl (fun _ => False) w9).drew)).mono ?_
            rintro e v1 ⟨rfl, kx⟩
            have kv1 : Keep0 w9 v1 := ((Keep.refl (fun _ => False) w9).drew).trans kx
            clear kx
            go_wp2_with fail
            refine hK.out _ _ ⟨kv1.cell cA0 (fun f => f), kv1.cell cA1 (fun f => f), kv1.cell cA2 (fun f => f), kv1.cell cA3 (fun f => f), kv1.cell cB0 (fun f => f), kv1.cell cB1 (fun f => f), kv1.cell cB2 (fun f => f), kv1.cell cB3 (fun f => f), kv1.cell cP0 (fun f => f), kv1.cell cP1 (fun f => f), kv1.cell cP2 (fun f => f), kv1.cell cP3 (fun f => f)⟩ (fun hHeld => ?_)
            clear hK K
            refine wpAnyH_ready (rs := [3]) (by kernel_rfl) (by simp) ?_
            refine AllReadyH.cons (by simp only [List.getElem?_toArray, List.getElem?_cons_succ, List.getElem?_cons_zero] <;> rfl) (fun K hK => ?_) AllReadyH.nil
            go_simp
            refine (zca _ (kv1)).mono ?_
            rintro e v2 ⟨rfl, kx⟩
            have kv2 : Keep0 w9 v2 := (kv1).trans kx
            clear kx
            go_wp2_with fail
            refine hK.out _ _ ⟨kv2.cell cA0 (fun f => f), kv2.cell cA1 (fun f => f), kv2.cell cA2 (fun f => f), kv2.cell cA3 (fun f => f), kv2.cell cB0 (fun f => f), kv2.cell cB1 (fun f => f), kv2.cell cB2 (fun f => f), kv2.cell cB3 (fun f => f), kv2.cell cP0 (fun f => f), kv2.cell cP1 (fun f => f), kv2.cell cP2 (fun f => f), kv2.cell cP3 (fun f => f)⟩ (fun hHeld => ?_)
            clear hK K
            refine wpAnyH_take (i := 4) (v := ?u2v) (by simp only [List.getElem?_toArray, List.getElem?_cons_succ, List.getElem?_cons_zero] <;> rfl) (by kernel_rfl) (by kernel_rfl) (by kernel_rfl) (by exact fun _ _ _ h => h) (Or.inl ⟨by rfl, ?u2y⟩) hHeld ?u2r
            case u2y => intro w hSw; (try dsimp only at hSw); go_simp <;> rfl
            simp only [Act.put, List.setIfInBounds_toArray, List.set_cons_zero, List.set_cons_succ]
            refine wpAnyH_take (i := 5) (v := ?u3v) (by simp only [List.getElem?_toArray, List.getElem?_cons_succ, List.getElem?_cons_zero] <;> rfl) (by kernel_rfl) (by kernel_rfl) (by kernel_rfl) (by exact fun _ _ _ h => h) (Or.inl ⟨by rfl, ?u3y⟩) hHeld ?u3r
            case u3y => intro w hSw; (try dsimp only at hSw); go_simp <;> rfl
            simp only [Act.put, List.setIfInBounds_toArray, List.set_cons_zero, List.set_cons_succ]
            refine wpAnyH_take (i := 6) (v := ?u4v) (by simp only [List.getElem?_toArray, List.getElem?_cons_succ, List.getElem?_cons_zero] <;> rfl) (by kernel_rfl) (by kernel_rfl) (by kernel_rfl) (by exact fun _ _ _ h => h) (Or.inl ⟨by rfl, ?u4y⟩) hHeld ?u4r
            case u4y => intro w hSw; (try dsimp only at hSw); go_simp <;> rfl
            simp only [Act.put, List.setIfInBounds_toArray, List.set_cons_zero, List.set_cons_succ]
            refine wpAnyH_take (i := 7) (v := ?u5v) (by simp only [List.getElem?_toArray, List.getElem?_cons_succ, List.getElem?_cons_zero] <;> rfl) (by kernel_rfl) (by kernel_rfl) (by kernel_rfl) (by exact fun _ _ _ h => h) (Or.inl ⟨by rfl, ?u5y⟩) hHeld ?u5r
            case u5y => intro w hSw; (try dsimp only at hSw); go_simp <;> rfl
            simp only [Act.put, List.setIfInBounds_toArray, List.set_cons_zero, List.set_cons_succ]
            refine wpAnyH_take (i := 9) (v := ?u6v) (by simp only [List.getElem?_toArray, List.getElem?_cons_succ, List.getElem?_cons_zero] <;> rfl) (by kernel_rfl) (by kernel_rfl) (by kernel_rfl) (by exact fun _ _ _ h => h) (Or.inl ⟨by rfl, ?u6y⟩) hHeld ?u6r
            case u6y => intro w hSw; (try dsimp only at hSw); go_simp <;> rfl
            simp only [Act.put, List.setIfInBounds_toArray, List.set_cons_zero, List.set_cons_succ]
            refine wpAnyH_take (i := 10) (v := ?u7v) (by simp only [List.getElem?_toArray, List.getElem?_cons_succ, List.getElem?_cons_zero] <;> rfl) (by kernel_rfl) (by kernel_rfl) (by kernel_rfl) (by exact fun _ _ _ h => h) (Or.inl ⟨by rfl, ?u7y⟩) hHeld ?u7r
            case u7y => intro w hSw; (try dsimp only at hSw); go_simp <;> rfl
            simp only [Act.put, List.setIfInBounds_toArray, List.set_cons_zero, List.set_cons_succ]
            refine wpAnyH_ready (rs := [8]) (by kernel_rfl) (by simp) ?_
            refine AllReadyH.cons (by simp only [List.getElem?_toArray, List.getElem?_cons_succ, List.getElem?_cons_zero] <;> rfl) (fun K hK => ?_) AllReadyH.nil
            go_simp
            refine (zsd _ (kv2)).mono ?_
            rintro e v3 ⟨rfl, kx⟩
            have kv3 : Keep0 w9 v3 := (kv2).trans kx
            clear kx
            go_wp2_with fail
            refine hK.out _ _ ⟨kv3.cell cA0 (fun f => f), kv3.cell cA1 (fun f => f), kv3.cell cA2 (fun f => f), kv3.cell cA3 (fun f => f), kv3.cell cB0 (fun f => f), kv3.cell cB1 (fun f => f), kv3.cell cB2 (fun f => f), kv3.cell cB3 (fun f => f), kv3.cell cP0 (fun f => f), kv3.cell cP1 (fun f => f), kv3.cell cP2 (fun f => f), kv3.cell cP3 (fun f => f)⟩ (fun hHeld => ?_)
            clear hK K
            refine wpAnyH_ready (rs := [11]) (by kernel_rfl) (by simp) ?_
            refine AllReadyH.cons (by simp only [List.getElem?_toArray, List.getElem?_cons_succ, List.getElem?_cons_zero] <;> rfl) (fun K hK => ?_) AllReadyH.nil
            go_simp
            refine (zsr _ (kv3)).mono ?_
            rintro e v4 ⟨rfl, kx⟩
            have kv4 : Keep0 w9 v4 := (kv3).trans kx
            clear kx
            go_wp2_with fail
            refine hK.out _ _ ⟨kv4.cell cA0 (fun f => f), kv4.cell cA1 (fun f => f), kv4.cell cA2 (fun f => f), kv4.cell cA3 (fun f => f), kv4.cell cB0 (fun f => f), kv4.cell cB1 (fun f => f), kv4.cell cB2 (fun f => f), kv4.cell cB3 (fun f => f), kv4.cell cP0 (fun f => f), kv4.cell cP1 (fun f => f), kv4.cell cP2 (fun f => f), kv4.cell cP3 (fun f => f)⟩ (fun hHeld => ?_)
            clear hK K
            refine wpAnyH_take (i := 12) (v := ?u8v) (by simp only [List.getElem?_toArray, List.getElem?_cons_succ, List.getElem?_cons_zero] <;> rfl) (by kernel_rfl) (by kernel_rfl) (by kernel_rfl) (by exact fun _ _ _ h => h) (Or.inl ⟨by rfl, ?u8y⟩) hHeld ?u8r
            case u8y => intro w hSw; (try dsimp only at hSw); go_simp <;> rfl
            simp only [Act.put, List.setIfInBounds_toArray, List.set_cons_zero, List.set_cons_succ]
            refine wpAnyH_take (i := 13) (v := ?u9v) (by simp only [List.getElem?_toArray, List.getElem?_cons_succ, List.getElem?_cons_zero] <;> rfl) (by kernel_rfl) (by kernel_rfl) (by kernel_rfl) (by exact fun _ _ _ h => h) (Or.inl ⟨by rfl, ?u9y⟩) hHeld ?u9r
            case u9y => intro w hSw; (try dsimp only at hSw); go_simp <;> rfl
            simp only [Act.put, List.setIfInBounds_toArray, List.set_cons_zero, List.set_cons_succ]
            refine wpAnyH_take (i := 14) (v := ?u10v) (by simp only [List.getElem?_toArray, List.getElem?_cons_succ, List.getElem?_cons_zero] <;> rfl) (by kernel_rfl) (by kernel_rfl) (by kernel_rfl) (by exact fun _ _ _ h => h) (Or.inl ⟨by rfl, ?u10y⟩) hHeld ?u10r
            case u10y => intro w hSw; (try dsimp only at hSw); go_simp <;> rfl
            simp only [Act.put, List.setIfInBounds_toArray, List.set_cons_zero, List.set_cons_succ]
            refine wpAnyH_take (i := 15) (v := ?u11v) (by simp only [List.getElem?_toArray, List.getElem?_cons_succ, List.getElem?_cons_zero] <;> rfl) (by kernel_rfl) (by kernel_rfl) (by kernel_rfl) (by exact fun _ _ _ h => h) (Or.inl ⟨by rfl, ?u11y⟩) hHeld ?u11r
            case u11y => intro w hSw; (try dsimp only at hSw); go_simp <;> rfl
            simp only [Act.put, List.setIfInBounds_toArray, List.set_cons_zero, List.set_cons_succ]
            refine wpAnyH_take (i := 16) (v := ?u12v) (by simp only [List.getElem?_toArray, List.getElem?_cons_succ, List.getElem?_cons_zero] <;> rfl) (by kernel_rfl) (by kernel_rfl) (by kernel_rfl) (by exact fun _ _ _ h => h) (Or.inl ⟨by rfl, ?u12y⟩) hHeld ?u12r
            case u12y => intro w hSw; (try dsimp only at hSw); go_simp <;> rfl
            simp only [Act.put, List.setIfInBounds_toArray, List.set_cons_zero, List.set_cons_succ]
            refine wpAnyH_take (i := 17) (v := ?u13v) (by simp only [List.getElem?_toArray, List.getElem?_cons_succ, List.getElem?_cons_zero] <;> rfl) (by kernel_rfl) (by kernel_rfl) (by kernel_rfl) (by exact fun _ _ _ h => h) (Or.inl ⟨by rfl, ?u13y⟩) hHeld ?u13r
            case u13y => intro w hSw; (try dsimp only at hSw); go_simp <;> rfl
            simp only [Act.put, List.setIfInBounds_toArray, List.set_cons_zero, List.set_cons_succ]
            refine wpAnyH_take (i := 19) (v := ?u14v) (by simp only [List.getElem?_toArray, List.getElem?_cons_succ, List.getElem?_cons_zero] <;> rfl) (by kernel_rfl) (by kernel_rfl) (by kernel_rfl) (by exact fun _ _ _ h => h) (Or.inl ⟨by rfl, ?u14y⟩) hHeld ?u14r
            case u14y => intro w hSw; (try dsimp only at hSw); go_simp <;> rfl
            simp only [Act.put, List.setIfInBounds_toArray, List.set_cons_zero, List.set_cons_succ]
            refine wpAnyH_ready (rs := [18]) (by kernel_rfl) (by simp) ?_
            refine AllReadyH.cons (by simp only [List.getElem?_toArray, List.getElem?_cons_succ, List.getElem?_cons_zero] <;> rfl) (fun K hK => ?_) AllReadyH.nil
            go_simp
            refine (zkd _ (kv4)).mono ?_
            rintro e v5 ⟨rfl, kx⟩
            have kv5 : Keep0 w9 v5 := (kv4).trans kx
            clear kx
            go_wp2_with fail
            refine hK.out _ _ ⟨kv5.cell cA0 (fun f => f), kv5.cell cA1 (fun f => f), kv5.cell cA2 (fun f => f), kv5.cell cA3 (fun f => f), kv5.cell cB0 (fun f => f), kv5.cell cB1 (fun f => f), kv5.cell cB2 (fun f => f), kv5.cell cB3 (fun f => f), kv5.cell cP0 (fun f => f), kv5.cell cP1 (fun f => f), kv5.cell cP2 (fun f => f), kv5.cell cP3 (fun f => f)⟩ (fun hHeld => ?_)
            clear hK K
            refine wpAnyH_take (i := 20) (v := ?u15v) (by simp only [List.getElem?_toArray, List.getElem?_cons_succ, List.getElem?_cons_zero] <;> rfl) (by kernel_rfl) (by kernel_rfl) (by kernel_rfl) (by exact fun _ _ _ h => h) (Or.inl ⟨by rfl, ?u15y⟩) hHeld ?u15r
            case u15y => intro w hSw; (try dsimp only at hSw); go_simp <;> rfl
            simp only [Act.put, List.setIfInBounds_toArray, List.set_cons_zero, List.set_cons_succ]
            refine wpAnyH_take (i := 21) (v := ?u16v) (by simp only [List.getElem?_toArray, List.getElem?_cons_succ, List.getElem?_cons_zero] <;> rfl) (by kernel_rfl) (by kernel_rfl) (by kernel_rfl) (by exact fun _ _ _ h => h) (Or.inl ⟨by rfl, ?u16y⟩) hHeld ?u16r
            case u16y => intro w hSw; (try dsimp only at hSw); go_simp <;> rfl
            simp only [Act.put, List.setIfInBounds_toArray, List.set_cons_zero, List.set_cons_succ]
            refine wpAnyH_take (i := 22) (v := ?u17v) (by simp only [List.getElem?_toArray, List.getElem?_cons_succ, List.getElem?_cons_zero] <;> rfl) (by kernel_rfl) (by kernel_rfl) (by kernel_rfl) (by exact fun _ _ _ h => h) (Or.inl ⟨by rfl, ?u17y⟩) hHeld ?u17r
            case u17y => intro w hSw; (try dsimp only at hSw); go_simp <;> rfl
            simp only [Act.put, List.setIfInBounds_toArray, List.set_cons_zero, List.set_cons_succ]
            refine wpAnyH_take (i := 23) (v := ?u18v) (by simp only [List.getElem?_toArray, List.getElem?_cons_succ, List.getElem?_cons_zero] <;> rfl) (by kernel_rfl) (by kernel_rfl) (by kernel_rfl) (by exact fun _ _ _ h => h) (Or.inl ⟨by rfl, ?u18y⟩) hHeld ?u18r
            case u18y => intro w hSw; (try dsimp only at hSw); go_simp <;> rfl
            simp only [Act.put, List.setIfInBounds_toArray, List.set_cons_zero, List.set_cons_succ]
            refine wpAnyH_ready (rs := [24]) (by kernel_rfl) (by simp) ?_
            refine AllReadyH.cons (by simp only [List.getElem?_toArray, List.getElem?_cons_succ, List.getElem?_cons_zero] <;> rfl) (fun K hK => ?_) AllReadyH.nil
            go_simp
            refine (zkr _ (kv5)).mono ?_
            rintro e v6 ⟨rfl, kx⟩
            have kv6 : Keep0 w9 v6 := (kv5).trans kx
            clear kx
            go_wp2_with fail
            refine hK.out _ _ ⟨kv6.cell cA0 (fun f => f), kv6.cell cA1 (fun f => f), kv6.cell cA2 (fun f => f), kv6.cell cA3 (fun f => f), kv6.cell cB0 (fun f => f), kv6.cell cB1 (fun f => f), kv6.cell cB2 (fun f => f), kv6.cell cB3 (fun f => f), kv6.cell cP0 (fun f => f), kv6.cell cP1 (fun f => f), kv6.cell cP2 (fun f => f), kv6.cell cP3 (fun f => f)⟩ (fun hHeld => ?_)
            clear hK K
            refine wpAnyH_take (i := 25) (v := ?u19v) (by simp only [List.getElem?_toArray, List.getElem?_cons_succ, List.getElem?_cons_zero] <;> rfl) (by kernel_rfl) (by kernel_rfl) (by kernel_rfl) (by exact fun _ _ _ h => h) (Or.inl ⟨by rfl, ?u19y⟩) hHeld ?u19r
            case u19y => intro w hSw; (try dsimp only at hSw); go_simp <;> rfl
            simp only [Act.put, List.setIfInBounds_toArray, List.set_cons_zero, List.set_cons_succ]
            refine wpAnyH_take (i := 26) (v := ?u20v) (by simp only [List.getElem?_toArray, List.getElem?_cons_succ, List.getElem?_cons_zero] <;> rfl) (by kernel_rfl) (by kernel_rfl) (by kernel_rfl) (by exact fun _ _ _ h => h) (Or.inl ⟨by rfl, ?u20y⟩) hHeld ?u20r
            case u20y => intro w hSw; (try dsimp only at hSw); go_simp <;> rfl
            simp only [Act.put, List.setIfInBounds_toArray, List.set_cons_zero, List.set_cons_succ]
            refine wpAnyH_take (i := 27) (v := ?u21v) (by simp only [List.getElem?_toArray, List.getElem?_cons_succ, List.getElem?_cons_zero] <;> rfl) (by kernel_rfl) (by kernel_rfl) (by kernel_rfl) (by exact fun _ _ _ h => h) (Or.inl ⟨by rfl, ?u21y⟩) hHeld ?u21r
            case u21y => intro w hSw; (try dsimp only at hSw); go_simp <;> rfl
            simp only [Act.put, List.setIfInBounds_toArray, List.set_cons_zero, List.set_cons_succ]
            refine wpAnyH_take (i := 28) (v := ?u22v) (by simp only [List.getElem?_toArray, List.getElem?_cons_succ, List.getElem?_cons_zero] <;> rfl) (by kernel_rfl) (by kernel_rfl) (by kernel_rfl) (by exact fun _ _ _ h => h) (Or.inl ⟨by rfl, ?u22y⟩) hHeld ?u22r
            case u22y => intro w hSw; (try dsimp only at hSw); go_simp <;> rfl
            simp only [Act.put, List.setIfInBounds_toArray, List.set_cons_zero, List.set_cons_succ]
            refine wpAnyH_take (i := 29) (v := ?u23v) (by simp only [List.getElem?_toArray, List.getElem?_cons_succ, List.getElem?_cons_zero] <;> rfl) (by kernel_rfl) (by kernel_rfl) (by kernel_rfl) (by exact fun _ _ _ h => h) (Or.inl ⟨by rfl, ?u23y⟩) hHeld ?u23r
            case u23y => intro w hSw; (try dsimp only at hSw); go_simp <;> rfl
            simp only [Act.put, List.setIfInBounds_toArray, List.set_cons_zero, List.set_cons_succ]
            refine wpAnyH_take (i := 30) (v := ?u24v) (by simp only [List.getElem?_toArray, List.getElem?_cons_succ, List.getElem?_cons_zero] <;> rfl) (by kernel_rfl) (by kernel_rfl) (by kernel_rfl) (by exact fun _ _ _ h => h) (Or.inl ⟨by rfl, ?u24y⟩) hHeld ?u24r
            case u24y => intro w hSw; (try dsimp only at hSw); go_simp <;> rfl
            simp only [Act.put, List.setIfInBounds_toArray, List.set_cons_zero, List.set_cons_succ]
            refine wpAnyH_take (i := 32) (v := ?u25v) (by simp only [List.getElem?_toArray, List.getElem?_cons_succ, List.getElem?_cons_zero] <;> rfl) (by kernel_rfl) (by kernel_rfl) (by kernel_rfl) (by exact fun _ _ _ h => h) (Or.inl ⟨by rfl, ?u25y⟩) hHeld ?u25r
            case u25y => intro w hSw; (try dsimp only at hSw); go_simp <;> rfl
            simp only [Act.put, List.setIfInBounds_toArray, List.set_cons_zero, List.set_cons_succ]
            refine wpAnyH_ready (rs := [31]) (by kernel_rfl) (by simp) ?_
            refine AllReadyH.cons (by simp only [List.getElem?_toArray, List.getElem?_cons_succ, List.getElem?_cons_zero] <;> rfl) (fun K hK => ?_) AllReadyH.nil
            go_simp
            refine (zvd _ (kv6)).mono ?_
            rintro e v7 ⟨rfl, kx⟩
            have kv7 : Keep0 w9 v7 := (kv6).trans kx
            clear kx
            go_wp2_with fail
            refine hK.out _ _ ⟨kv7.cell cA0 (fun f => f), kv7.cell cA1 (fun f => f), kv7.cell cA2 (fun f => f), kv7.cell cA3 (fun f => f), kv7.cell cB0 (fun f => f), kv7.cell cB1 (fun f => f), kv7.cell cB2 (fun f => f), kv7.cell cB3 (fun f => f), kv7.cell cP0 (fun f => f), kv7.cell cP1 (fun f => f), kv7.cell cP2 (fun f => f), kv7.cell cP3 (fun f => f)⟩ (fun hHeld => ?_)
            clear hK K
            refine wpAnyH_take (i := 33) (v := ?u26v) (by simp only [List.getElem?_toArray, List.getElem?_cons_succ, List.getElem?_cons_zero] <;> rfl) (by kernel_rfl) (by kernel_rfl) (by kernel_rfl) (by exact fun _ _ _ h => h) (Or.inl ⟨by rfl, ?u26y⟩) hHeld ?u26r
            case u26y => intro w hSw; (try dsimp only at hSw); go_simp <;> rfl
            simp only [Act.put, List.setIfInBounds_toArray, List.set_cons_zero, List.set_cons_succ]
            refine wpAnyH_take (i := 34) (v := undef) (by simp only [List.getElem?_toArray, List.getElem?_cons_succ, List.getElem?_cons_zero] <;> rfl) (by kernel_rfl) (by kernel_rfl) (by kernel_rfl) (by exact fun _ _ _ h => h) (Or.inr ⟨by rfl, rfl⟩) hHeld ?u27r
            simp only [Act.put, List.setIfInBounds_toArray, List.set_cons_zero, List.set_cons_succ]
            refine wpAnyH_take (i := 35) (v := undef) (by simp only [List.getElem?_toArray, List.getElem?_cons_succ, List.getElem?_cons_zero] <;> rfl) (by kernel_rfl) (by kernel_rfl) (by kernel_rfl) (by exact fun _ _ _ h => h) (Or.inr ⟨by rfl, rfl⟩) hHeld ?u28r
            simp only [Act.put, List.setIfInBounds_toArray, List.set_cons_zero, List.set_cons_succ]
            refine wpAnyH_ready (rs := [36]) (by kernel_rfl) (by simp) ?_
            refine AllReadyH.cons (by simp only [List.getElem?_toArray, List.getElem?_cons_succ, List.getElem?_cons_zero] <;> rfl) (fun K hK => ?_) AllReadyH.nil
            go_simp
            refine hK.out _ _ hHeld (fun hHeld => ?_)
            clear hK K
            refine wpAnyH_take (i := 37) (v := ?u29v) (by simp only [List.getElem?_toArray, List.getElem?_cons_succ, List.getElem?_cons_zero] <;> rfl) (by kernel_rfl) (by kernel_rfl) (by kernel_rfl) (by exact fun _ _ _ h => h) (Or.inl ⟨by rfl, ?u29y⟩) hHeld ?u29r
            case u29y => intro w hSw; (try dsimp only at hSw); go_simp <;> rfl
            simp only [Act.put, List.setIfInBounds_toArray, List.set_cons_zero, List.set_cons_succ]
            refine wpAnyH_take (i := 38) (v := ?u30v) (by simp only [List.getElem?_toArray, List.getElem?_cons_succ, List.getElem?_cons_zero] <;> rfl) (by kernel_rfl) (by kernel_rfl) (by kernel_rfl) (by exact fun _ _ _ h => h) (Or.inl ⟨by rfl, ?u30y⟩) hHeld ?u30r
            case u30y => intro w hSw; (try dsimp only at hSw); go_simp <;> rfl
            simp only [Act.put, List.setIfInBounds_toArray, List.set_cons_zero, List.set_cons_succ]
            refine wpAnyH_take (i := 39) (v := ?u31v) (by simp only [List.getElem?_toArray, List.getElem?_cons_succ, List.getElem?_cons_zero] <;> rfl) (by kernel_rfl) (by kernel_rfl) (by kernel_rfl) (by exact fun _ _ _ h => h) (Or.inl ⟨by rfl, ?u31y⟩) hHeld ?u31r
            case u31y => intro w hSw; (try dsimp only at hSw); go_simp <;> rfl
            simp only [Act.put, List.setIfInBounds_toArray, List.set_cons_zero, List.set_cons_succ]
            refine wpAnyH_take (i := 40) (v := ?u32v) (by simp only [List.getElem?_toArray, List.getElem?_cons_succ, List.getElem?_cons_zero] <;> rfl) (by kernel_rfl) (by kernel_rfl) (by kernel_rfl) (by exact fun _ _ _ h => h) (Or.inl ⟨by rfl, ?u32y⟩) hHeld ?u32r
            case u32y => intro w hSw; (try dsimp only at hSw); go_simp <;> rfl
            simp only [Act.put, List.setIfInBounds_toArray, List.set_cons_zero, List.set_cons_succ]
            refine wpAnyH_take (i := 41) (v := ?u33v) (by simp only [List.getElem?_toArray, List.getElem?_cons_succ, List.getElem?_cons_zero] <;> rfl) (by kernel_rfl) (by kernel_rfl) (by kernel_rfl) (by exact fun _ _ _ h => h) (Or.inl ⟨by rfl, ?u33y⟩) hHeld ?u33r
            case u33y => intro w hSw; (try dsimp only at hSw); go_simp <;> rfl
            simp only [Act.put, List.setIfInBounds_toArray, List.set_cons_zero, List.set_cons_succ]
            refine wpAnyH_take (i := 42) (v := ?u34v) (by simp only [List.getElem?_toArray, List.getElem?_cons_succ, List.getElem?_cons_zero] <;> rfl) (by kernel_rfl) (by kernel_rfl) (by kernel_rfl) (by exact fun _ _ _ h => h) (Or.inl ⟨by rfl, ?u34y⟩) hHeld ?u34r
            case u34y => intro w hSw; (try dsimp only at hSw); go_simp <;> rfl
            simp only [Act.put, List.setIfInBounds_toArray, List.set_cons_zero, List.set_cons_succ]
            refine wpAnyH_take (i := 43) (v := ?u35v) (by simp only [List.getElem?_toArray, List.getElem?_cons_succ, List.getElem?_cons_zero] <;> rfl) (by kernel_rfl) (by kernel_rfl) (by kernel_rfl) (by exact fun _ _ _ h => h) (Or.inl ⟨by rfl, ?u35y⟩) hHeld ?u35r
            case u35y => intro w hSw; (try dsimp only at hSw); go_simp <;> rfl
            simp only [Act.put, List.setIfInBounds_toArray, List.set_cons_zero, List.set_cons_succ]
            refine wpAnyH_take (i := 44) (v := ?u36v) (by simp only [List.getElem?_toArray, List.getElem?_cons_succ, List.getElem?_cons_zero] <;> rfl) (by kernel_rfl) (by kernel_rfl) (by kernel_rfl) (by exact fun _ _ _ h => h) (Or.inl ⟨by rfl, ?u36y⟩) hHeld ?u36r
            case u36y => intro w hSw; (try dsimp only at hSw); go_simp <;> rfl
            simp only [Act.put, List.setIfInBounds_toArray, List.set_cons_zero, List.set_cons_succ]
            refine wpAnyH_ready (rs := [45]) (by kernel_rfl) (by simp) ?_
            refine AllReadyH.cons (by simp only [List.getElem?_toArray, List.getElem?_cons_succ, List.getElem?_cons_zero] <;> rfl) (fun K hK => ?_) AllReadyH.nil
            go_simp
            refine (zp _ (kv7)).mono ?_
            rintro e v8 ⟨rfl, kx⟩
            have kv8 : Keep0 w9 v8 := (kv7).trans kx
            clear kx
            go_wp2_with fail
            refine hK.out _ _ ⟨kv8.cell cA0 (fun f => f), kv8.cell cA1 (fun f => f), kv8.cell cA2 (fun f => f), kv8.cell cA3 (fun f => f), kv8.cell cB0 (fun f => f), kv8.cell cB1 (fun f => f), kv8.cell cB2 (fun f => f), kv8.cell cB3 (fun f => f), kv8.cell cP0 (fun f => f), kv8.cell cP1 (fun f => f), kv8.cell cP2 (fun f => f), kv8.cell cP3 (fun f => f)⟩ (fun hHeld => ?_)
            clear hK K
            refine wpAnyH_take (i := 46) (v := ?u37v) (by simp only [List.getElem?_toArray, List.getElem?_cons_succ, List.getElem?_cons_zero] <;> rfl) (by kernel_rfl) (by kernel_rfl) (by kernel_rfl) (by exact fun _ _ _ h => h) (Or.inl ⟨by rfl, ?u37y⟩) hHeld ?u37r
            case u37y => intro w hSw; (try dsimp only at hSw); go_simp <;> rfl
            simp only [Act.put, List.setIfInBounds_toArray, List.set_cons_zero, List.set_cons_succ]
            refine wpAnyH_take (i := 47) (v := ?u38v) (by simp only [List.getElem?_toArray, List.getElem?_cons_succ, List.getElem?_cons_zero] <;> rfl) (by kernel_rfl) (by kernel_rfl) (by kernel_rfl) (by exact fun _ _ _ h => h) (Or.inl ⟨by rfl, ?u38y⟩) hHeld ?u38r
            case u38y => intro w hSw; (try dsimp only at hSw); go_simp <;> rfl
            simp only [Act.put, List.setIfInBounds_toArray, List.set_cons_zero, List.set_cons_succ]
            refine wpAnyH_done (by kernel_rfl) ?_ _
            have KF := K9.trans kv8
            clear hHeld K9
            go_wp2
            go_ret
            exact ⟨rfl, KF⟩
        · have hr : kRight a b = false := by unfold kRight; rw [beq_eq_false_iff_ne.2 ha, Bool.false_and]
          have e1 : (kCheck a == 0) = false := beq_eq_false_iff_ne.2 ha
          rw [e1, Bool.false_and] at ykd
          rw [hr, Bool.false_and] at yvd
          clear ha hr
          generalize kSame a b = SM at *
          generalize kCheck a = CA at *
          have kB : Keep0 w ((w.alloc (.cells #[.slice ao a.c.length ca, .bool a.d, .string a.x.a, .int .u64 (a.x.n : Int)] 27)).alloc (.cells #[.slice bo b.c.length cb, .bool b.d, .string b.x.a, .int .u64 (b.x.n : Int)] 27)) := ((Keep.refl _ w).alloc _).alloc _
          have k0 : Keep0 (w.alloc (.cells #[.slice ao a.c.length ca, .bool a.d, .string a.x.a, .int .u64 (a.x.n : Int)] 27)) ((w.alloc (.cells #[.slice ao a.c.length ca, .bool a.d, .string a.x.a, .int .u64 (a.x.n : Int)] 27)).alloc (.cells #[.slice bo b.c.length cb, .bool b.d, .string b.x.a, .int .u64 (b.x.n : Int)] 27)) := (Keep.refl _ _).alloc _
          have hX : ClkAt ((w.alloc (.cells #[.slice ao a.c.length ca, .bool a.d, .string a.x.a, .int .u64 (a.x.n : Int)] 27)).alloc (.cells #[.slice bo b.c.length cb, .bool b.d, .string b.x.a, .int .u64 (b.x.n : Int)] 27)) w.heap.size 0 a ao ca := (clk_new w 27 a ao ca).keep0 k0
          have hZ : ClkAt ((w.alloc (.cells #[.slice ao a.c.length ca, .bool a.d, .string a.x.a, .int .u64 (a.x.n : Int)] 27)).alloc (.cells #[.slice bo b.c.length cb, .bool b.d, .string b.x.a, .int .u64 (b.x.n : Int)] 27)) (w.heap.size + 1) 0 b bo cb := by
            have := clk_new (w.alloc (.cells #[.slice ao a.c.length ca, .bool a.d, .string a.x.a, .int .u64 (a.x.n : Int)] 27)) 27 b bo cb
            rw [World.size_alloc] at this
            exact this
          have yw := awake12 V ((w.alloc (.cells #[.slice ao a.c.length ca, .bool a.d, .string a.x.a, .int .u64 (a.x.n : Int)] 27)).alloc (.cells #[.slice bo b.c.length cb, .bool b.d, .string b.x.a, .int .u64 (b.x.n : Int)] 27))
          have hA2 := hA.keep0 kB
          have hB2 := hB.keep0 kB
          clear hA hB k0
          clear hga hgb la lb la1 lb1 hl okA okB fa fb hs hn
          go_enter Try.func3, Try.ntmps3
          go_wp2_with fail
          generalize ((w.alloc (.cells #[.slice ao a.c.length ca, .bool a.d, .string a.x.a, .int .u64 (a.x.n : Int)] 27)).alloc (.cells #[.slice bo b.c.length cb, .bool b.d, .string b.x.a, .int .u64 (b.x.n : Int)] 27)) = WB at *
          generalize w.heap.size = gA at *
          refine yw.mono ?_
          rintro e w1 ⟨rfl, k1⟩
          have K1 := kB.trans k1
          obtain ⟨cA0, cA1, cA2, cA3⟩ := hX.keep0 k1
          obtain ⟨cB0, cB1, cB2, cB3⟩ := hZ.keep0 k1
          have hA1 := hA2.keep0 k1
          have hB1 := hB2.keep0 k1
          clear yw kB k1 hX hZ hA2 hB2

          go_wp2_with fail
          refine (yga w1 hA1).mono ?_
          rintro e w2 ⟨rfl, k⟩
          have cA0 := k.cell cA0 (fun f => f)
          have cA1 := k.cell cA1 (fun f => f)
          have cA2 := k.cell cA2 (fun f => f)
          have cA3 := k.cell cA3 (fun f => f)
          have cB0 := k.cell cB0 (fun f => f)
          have cB1 := k.cell cB1 (fun f => f)
          have cB2 := k.cell cB2 (fun f => f)
          have cB3 := k.cell cB3 (fun f => f)
          have hAw2 := hA1.keep0 k
          have hBw2 := hB1.keep0 k
          have Kw2 := K1.trans k
          clear k K1 hA1 hB1
          go_wp2_with fail
          refine (ygb w2 hBw2).mono ?_
          rintro e w3 ⟨rfl, k⟩
          have cA0 := k.cell cA0 (fun f => f)
          have cA1 := k.cell cA1 (fun f => f)
          have cA2 := k.cell cA2 (fun f => f)
          have cA3 := k.cell cA3 (fun f => f)
          have cB0 := k.cell cB0 (fun f => f)
          have cB1 := k.cell cB1 (fun f => f)
          have cB2 := k.cell cB2 (fun f => f)
          have cB3 := k.cell cB3 (fun f => f)
          have hAw3 := hAw2.keep0 k
          have hBw3 := hBw2.keep0 k
          have Kw3 := Kw2.trans k
          clear k Kw2 hAw2 hBw2
          go_wp2_with fail
          refine (yca w3 hAw3).mono ?_
          rintro e w4 ⟨rfl, k⟩
          have cA0 := k.cell cA0 (fun f => f)
          have cA1 := k.cell cA1 (fun f => f)
          have cA2 := k.cell cA2 (fun f => f)
          have cA3 := k.cell cA3 (fun f => f)
          have cB0 := k.cell cB0 (fun f => f)
          have cB1 := k.cell cB1 (fun f => f)
          have cB2 := k.cell cB2 (fun f => f)
          have cB3 := k.cell cB3 (fun f => f)
          have hAw4 := hAw3.keep0 k
          have hBw4 := hBw3.keep0 k
          have Kw4 := Kw3.trans k
          clear k Kw3 hAw3 hBw3
          go_wp2_with fail
          refine (yp w4 hAw4).mono ?_
          rintro e w6 ⟨po, pc, rfl, hP, k⟩
          have cA0 := k.cell cA0 (fun f => f)
          have cA1 := k.cell cA1 (fun f => f)
          have cA2 := k.cell cA2 (fun f => f)
          have cA3 := k.cell cA3 (fun f => f)
          have cB0 := k.cell cB0 (fun f => f)
          have cB1 := k.cell cB1 (fun f => f)
          have cB2 := k.cell cB2 (fun f => f)
          have cB3 := k.cell cB3 (fun f => f)
          have hAw6 := hAw4.keep0 k
          have hBw6 := hBw4.keep0 k
          have Kw6 := Kw4.trans k
          clear k Kw4 hAw4 hBw4
          have kP : Keep0 w6 (w6.alloc (.cells #[.slice po a.c.length pc, .bool false, .string ⟨#[]⟩, .int .u64 0] 27)) := (Keep.refl _ _).alloc _
          obtain ⟨cP0, cP1, cP2, cP3⟩ : ClkAt (w6.alloc (.cells #[.slice po a.c.length pc, .bool false, .string ⟨#[]⟩, .int .u64 0] 27)) w6.heap.size 0 ⟨a.c, false, ⟨⟨#[]⟩, 0⟩⟩ po pc := clk_new w6 27 ⟨a.c, false, ⟨⟨#[]⟩, 0⟩⟩ po pc
          have cP1 : (w6.alloc (.cells #[.slice po a.c.length pc, .bool false, .string ⟨#[]⟩, .int .u64 0] 27)).cell? ⟨w6.heap.size, 1, none⟩ = some (.bool false) := cP1
          have cP2 : (w6.alloc (.cells #[.slice po a.c.length pc, .bool false, .string ⟨#[]⟩, .int .u64 0] 27)).cell? ⟨w6.heap.size, 2, none⟩ = some (.string ⟨#[]⟩) := cP2
          have cP3 : (w6.alloc (.cells #[.slice po a.c.length pc, .bool false, .string ⟨#[]⟩, .int .u64 0] 27)).cell? ⟨w6.heap.size, 3, none⟩ = some (.int .u64 0) := cP3
          have cA0 := kP.cell cA0 (fun f => f)
          have cA1 := kP.cell cA1 (fun f => f)
          have cA2 := kP.cell cA2 (fun f => f)
          have cA3 := kP.cell cA3 (fun f => f)
          have cB0 := kP.cell cB0 (fun f => f)
          have cB1 := kP.cell cB1 (fun f => f)
          have cB2 := kP.cell cB2 (fun f => f)
          have cB3 := kP.cell cB3 (fun f => f)
          have hA9 := hAw6.keep0 kP
          have hB9 := hBw6.keep0 kP
          have hP9 := hP.keep0 kP
          have K9 := Kw6.trans kP
          clear kP hAw6 hBw6 hP Kw6
          go_wp2_with fail
          generalize (w6.alloc (.cells #[.slice po a.c.length pc, .bool false, .string ⟨#[]⟩, .int .u64 0] 27)) = w9 at *
          generalize w6.heap.size = gP at *
          have zcd := fun W (K : Keep0 w9 W) => ycd W (hA9.keep0 K)
          have zca := fun W (K : Keep0 w9 W) => yca W (hA9.keep0 K)
          have zsd := fun W (K : Keep0 w9 W) => ysd W (hA9.keep0 K) (hB9.keep0 K)
          have zsr := fun W (K : Keep0 w9 W) => ysr W (hA9.keep0 K) (hB9.keep0 K)
          have zkd := fun W (K : Keep0 w9 W) => ykd W (hA9.keep0 K)
          have zvd := fun W (K : Keep0 w9 W) => yvd W (hA9.keep0 K) (hB9.keep0 K)
          have zp := fun W (K : Keep0 w9 W) => ypp po pc W (hP9.keep0 K) (hA9.keep0 K)
          clear ycd yca ysd ysr ykd yvd ypp ycb yga ygb yp  hA9 hB9 hP9
          have cA0 : w9.cell? ⟨gA, 0, none⟩ = some (.slice ao a.c.length ca) := cA0
          have cA1 : w9.cell? ⟨gA, 1, none⟩ = some (.bool a.d) := cA1
          have cA2 : w9.cell? ⟨gA, 2, none⟩ = some (.string a.x.a) := cA2
          have cA3 : w9.cell? ⟨gA, 3, none⟩ = some (.int .u64 (a.x.n : Int)) := cA3
          have cB0 : w9.cell? ⟨gA + 1, 0, none⟩ = some (.slice bo b.c.length cb) := cB0
          have cB1 : w9.cell? ⟨gA + 1, 1, none⟩ = some (.bool b.d) := cB1
          have cB2 : w9.cell? ⟨gA + 1, 2, none⟩ = some (.string b.x.a) := cB2
          have cB3 : w9.cell? ⟨gA + 1, 3, none⟩ = some (.int .u64 (b.x.n : Int)) := cB3
          have cP0 : w9.cell? ⟨gP, 0, none⟩ = some (.slice po a.c.length pc) := cP0
          have cP1 : w9.cell? ⟨gP, 1, none⟩ = some (.bool false) := cP1
          have cP2 : w9.cell? ⟨gP, 2, none⟩ = some (.string ⟨#[]⟩) := cP2
          have cP3 : w9.cell? ⟨gP, 3, none⟩ = some (.int .u64 0) := cP3
          refine wp_region_held_drew (S := (fun W => W.cell? ⟨gA, 0, none⟩ = some (.slice ao a.c.length ca) ∧ W.cell? ⟨gA, 1, none⟩ = some (.bool a.d) ∧ W.cell? ⟨gA, 2, none⟩ = some (.string a.x.a) ∧ W.cell? ⟨gA, 3, none⟩ = some (.int .u64 (a.x.n : Int)) ∧ W.cell? ⟨gA + 1, 0, none⟩ = some (.slice bo b.c.length cb) ∧ W.cell? ⟨gA + 1, 1, none⟩ = some (.bool b.d) ∧ W.cell? ⟨gA + 1, 2, none⟩ = some (.string b.x.a) ∧ W.cell? ⟨gA + 1, 3, none⟩ = some (.int .u64 (b.x.n : Int)) ∧ W.cell? ⟨gP, 0, none⟩ = some (.slice po a.c.length pc) ∧ W.cell? ⟨gP, 1, none⟩ = some (.bool false) ∧ W.cell? ⟨gP, 2, none⟩ = some (.string ⟨#[]⟩) ∧ W.cell? ⟨gP, 3, none⟩ = some (.int .u64 0))) (by kernel_rfl) ⟨cA0, cA1, cA2, cA3, cB0, cB1, cB2, cB3, cP0, cP1, cP2, cP3⟩ (fun hHeld => ?_)
          refine wpAnyH_take (i := 0) (v := ?y0v) (by simp only [List.getElem?_toArray, List.getElem?_cons_zero] <;> rfl) (by kernel_rfl) (by kernel_rfl) (by kernel_rfl) (by exact fun _ _ _ h => h) (Or.inl ⟨by rfl, ?y0y⟩) hHeld ?y0r
          case y0y => intro w hSw; (try dsimp only at hSw); go_simp <;> rfl
          simp only [Act.put, List.setIfInBounds_toArray, List.set_cons_zero, List.set_cons_succ]
          refine wpAnyH_take (i := 2) (v := ?y1v) (by simp only [List.getElem?_toArray, List.getElem?_cons_succ, List.getElem?_cons_zero] <;> rfl) (by kernel_rfl) (by kernel_rfl) (by kernel_rfl) (by exact fun _ _ _ h => h) (Or.inl ⟨by rfl, ?y1y⟩) hHeld ?y1r
          case y1y => intro w hSw; (try dsimp only at hSw); go_simp <;> rfl
          simp only [Act.put, List.setIfInBounds_toArray, List.set_cons_zero, List.set_cons_succ]
          refine wpAnyH_ready (rs := [1]) (by kernel_rfl) (by simp) ?_
          refine AllReadyH.cons (by simp only [List.getElem?_toArray, List.getElem?_cons_succ, List.getElem?_cons_zero] <;> rfl) (fun K hK => ?_) AllReadyH.nil
          go_simp
          refine (zcd _ ((Keep.refl (fun _ => False) w9).drew)).mono ?_
          rintro e v1 ⟨rfl, kx⟩
          have kv1 : Keep0 w9 v1 := ((Keep.refl (fun _ => False) w9).drew).trans kx
          clear kx
          go_wp2_with fail
          refine hK.out _ _ ⟨kv1.cell cA0 (fun f => f), kv1.cell cA1 (fun f => f), kv1.cell cA2 (fun f => f), kv1.cell cA3 (fun f => f), kv1.cell cB0 (fun f => f), kv1.cell cB1 (fun f => f), kv1.cell cB2 (fun f => f), kv1.cell cB3 (fun f => f), kv1.cell cP0 (fun f => f), kv1.cell cP1 (fun f => f), kv1.cell cP2 (fun f => f), kv1.cell cP3 (fun f => f)⟩ (fun hHeld => ?_)
          clear hK K
          refine wpAnyH_ready (rs := [3]) (by kernel_rfl) (by simp) ?_
          refine AllReadyH.cons (by simp only [List.getElem?_toArray, List.getElem?_cons_succ, List.getElem?_cons_zero] <;> rfl) (fun K hK => ?_) AllReadyH.nil
          go_simp
          refine (zca _ (kv1)).mono ?_
          rintro e v2 ⟨rfl, kx⟩
          have kv2 : Keep0 w9 v2 := (kv1).trans kx
          clear kx
          go_wp2_with fail
          refine hK.out _ _ ⟨kv2.cell cA0 (fun f => f), kv2.cell cA1 (fun f => f), kv2.cell cA2 (fun f => f), kv2.cell cA3 (fun f => f), kv2.cell cB0 (fun f => f), kv2.cell cB1 (fun f => f), kv2.cell cB2 (fun f => f), kv2.cell cB3 (fun f => f), kv2.cell cP0 (fun f => f), kv2.cell cP1 (fun f => f), kv2.cell cP2 (fun f => f), kv2.cell cP3 (fun f => f)⟩ (fun hHeld => ?_)
          clear hK K
          refine wpAnyH_take (i := 4) (v := ?y2v) (by simp only [List.getElem?_toArray, List.getElem?_cons_succ, List.getElem?_cons_zero] <;> rfl) (by kernel_rfl) (by kernel_rfl) (by kernel_rfl) (by exact fun _ _ _ h => h) (Or.inl ⟨by rfl, ?y2y⟩) hHeld ?y2r
          case y2y => intro w hSw; (try dsimp only at hSw); go_simp <;> rfl
          simp only [Act.put, List.setIfInBounds_toArray, List.set_cons_zero, List.set_cons_succ]
          refine wpAnyH_take (i := 5) (v := ?y3v) (by simp only [List.getElem?_toArray, List.getElem?_cons_succ, List.getElem?_cons_zero] <;> rfl) (by kernel_rfl) (by kernel_rfl) (by kernel_rfl) (by exact fun _ _ _ h => h) (Or.inl ⟨by rfl, ?y3y⟩) hHeld ?y3r
          case y3y => intro w hSw; (try dsimp only at hSw); go_simp <;> rfl
          simp only [Act.put, List.setIfInBounds_toArray, List.set_cons_zero, List.set_cons_succ]
          refine wpAnyH_take (i := 6) (v := ?y4v) (by simp only [List.getElem?_toArray, List.getElem?_cons_succ, List.getElem?_cons_zero] <;> rfl) (by kernel_rfl) (by kernel_rfl) (by kernel_rfl) (by exact fun _ _ _ h => h) (Or.inl ⟨by rfl, ?y4y⟩) hHeld ?y4r
          case y4y => intro w hSw; (try dsimp only at hSw); go_simp <;> rfl
          simp only [Act.put, List.setIfInBounds_toArray, List.set_cons_zero, List.set_cons_succ]
          refine wpAnyH_take (i := 7) (v := ?y5v) (by simp only [List.getElem?_toArray, List.getElem?_cons_succ, List.getElem?_cons_zero] <;> rfl) (by kernel_rfl) (by kernel_rfl) (by kernel_rfl) (by exact fun _ _ _ h => h) (Or.inl ⟨by rfl, ?y5y⟩) hHeld ?y5r
          case y5y => intro w hSw; (try dsimp only at hSw); go_simp <;> rfl
          simp only [Act.put, List.setIfInBounds_toArray, List.set_cons_zero, List.set_cons_succ]
          refine wpAnyH_take (i := 9) (v := ?y6v) (by simp only [List.getElem?_toArray, List.getElem?_cons_succ, List.getElem?_cons_zero] <;> rfl) (by kernel_rfl) (by kernel_rfl) (by kernel_rfl) (by exact fun _ _ _ h => h) (Or.inl ⟨by rfl, ?y6y⟩) hHeld ?y6r
          case y6y => intro w hSw; (try dsimp only at hSw); go_simp <;> rfl
          simp only [Act.put, List.setIfInBounds_toArray, List.set_cons_zero, List.set_cons_succ]
          refine wpAnyH_take (i := 10) (v := ?y7v) (by simp only [List.getElem?_toArray, List.getElem?_cons_succ, List.getElem?_cons_zero] <;> rfl) (by kernel_rfl) (by kernel_rfl) (by kernel_rfl) (by exact fun _ _ _ h => h) (Or.inl ⟨by rfl, ?y7y⟩) hHeld ?y7r
          case y7y => intro w hSw; (try dsimp only at hSw); go_simp <;> rfl
          simp only [Act.put, List.setIfInBounds_toArray, List.set_cons_zero, List.set_cons_succ]
          refine wpAnyH_ready (rs := [8]) (by kernel_rfl) (by simp) ?_
          refine AllReadyH.cons (by simp only [List.getElem?_toArray, List.getElem?_cons_succ, List.getElem?_cons_zero] <;> rfl) (fun K hK => ?_) AllReadyH.nil
          go_simp
          refine (zsd _ (kv2)).mono ?_
          rintro e v3 ⟨rfl, kx⟩
          have kv3 : Keep0 w9 v3 := (kv2).trans kx
          clear kx
          go_wp2_with fail
          refine hK.out _ _ ⟨kv3.cell cA0 (fun f => f), kv3.cell cA1 (fun f => f), kv3.cell cA2 (fun f => f), kv3.cell cA3 (fun f => f), kv3.cell cB0 (fun f => f), kv3.cell cB1 (fun f => f), kv3.cell cB2 (fun f => f), kv3.cell cB3 (fun f => f), kv3.cell cP0 (fun f => f), kv3.cell cP1 (fun f => f), kv3.cell cP2 (fun f => f), kv3.cell cP3 (fun f => f)⟩ (fun hHeld => ?_)
          clear hK K
          refine wpAnyH_ready (rs := [11]) (by kernel_rfl) (by simp) ?_
          refine AllReadyH.cons (by simp only [List.getElem?_toArray, List.getElem?_cons_succ, List.getElem?_cons_zero] <;> rfl) (fun K hK => ?_) AllReadyH.nil
          go_simp
          refine (zsr _ (kv3)).mono ?_
          rintro e v4 ⟨rfl, kx⟩
          have kv4 : Keep0 w9 v4 := (kv3).trans kx
          clear kx
          go_wp2_with fail
          refine hK.out _ _ ⟨kv4.cell cA0 (fun f => f), kv4.cell cA1 (fun f => f), kv4.cell cA2 (fun f => f), kv4.cell cA3 (fun f => f), kv4.cell cB0 (fun f => f), kv4.cell cB1 (fun f => f), kv4.cell cB2 (fun f => f), kv4.cell cB3 (fun f => f), kv4.cell cP0 (fun f => f), kv4.cell cP1 (fun f => f), kv4.cell cP2 (fun f => f), kv4.cell cP3 (fun f => f)⟩ (fun hHeld => ?_)
          clear hK K
          refine wpAnyH_take (i := 12) (v := ?y8v) (by simp only [List.getElem?_toArray, List.getElem?_cons_succ, List.getElem?_cons_zero] <;> rfl) (by kernel_rfl) (by kernel_rfl) (by kernel_rfl) (by exact fun _ _ _ h => h) (Or.inl ⟨by rfl, ?y8y⟩) hHeld ?y8r
          case y8y => intro w hSw; (try dsimp only at hSw); go_simp <;> rfl
          simp only [Act.put, List.setIfInBounds_toArray, List.set_cons_zero, List.set_cons_succ]
          refine wpAnyH_take (i := 13) (v := ?y9v) (by simp only [List.getElem?_toArray, List.getElem?_cons_succ, List.getElem?_cons_zero] <;> rfl) (by kernel_rfl) (by kernel_rfl) (by kernel_rfl) (by exact fun _ _ _ h => h) (Or.inl ⟨by rfl, ?y9y⟩) hHeld ?y9r
          case y9y => intro w hSw; (try dsimp only at hSw); go_simp <;> rfl
          simp only [Act.put, List.setIfInBounds_toArray, List.set_cons_zero, List.set_cons_succ]
          refine wpAnyH_take (i := 14) (v := ?y10v) (by simp only [List.getElem?_toArray, List.getElem?_cons_succ, List.getElem?_cons_zero] <;> rfl) (by kernel_rfl) (by kernel_rfl) (by kernel_rfl) (by exact fun _ _ _ h => h) (Or.inl ⟨by rfl, ?y10y⟩) hHeld ?y10r
          case y10y => intro w hSw; (try dsimp only at hSw); go_simp <;> rfl
          simp only [Act.put, List.setIfInBounds_toArray, List.set_cons_zero, List.set_cons_succ]
          refine wpAnyH_take (i := 15) (v := ?y11v) (by simp only [List.getElem?_toArray, List.getElem?_cons_succ, List.getElem?_cons_zero] <;> rfl) (by kernel_rfl) (by kernel_rfl) (by kernel_rfl) (by exact fun _ _ _ h => h) (Or.inl ⟨by rfl, ?y11y⟩) hHeld ?y11r
          case y11y => intro w hSw; (try dsimp only at hSw); go_simp <;> rfl
          simp only [Act.put, List.setIfInBounds_toArray, List.set_cons_zero, List.set_cons_succ]
          refine wpAnyH_take (i := 16) (v := ?y12v) (by simp only [List.getElem?_toArray, List.getElem?_cons_succ, List.getElem?_cons_zero] <;> rfl) (by kernel_rfl) (by kernel_rfl) (by kernel_rfl) (by exact fun _ _ _ h => h) (Or.inl ⟨by rfl, ?y12y⟩) hHeld ?y12r
          case y12y => intro w hSw; (try dsimp only at hSw); go_simp <;> rfl
          simp only [Act.put, List.setIfInBounds_toArray, List.set_cons_zero, List.set_cons_succ]
          refine wpAnyH_take (i := 17) (v := ?y13v) (by simp only [List.getElem?_toArray, List.getElem?_cons_succ, List.getElem?_cons_zero] <;> rfl) (by kernel_rfl) (by kernel_rfl) (by kernel_rfl) (by exact fun _ _ _ h => h) (Or.inl ⟨by rfl, ?y13y⟩) hHeld ?y13r
          case y13y => intro w hSw; (try dsimp only at hSw); go_simp <;> rfl
          simp only [Act.put, List.setIfInBounds_toArray, List.set_cons_zero, List.set_cons_succ]
          refine wpAnyH_take (i := 19) (v := ?y14v) (by simp only [List.getElem?_toArray, List.getElem?_cons_succ, List.getElem?_cons_zero] <;> rfl) (by kernel_rfl) (by kernel_rfl) (by kernel_rfl) (by exact fun _ _ _ h => h) (Or.inl ⟨by rfl, ?y14y⟩) hHeld ?y14r
          case y14y => intro w hSw; (try dsimp only at hSw); go_simp <;> rfl
          simp only [Act.put, List.setIfInBounds_toArray, List.set_cons_zero, List.set_cons_succ]
          refine wpAnyH_ready (rs := [18]) (by kernel_rfl) (by simp) ?_
          refine AllReadyH.cons (by simp only [List.getElem?_toArray, List.getElem?_cons_succ, List.getElem?_cons_zero] <;> rfl) (fun K hK => ?_) AllReadyH.nil
          go_simp
          refine (zkd _ (kv4)).mono ?_
          rintro e v5 ⟨rfl, kx⟩
          have kv5 : Keep0 w9 v5 := (kv4).trans kx
          clear kx
          go_wp2_with fail
          refine hK.out _ _ ⟨kv5.cell cA0 (fun f => f), kv5.cell cA1 (fun f => f), kv5.cell cA2 (fun f => f), kv5.cell cA3 (fun f => f), kv5.cell cB0 (fun f => f), kv5.cell cB1 (fun f => f), kv5.cell cB2 (fun f => f), kv5.cell cB3 (fun f => f), kv5.cell cP0 (fun f => f), kv5.cell cP1 (fun f => f), kv5.cell cP2 (fun f => f), kv5.cell cP3 (fun f => f)⟩ (fun hHeld => ?_)
          clear hK K
          refine wpAnyH_take (i := 20) (v := ?y15v) (by simp only [List.getElem?_toArray, List.getElem?_cons_succ, List.getElem?_cons_zero] <;> rfl) (by kernel_rfl) (by kernel_rfl) (by kernel_rfl) (by exact fun _ _ _ h => h) (Or.inl ⟨by rfl, ?y15y⟩) hHeld ?y15r
          case y15y => intro w hSw; (try dsimp only at hSw); go_simp <;> rfl
          simp only [Act.put, List.setIfInBounds_toArray, List.set_cons_zero, List.set_cons_succ]
          refine wpAnyH_take (i := 21) (v := undef) (by simp only [List.getElem?_toArray, List.getElem?_cons_succ, List.getElem?_cons_zero] <;> rfl) (by kernel_rfl) (by kernel_rfl) (by kernel_rfl) (by exact fun _ _ _ h => h) (Or.inr ⟨by rfl, rfl⟩) hHeld ?y16r
          simp only [Act.put, List.setIfInBounds_toArray, List.set_cons_zero, List.set_cons_succ]
          refine wpAnyH_take (i := 22) (v := undef) (by simp only [List.getElem?_toArray, List.getElem?_cons_succ, List.getElem?_cons_zero] <;> rfl) (by kernel_rfl) (by kernel_rfl) (by kernel_rfl) (by exact fun _ _ _ h => h) (Or.inr ⟨by rfl, rfl⟩) hHeld ?y17r
          simp only [Act.put, List.setIfInBounds_toArray, List.set_cons_zero, List.set_cons_succ]
          refine wpAnyH_take (i := 23) (v := undef) (by simp only [List.getElem?_toArray, List.getElem?_cons_succ, List.getElem?_cons_zero] <;> rfl) (by kernel_rfl) (by kernel_rfl) (by kernel_rfl) (by exact fun _ _ _ h => h) (Or.inr ⟨by rfl, rfl⟩) hHeld ?y18r
          simp only [Act.put, List.setIfInBounds_toArray, List.set_cons_zero, List.set_cons_succ]
          refine wpAnyH_ready (rs := [24]) (by kernel_rfl) (by simp) ?_
          refine AllReadyH.cons (by simp only [List.getElem?_toArray, List.getElem?_cons_succ, List.getElem?_cons_zero] <;> rfl) (fun K hK => ?_) AllReadyH.nil
          go_simp
          refine hK.out _ _ hHeld (fun hHeld => ?_)
          clear hK K
          refine wpAnyH_take (i := 25) (v := ?y19v) (by simp only [List.getElem?_toArray, List.getElem?_cons_succ, List.getElem?_cons_zero] <;> rfl) (by kernel_rfl) (by kernel_rfl) (by kernel_rfl) (by exact fun _ _ _ h => h) (Or.inl ⟨by rfl, ?y19y⟩) hHeld ?y19r
          case y19y => intro w hSw; (try dsimp only at hSw); go_simp <;> rfl
          simp only [Act.put, List.setIfInBounds_toArray, List.set_cons_zero, List.set_cons_succ]
          refine wpAnyH_take (i := 26) (v := ?y20v) (by simp only [List.getElem?_toArray, List.getElem?_cons_succ, List.getElem?_cons_zero] <;> rfl) (by kernel_rfl) (by kernel_rfl) (by kernel_rfl) (by exact fun _ _ _ h => h) (Or.inl ⟨by rfl, ?y20y⟩) hHeld ?y20r
          case y20y => intro w hSw; (try dsimp only at hSw); go_simp <;> rfl
          simp only [Act.put, List.setIfInBounds_toArray, List.set_cons_zero, List.set_cons_succ]
          refine wpAnyH_take (i := 27) (v := ?y21v) (by simp only [List.getElem?_toArray, List.getElem?_cons_succ, List.getElem?_cons_zero] <;> rfl) (by kernel_rfl) (by kernel_rfl) (by kernel_rfl) (by exact fun _ _ _ h => h) (Or.inl ⟨by rfl, ?y21y⟩) hHeld ?y21r
          case y21y => intro w hSw; (try dsimp only at hSw); go_simp <;> rfl
          simp only [Act.put, List.setIfInBounds_toArray, List.set_cons_zero, List.set_cons_succ]
          refine wpAnyH_take (i := 28) (v := ?y22v) (by simp only [List.getElem?_toArray, List.getElem?_cons_succ, List.getElem?_cons_zero] <;> rfl) (by kernel_rfl) (by kernel_rfl) (by kernel_rfl) (by exact fun _ _ _ h => h) (Or.inl ⟨by rfl, ?y22y⟩) hHeld ?y22r
          case y22y => intro w hSw; (try dsimp only at hSw); go_simp <;> rfl
          simp only [Act.put, List.setIfInBounds_toArray, List.set_cons_zero, List.set_cons_succ]
          refine wpAnyH_take (i := 29) (v := ?y23v) (by simp only [List.getElem?_toArray, List.getElem?_cons_succ, List.getElem?_cons_zero] <;> rfl) (by kernel_rfl) (by kernel_rfl) (by kernel_rfl) (by exact fun _ _ _ h => h) (Or.inl ⟨by rfl, ?y23y⟩) hHeld ?y23r
          case y23y => intro w hSw; (try dsimp only at hSw); go_simp <;> rfl
          simp only [Act.put, List.setIfInBounds_toArray, List.set_cons_zero, List.set_cons_succ]
          refine wpAnyH_take (i := 30) (v := ?y24v) (by simp only [List.getElem?_toArray, List.getElem?_cons_succ, List.getElem?_cons_zero] <;> rfl) (by kernel_rfl) (by kernel_rfl) (by kernel_rfl) (by exact fun _ _ _ h => h) (Or.inl ⟨by rfl, ?y24y⟩) hHeld ?y24r
          case y24y => intro w hSw; (try dsimp only at hSw); go_simp <;> rfl
          simp only [Act.put, List.setIfInBounds_toArray, List.set_cons_zero, List.set_cons_succ]
          refine wpAnyH_take (i := 32) (v := ?y25v) (by simp only [List.getElem?_toArray, List.getElem?_cons_succ, List.getElem?_cons_zero] <;> rfl) (by kernel_rfl) (by kernel_rfl) (by kernel_rfl) (by exact fun _ _ _ h => h) (Or.inl ⟨by rfl, ?y25y⟩) hHeld ?y25r
          case y25y => intro w hSw; (try dsimp only at hSw); go_simp <;> rfl
          simp only [Act.put, List.setIfInBounds_toArray, List.set_cons_zero, List.set_cons_succ]
          refine wpAnyH_ready (rs := [31]) (by kernel_rfl) (by simp) ?_
          refine AllReadyH.cons (by simp only [List.getElem?_toArray, List.getElem?_cons_succ, List.getElem?_cons_zero] <;> rfl) (fun K hK => ?_) AllReadyH.nil
          go_simp
          refine (zvd _ (kv5)).mono ?_
          rintro e v6 ⟨rfl, kx⟩
          have kv6 : Keep0 w9 v6 := (kv5).trans kx
          clear kx
          go_wp2_with fail
          refine hK.out _ _ ⟨kv6.cell cA0 (fun f => f), kv6.cell cA1 (fun f => f), kv6.cell cA2 (fun f => f), kv6.cell cA3 (fun f => f), kv6.cell cB0 (fun f => f), kv6.cell cB1 (fun f => f), kv6.cell cB2 (fun f => f), kv6.cell cB3 (fun f => f), kv6.cell cP0 (fun f => f), kv6.cell cP1 (fun f => f), kv6.cell cP2 (fun f => f), kv6.cell cP3 (fun f => f)⟩ (fun hHeld => ?_)
          clear hK K
          refine wpAnyH_take (i := 33) (v := ?y26v) (by simp only [List.getElem?_toArray, List.getElem?_cons_succ, List.getElem?_cons_zero] <;> rfl) (by kernel_rfl) (by kernel_rfl) (by kernel_rfl) (by exact fun _ _ _ h => h) (Or.inl ⟨by rfl, ?y26y⟩) hHeld ?y26r
          case y26y => intro w hSw; (try dsimp only at hSw); go_simp <;> rfl
          simp only [Act.put, List.setIfInBounds_toArray, List.set_cons_zero, List.set_cons_succ]
          refine wpAnyH_take (i := 34) (v := undef) (by simp only [List.getElem?_toArray, List.getElem?_cons_succ, List.getElem?_cons_zero] <;> rfl) (by kernel_rfl) (by kernel_rfl) (by kernel_rfl) (by exact fun _ _ _ h => h) (Or.inr ⟨by rfl, rfl⟩) hHeld ?y27r
          simp only [Act.put, List.setIfInBounds_toArray, List.set_cons_zero, List.set_cons_succ]
          refine wpAnyH_take (i := 35) (v := undef) (by simp only [List.getElem?_toArray, List.getElem?_cons_succ, List.getElem?_cons_zero] <;> rfl) (by kernel_rfl) (by kernel_rfl) (by kernel_rfl) (by exact fun _ _ _ h => h) (Or.inr ⟨by rfl, rfl⟩) hHeld ?y28r
          simp only [Act.put, List.setIfInBounds_toArray, List.set_cons_zero, List.set_cons_succ]
          refine wpAnyH_ready (rs := [36]) (by kernel_rfl) (by simp) ?_
          refine AllReadyH.cons (by simp only [List.getElem?_toArray, List.getElem?_cons_succ, List.getElem?_cons_zero] <;> rfl) (fun K hK => ?_) AllReadyH.nil
          go_simp
          refine hK.out _ _ hHeld (fun hHeld => ?_)
          clear hK K
          refine wpAnyH_take (i := 37) (v := ?y29v) (by simp only [List.getElem?_toArray, List.getElem?_cons_succ, List.getElem?_cons_zero] <;> rfl) (by kernel_rfl) (by kernel_rfl) (by kernel_rfl) (by exact fun _ _ _ h => h) (Or.inl ⟨by rfl, ?y29y⟩) hHeld ?y29r
          case y29y => intro w hSw; (try dsimp only at hSw); go_simp <;> rfl
          simp only [Act.put, List.setIfInBounds_toArray, List.set_cons_zero, List.set_cons_succ]
          refine wpAnyH_take (i := 38) (v := ?y30v) (by simp only [List.getElem?_toArray, List.getElem?_cons_succ, List.getElem?_cons_zero] <;> rfl) (by kernel_rfl) (by kernel_rfl) (by kernel_rfl) (by exact fun _ _ _ h => h) (Or.inl ⟨by rfl, ?y30y⟩) hHeld ?y30r
          case y30y => intro w hSw; (try dsimp only at hSw); go_simp <;> rfl
          simp only [Act.put, List.setIfInBounds_toArray, List.set_cons_zero, List.set_cons_succ]
          refine wpAnyH_take (i := 39) (v := ?y31v) (by simp only [List.getElem?_toArray, List.getElem?_cons_succ, List.getElem?_cons_zero] <;> rfl) (by kernel_rfl) (by kernel_rfl) (by kernel_rfl) (by exact fun _ _ _ h => h) (Or.inl ⟨by rfl, ?y31y⟩) hHeld ?y31r
          case y31y => intro w hSw; (try dsimp only at hSw); go_simp <;> rfl
          simp only [Act.put, List.setIfInBounds_toArray, List.set_cons_zero, List.set_cons_succ]
          refine wpAnyH_take (i := 40) (v := ?y32v) (by simp only [List.getElem?_toArray, List.getElem?_cons_succ, List.getElem?_cons_zero] <;> rfl) (by kernel_rfl) (by kernel_rfl) (by kernel_rfl) (by exact fun _ _ _ h => h) (Or.inl ⟨by rfl, ?y32y⟩) hHeld ?y32r
          case y32y => intro w hSw; (try dsimp only at hSw); go_simp <;> rfl
          simp only [Act.put, List.setIfInBounds_toArray, List.set_cons_zero, List.set_cons_succ]
          refine wpAnyH_take (i := 41) (v := ?y33v) (by simp only [List.getElem?_toArray, List.getElem?_cons_succ, List.getElem?_cons_zero] <;> rfl) (by kernel_rfl) (by kernel_rfl) (by kernel_rfl) (by exact fun _ _ _ h => h) (Or.inl ⟨by rfl, ?y33y⟩) hHeld ?y33r
          case y33y => intro w hSw; (try dsimp only at hSw); go_simp <;> rfl
          simp only [Act.put, List.setIfInBounds_toArray, List.set_cons_zero, List.set_cons_succ]
          refine wpAnyH_take (i := 42) (v := ?y34v) (by simp only [List.getElem?_toArray, List.getElem?_cons_succ, List.getElem?_cons_zero] <;> rfl) (by kernel_rfl) (by kernel_rfl) (by kernel_rfl) (by exact fun _ _ _ h => h) (Or.inl ⟨by rfl, ?y34y⟩) hHeld ?y34r
          case y34y => intro w hSw; (try dsimp only at hSw); go_simp <;> rfl
          simp only [Act.put, List.setIfInBounds_toArray, List.set_cons_zero, List.set_cons_succ]
          refine wpAnyH_take (i := 43) (v := ?y35v) (by simp only [List.getElem?_toArray, List.getElem?_cons_succ, List.getElem?_cons_zero] <;> rfl) (by kernel_rfl) (by kernel_rfl) (by kernel_rfl) (by exact fun _ _ _ h => h) (Or.inl ⟨by rfl, ?y35y⟩) hHeld ?y35r
          case y35y => intro w hSw; (try dsimp only at hSw); go_simp <;> rfl
          simp only [Act.put, List.setIfInBounds_toArray, List.set_cons_zero, List.set_cons_succ]
          refine wpAnyH_take (i := 44) (v := ?y36v) (by simp only [List.getElem?_toArray, List.getElem?_cons_succ, List.getElem?_cons_zero] <;> rfl) (by kernel_rfl) (by kernel_rfl) (by kernel_rfl) (by exact fun _ _ _ h => h) (Or.inl ⟨by rfl, ?y36y⟩) hHeld ?y36r
          case y36y => intro w hSw; (try dsimp only at hSw); go_simp <;> rfl
          simp only [Act.put, List.setIfInBounds_toArray, List.set_cons_zero, List.set_cons_succ]
          refine wpAnyH_ready (rs := [45]) (by kernel_rfl) (by simp) ?_
          refine AllReadyH.cons (by simp only [List.getElem?_toArray, List.getElem?_cons_succ, List.getElem?_cons_zero] <;> rfl) (fun K hK => ?_) AllReadyH.nil
          go_simp
          refine (zp _ (kv6)).mono ?_
          rintro e v7 ⟨rfl, kx⟩
          have kv7 : Keep0 w9 v7 := (kv6).trans kx
          clear kx
          go_wp2_with fail
          refine hK.out _ _ ⟨kv7.cell cA0 (fun f => f), kv7.cell cA1 (fun f => f), kv7.cell cA2 (fun f => f), kv7.cell cA3 (fun f => f), kv7.cell cB0 (fun f => f), kv7.cell cB1 (fun f => f), kv7.cell cB2 (fun f => f), kv7.cell cB3 (fun f => f), kv7.cell cP0 (fun f => f), kv7.cell cP1 (fun f => f), kv7.cell cP2 (fun f => f), kv7.cell cP3 (fun f => f)⟩ (fun hHeld => ?_)
          clear hK K
          refine wpAnyH_take (i := 46) (v := ?y37v) (by simp only [List.getElem?_toArray, List.getElem?_cons_succ, List.getElem?_cons_zero] <;> rfl) (by kernel_rfl) (by kernel_rfl) (by kernel_rfl) (by exact fun _ _ _ h => h) (Or.inl ⟨by rfl, ?y37y⟩) hHeld ?y37r
          case y37y => intro w hSw; (try dsimp only at hSw); go_simp <;> rfl
          simp only [Act.put, List.setIfInBounds_toArray, List.set_cons_zero, List.set_cons_succ]
          refine wpAnyH_take (i := 47) (v := ?y38v) (by simp only [List.getElem?_toArray, List.getElem?_cons_succ, List.getElem?_cons_zero] <;> rfl) (by kernel_rfl) (by kernel_rfl) (by kernel_rfl) (by exact fun _ _ _ h => h) (Or.inl ⟨by rfl, ?y38y⟩) hHeld ?y38r
          case y38y => intro w hSw; (try dsimp only at hSw); go_simp <;> rfl
          simp only [Act.put, List.setIfInBounds_toArray, List.set_cons_zero, List.set_cons_succ]
          refine wpAnyH_done (by kernel_rfl) ?_ _
          have KF := K9.trans kv7
          clear hHeld K9
          go_wp2
          go_ret
          exact ⟨rfl, KF⟩
theorem dottedTells_law (V : DotCode) (w : World) (ao : Option Addr) (ca : Nat) (a : Ck) (fa : FitsK a) (hA : EnsAt w ao a.c) (bo : Option Addr) (cb : Nat) (b : Ck) (fb : FitsK b) (hB : EnsAt w bo b.c) (s : ByteArray) (hs : s.size ≤ maxLen) (n : Int) (hn : (Lit.int .u64 n).wf = true) :
    Calls Try.prog 3 #[.agg #[.slice ao a.c.length ca, .bool a.d, .string a.x.a, .int .u64 (a.x.n : Int)], .agg #[.slice bo b.c.length cb, .bool b.d, .string b.x.a, .int .u64 (b.x.n : Int)], .string s, .int .u64 n] w fun e w' => e = .returned (.bool true) ∧ Keep0 w w' := by
  have hb := bounds_u64 hn
  have e : n = ((n.toNat : Nat) : Int) := by omega
  rw [e]
  exact dottedTells_nat V w ao ca a fa hA bo cb b fb hB s hs n.toNat (by omega)
end Go.Proofs.Ytkbihpdfafapeaa
