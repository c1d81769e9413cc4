/-
  What this seat's claims lean on of the texts Cuts15.
  Conditions: as each theorem states.
-/
import Derived.WalkKit
import Derived.ProofKit
import Derived.Below
import Derived.Deep.Draws
import Derived.Deep.RegionHeld
import Derived.Test.YtfpahdnhnhkcdaaChecked
import Derived.OpenShut
import Derived.ShutString
import Derived.WalkSpells
import Derived.WalkLawsBesides
import Derived.Deep.QuietTactic
import Derived.BigQuiet
import Derived.Laws.Bits64b
import Derived.PlainAid
import Derived.Lib.AppendStr
import Derived.Deep.AppendLies
import Derived.Laws.IdiomStrings
import Derived.Laws.BytesArg
import Derived.Deep.RegionWith
import Derived.Laws.AppendOwn
import Derived.Deep.DeepAppendWide
import Derived.Deep.Upon
import Derived.Laws.Rows
import Derived.Deep.Slices
import Derived.Test.YtfpahdnhnhkcdaaZ27
namespace Go.Proofs.Ytfpahdnhnhkcdaa
open Go.RowKit
set_option maxRecDepth 100000 in
set_option maxHeartbeats 8000000 in
theorem siblingCuts_law (V : SibCode) (w : World) (vo : Option Addr) (vc : Nat) (po : Option Addr) (pc : Nat) (x : Sb) (fx : FitsS x) (hA : SibIn w vo po pc x) (t : ByteArray) (ht : t.size ≤ maxLen) :
    Calls Try.prog 7 #[.agg #[.slice vo x.k.c.length vc, .bool x.k.d, .string x.k.x.a, .int .u64 (x.k.x.n : Int), .slice po x.m.length pc, .bool x.d, .string x.v], .string t] w fun e w' => e = .returned (.bool true) ∧ Keep0 w w' := by
  have yg := fun W (h : SibIn W vo po pc x) => rgreat15 W vo vc po pc x fx h
  have i0 : (t.size : Int) ≤ 9223372036854775807 := by unfold maxLen at ht; omega
  have kB : Keep0 w (w.alloc (.cells #[.slice vo x.k.c.length vc, .bool x.k.d, .string x.k.x.a, .int .u64 (x.k.x.n : Int), .slice po x.m.length pc, .bool x.d, .string x.v] 30)) := (Keep.refl _ w).alloc _
  have hX := sib_new w 30 x vo vc po pc
  have yw := awake15 V (w.alloc (.cells #[.slice vo x.k.c.length vc, .bool x.k.d, .string x.k.x.a, .int .u64 (x.k.x.n : Int), .slice po x.m.length pc, .bool x.d, .string x.v] 30))
  have hA := hA.keep0 kB
  cases ga : sGreat x with
  | true =>
    rw [ga] at yg
    go_enter Try.func7, Try.ntmps7
    go_wp2_with fail
    generalize (w.alloc (.cells #[.slice vo x.k.c.length vc, .bool x.k.d, .string x.k.x.a, .int .u64 (x.k.x.n : Int), .slice po x.m.length pc, .bool x.d, .string x.v] 30)) = W0 at *
    generalize w.heap.size = g at *
    refine yw.mono ?_
    rintro e w1 ⟨rfl, k1⟩
    have K1 := kB.trans k1
    obtain ⟨a0, a1, a2, a3, a4, a5, a6⟩ := hX.keep0 k1
    have hA1 := hA.keep0 k1
    clear kB k1 hX yw hA
    go_wp2_with fail
    refine (yg w1 hA1).mono ?_
    rintro e w2 ⟨rfl, k2⟩
    have K2 := K1.trans k2
    replace a0 := k2.cell a0 (fun f => f)
    replace a1 := k2.cell a1 (fun f => f)
    replace a2 := k2.cell a2 (fun f => f)
    replace a3 := k2.cell a3 (fun f => f)
    replace a4 := k2.cell a4 (fun f => f)
    replace a5 := k2.cell a5 (fun f => f)
    replace a6 := k2.cell a6 (fun f => f)
    have hA2 := hA1.keep0 k2
    clear K1 k2 yg hA1
    go_wp2
    go_ret
    exact ⟨rfl, K2⟩
  | false =>
    rw [ga] at yg
    by_cases h1 : t.size = 0
    · have i1 : (t.size : Int) = 0 := by omega
      go_enter Try.func7, Try.ntmps7
      go_wp2_with fail
      generalize (w.alloc (.cells #[.slice vo x.k.c.length vc, .bool x.k.d, .string x.k.x.a, .int .u64 (x.k.x.n : Int), .slice po x.m.length pc, .bool x.d, .string x.v] 30)) = W0 at *
      generalize w.heap.size = g at *
      refine yw.mono ?_
      rintro e w1 ⟨rfl, k1⟩
      have K1 := kB.trans k1
      obtain ⟨a0, a1, a2, a3, a4, a5, a6⟩ := hX.keep0 k1
      have hA1 := hA.keep0 k1
      clear kB k1 hX yw hA
      go_wp2_with fail
      refine (yg w1 hA1).mono ?_
      rintro e w2 ⟨rfl, k2⟩
      have K2 := K1.trans k2
      replace a0 := k2.cell a0 (fun f => f)
      replace a1 := k2.cell a1 (fun f => f)
      replace a2 := k2.cell a2 (fun f => f)
      replace a3 := k2.cell a3 (fun f => f)
      replace a4 := k2.cell a4 (fun f => f)
      replace a5 := k2.cell a5 (fun f => f)
      replace a6 := k2.cell a6 (fun f => f)
      have hA2 := hA1.keep0 k2
      clear K1 k2 yg hA1
      go_wp2
      go_ret
      exact ⟨rfl, K2⟩
    have i1 : ((t.size : Int) == 0) = false := beq_eq_false_iff_ne.2 (by omega)
    have i1' : ¬ (t.size : Int) = 0 := by omega
    by_cases h2 : 100 < t.size
    · have i2 : (100 : Int) < t.size := by omega
      go_enter Try.func7, Try.ntmps7
      go_wp2_with fail
      generalize (w.alloc (.cells #[.slice vo x.k.c.length vc, .bool x.k.d, .string x.k.x.a, .int .u64 (x.k.x.n : Int), .slice po x.m.length pc, .bool x.d, .string x.v] 30)) = W0 at *
      generalize w.heap.size = g at *
      refine yw.mono ?_
      rintro e w1 ⟨rfl, k1⟩
      have K1 := kB.trans k1
      obtain ⟨a0, a1, a2, a3, a4, a5, a6⟩ := hX.keep0 k1
      have hA1 := hA.keep0 k1
      clear kB k1 hX yw hA
      go_wp2_with fail
      refine (yg w1 hA1).mono ?_
      rintro e w2 ⟨rfl, k2⟩
      have K2 := K1.trans k2
      replace a0 := k2.cell a0 (fun f => f)
      replace a1 := k2.cell a1 (fun f => f)
      replace a2 := k2.cell a2 (fun f => f)
      replace a3 := k2.cell a3 (fun f => f)
      replace a4 := k2.cell a4 (fun f => f)
      replace a5 := k2.cell a5 (fun f => f)
      replace a6 := k2.cell a6 (fun f => f)
      have hA2 := hA1.keep0 k2
      clear K1 k2 yg hA1
      go_wp2
      go_ret
      exact ⟨rfl, K2⟩
    have i2 : ¬ (100 : Int) < t.size := by omega
    have yr := fun W (h : SibIn W vo po pc x) => rencode15 W vo vc po pc x fx h
    have hez := encS_zero (x := x)
    have hsz := encS_size x
    have hfit : ∀ y ∈ x.k.c, U64 y.n := fun y hy => (fx.clk.vec.2 y hy).2
    have hnum : U64 x.k.x.n := fx.clk.num
    obtain ⟨S, hS⟩ : ∃ S, (encS x).1 = S := ⟨_, rfl⟩
    obtain ⟨E, hE⟩ : ∃ E, (encS x).2 = E := ⟨_, rfl⟩
    rw [hS, hE] at yr
    rw [hS] at hsz hez
    rw [hE] at hez
    have j0 : (S.size : Int) ≤ 9223372036854775807 := by omega
    clear hS hE
    by_cases h0 : E = 0
    case neg =>
      have e0 : (E != 0) = true := by simpa using h0
      clear h0 hez
      go_enter Try.func7, Try.ntmps7
      go_wp2_with fail
      generalize (w.alloc (.cells #[.slice vo x.k.c.length vc, .bool x.k.d, .string x.k.x.a, .int .u64 (x.k.x.n : Int), .slice po x.m.length pc, .bool x.d, .string x.v] 30)) = W0 at *
      generalize w.heap.size = g at *
      refine yw.mono ?_
      rintro e w1 ⟨rfl, k1⟩
      have K1 := kB.trans k1
      obtain ⟨a0, a1, a2, a3, a4, a5, a6⟩ := hX.keep0 k1
      have hA1 := hA.keep0 k1
      clear kB k1 hX yw hA
      go_wp2_with fail
      refine (yg w1 hA1).mono ?_
      rintro e w2 ⟨rfl, k2⟩
      have K2 := K1.trans k2
      replace a0 := k2.cell a0 (fun f => f)
      replace a1 := k2.cell a1 (fun f => f)
      replace a2 := k2.cell a2 (fun f => f)
      replace a3 := k2.cell a3 (fun f => f)
      replace a4 := k2.cell a4 (fun f => f)
      replace a5 := k2.cell a5 (fun f => f)
      replace a6 := k2.cell a6 (fun f => f)
      have hA2 := hA1.keep0 k2
      clear K1 k2 yg hA1
      go_wp2_with fail
      refine (yr w2 hA2).mono ?_
      rintro e w3 ⟨rfl, k3⟩
      have K3 := K2.trans k3
      clear K2 k3 yr a0 a1 a2 a3 a4 a5 a6 hA2
      go_wp2
      go_ret
      exact ⟨rfl, K3⟩
    obtain ⟨s1, s2, s3⟩ := hez h0
    subst h0
    by_cases h6 : 6000 < S.size
    · have j6 : (6000 : Int) < S.size := by omega
      clear s1 s2 s3 hez
      go_enter Try.func7, Try.ntmps7
      go_wp2_with fail
      generalize (w.alloc (.cells #[.slice vo x.k.c.length vc, .bool x.k.d, .string x.k.x.a, .int .u64 (x.k.x.n : Int), .slice po x.m.length pc, .bool x.d, .string x.v] 30)) = W0 at *
      generalize w.heap.size = g at *
      refine yw.mono ?_
      rintro e w1 ⟨rfl, k1⟩
      have K1 := kB.trans k1
      obtain ⟨a0, a1, a2, a3, a4, a5, a6⟩ := hX.keep0 k1
      have hA1 := hA.keep0 k1
      clear kB k1 hX yw hA
      go_wp2_with fail
      refine (yg w1 hA1).mono ?_
      rintro e w2 ⟨rfl, k2⟩
      have K2 := K1.trans k2
      replace a0 := k2.cell a0 (fun f => f)
      replace a1 := k2.cell a1 (fun f => f)
      replace a2 := k2.cell a2 (fun f => f)
      replace a3 := k2.cell a3 (fun f => f)
      replace a4 := k2.cell a4 (fun f => f)
      replace a5 := k2.cell a5 (fun f => f)
      replace a6 := k2.cell a6 (fun f => f)
      have hA2 := hA1.keep0 k2
      clear K1 k2 yg hA1
      go_wp2_with fail
      refine (yr w2 hA2).mono ?_
      rintro e w3 ⟨rfl, k3⟩
      have K3 := K2.trans k3
      clear K2 k3 yr a0 a1 a2 a3 a4 a5 a6 hA2
      go_wp2
      go_ret
      exact ⟨rfl, K3⟩
    have hok : okSib x := (okSib_iff hfit hnum).2 s1
    have HS : Hid (∀ i, i < (eSib x).size → (decS ((eSib x).extract 0 i)).2 = 2) := fun i hi => sib_codec.dec_short (z := zSb) hok hi
    have HM : Hid ((decS (eSib x ++ t)).2 = 8) := sib_codec.dec_more (z := zSb) hok (by omega)
    rw [← s3] at HS HM
    clear s1 s2 s3 hez hfit hnum hok
    have hF' : (S.size : Int) ≤ 9223372036854775807 := by omega
    have hF6 : ¬ (6000 : Int) < S.size := by omega
    have hcat : ¬ 9223372036854775807 < S.size + t.size := by omega
    go_enter Try.func7, Try.ntmps7
    go_wp2_with fail
    generalize (w.alloc (.cells #[.slice vo x.k.c.length vc, .bool x.k.d, .string x.k.x.a, .int .u64 (x.k.x.n : Int), .slice po x.m.length pc, .bool x.d, .string x.v] 30)) = W0 at *
    generalize w.heap.size = g at *
    refine yw.mono ?_
    rintro e w1 ⟨rfl, k1⟩
    have K1 := kB.trans k1
    obtain ⟨a0, a1, a2, a3, a4, a5, a6⟩ := hX.keep0 k1
    have hA1 := hA.keep0 k1
    clear kB k1 hX yw hA
    go_wp2_with fail
    refine (yg w1 hA1).mono ?_
    rintro e w2 ⟨rfl, k2⟩
    have K2 := K1.trans k2
    replace a0 := k2.cell a0 (fun f => f)
    replace a1 := k2.cell a1 (fun f => f)
    replace a2 := k2.cell a2 (fun f => f)
    replace a3 := k2.cell a3 (fun f => f)
    replace a4 := k2.cell a4 (fun f => f)
    replace a5 := k2.cell a5 (fun f => f)
    replace a6 := k2.cell a6 (fun f => f)
    have hA2 := hA1.keep0 k2
    clear K1 k2 yg hA1
    go_wp2_with fail
    refine (yr w2 hA2).mono ?_
    rintro e w3 ⟨rfl, k3⟩
    have K3 := K2.trans k3
    clear K2 k3 yr a0 a1 a2 a3 a4 a5 a6 hA2
    go_wp2_with fail
    go_loopw [7] (fun i wr => ∃ (j : Nat), i = .int .i64 (j : Int) ∧ j ≤ S.size ∧ Keep0 w wr) (fun i _ => S.size - (intOf i).toNat)
    case atStart => exact ⟨0, rfl, by omega, K3⟩
    case round =>
      obtain ⟨j, rfl, hj, hK⟩ := hrel
      clear K3
      by_cases hlt : j < S.size
      · have j1 : (j : Int) < S.size := by omega
        have yd := V.decode wr (S.extract 0 j) (by rw [ByteArray.size_extract]; omega)
        have hd := HS.out j hlt
        obtain ⟨D, hD⟩ : ∃ D, decS (S.extract 0 j) = D := ⟨_, rfl⟩
        rw [hD] at yd hd
        obtain ⟨D1, D2⟩ := D
        have hd : D2 = 2 := hd
        subst hd
        clear hD
        go_wp2_with fail
        refine yd.mono ?_
        rintro e w4 ⟨bo, cb, qo, cq, rfl, _, _, _, k4⟩
        have K4 : ∀ o, Keep0 w (w4.alloc o) := fun o => (hK.trans k4).alloc o
        clear yd k4 hK
        go_wp2
        go_roundw
        case rel => exact ⟨j + 1, by go_num, by omega, K4 _⟩
        case measure => simp [intOf]; omega
      · have j1 : ¬ (j : Int) < S.size := by omega
        have yd := V.decode wr (S ++ t) (by rw [ByteArray.size_append]; omega)
        have hd := HM.out
        obtain ⟨D, hD⟩ : ∃ D, decS (S ++ t) = D := ⟨_, rfl⟩
        rw [hD] at yd hd
        obtain ⟨D1, D2⟩ := D
        have hd : D2 = 8 := hd
        subst hd
        clear hD
        go_wp2_with fail
        refine yd.mono ?_
        rintro e w4 ⟨bo, cb, qo, cq, rfl, _, _, _, k4⟩
        have K4 : ∀ o, Keep0 w (w4.alloc o) := fun o => (hK.trans k4).alloc o
        clear yd k4 hK
        go_wp2
        go_ret
        exact ⟨rfl, K4 _⟩
end Go.Proofs.Ytfpahdnhnhkcdaa
