/-
  What this seat's claims lean on of the texts DcD.
  Conditions: as each theorem states.
-/
import Derived.WalkKit
import Derived.ProofKit
import Derived.Below
import Derived.Deep.Draws
import Derived.Deep.RegionHeld
import Derived.Test.YteonkfedgopdiaaGreatChecked
import Derived.OpenShut
import Derived.ShutString
import Derived.WalkSpells
import Derived.WalkLawsBesides
import Derived.Deep.QuietTactic
import Derived.BigQuiet
import Derived.Laws.Bits64b
import Derived.PlainAid
import Derived.Lib.AppendStr
import Derived.Deep.AppendLies
import Derived.Laws.IdiomStrings
import Derived.Laws.BytesArg
import Derived.Deep.RegionWith
import Derived.Laws.AppendOwn
import Derived.Deep.DeepAppendWide
import Derived.Deep.Upon
import Derived.Laws.Rows
import Derived.Deep.Slices
import Derived.Test.YteonkfedgopdiaaGreatY35
namespace Go.Proofs.YteonkfedgopdiaaGreat
open Go.RowKit
theorem enc_pen13 {k : Ck} {M : Int} (hM : 65536 ≤ M) (hn : ∀ x ∈ k.c, U64 x.n) (hx : U64 k.x.n) : (pEnd (pClk M (⟨#[]⟩, 0) k).1 (pClk M (⟨#[]⟩, 0) k).2, (pClk M (⟨#[]⟩, 0) k).2) = encK k := by
  rw [← encK_pen hn hx]
  by_cases h0 : kCheck k = 0
  · have hs := eClk_size ⟨h0, hn, hx⟩
    rw [pClk_fit ⟨h0, hn, hx⟩ (by show ((0 : Nat) : Int) + _ ≤ _; omega), pClk_fit ⟨h0, hn, hx⟩ (by show ((0 : Nat) : Int) + _ ≤ _; omega)]
  · rw [pClk_no h0, pClk_no h0]
set_option maxRecDepth 100000 in
set_option maxHeartbeats 4000000 in
theorem encode13 (w : World) (ao : Option Addr) (cap : Nat) (k : Ck) (ok : Ok13 k) (hc : EnsAt w ao k.c) :
    Calls Tryz.prog 139 #[.agg #[.slice ao k.c.length cap, .bool k.d, .string k.x.a, .int .u64 (k.x.n : Int)]] w fun e w' => e = .returned (.tuple #[.string (encK k).1, .int .i64 (encK k).2]) ∧ Keep0 w w' := by
  have he := enc_pen13 (M := 9223372036854775807) (by decide) (fun x hx => (ok.fit.vec.2 x hx).2) ok.fit.num
  have k0 : Keep0 w (w.alloc (.cells #[.slice ao k.c.length cap, .bool k.d, .string k.x.a, .int .u64 (k.x.n : Int)] 41)) := (Keep.refl _ w).alloc _
  have q0 := QAt.new w 41 (.slice ao k.c.length cap) (.bool k.d) (.string k.x.a) (.int .u64 (k.x.n : Int))
  have z0 : (w.alloc (.cells #[.slice ao k.c.length cap, .bool k.d, .string k.x.a, .int .u64 (k.x.n : Int)] 41)).heap.size = w.heap.size + 1 := by rw [World.size_alloc]
  have yn := pnew_any (w.alloc (.cells #[.slice ao k.c.length cap, .bool k.d, .string k.x.a, .int .u64 (k.x.n : Int)] 41)) 9223372036854775807 (by decide)
  have hpm : pMax 9223372036854775807 = 9223372036854775807 := rfl
  rw [hpm, z0] at yn
  have hB : ∀ W, Pen W (w.heap.size + 1) (w.heap.size + 1) ⟨#[]⟩ 9223372036854775807 0 → Keep0 w W → Calls Tryz.prog 123 #[pptr (w.heap.size + 1), .slice (some ⟨W.heap.size, 0, none⟩) 1 1] (W.alloc (.cells #[.slice ao k.c.length cap, .bool k.d, .string k.x.a, .int .u64 (k.x.n : Int)] 41)) fun e w' => e = .returned (.tuple #[]) ∧ ∃ r', Pen w' (w.heap.size + 1) r' (pClk 9223372036854775807 (⟨#[]⟩, 0) k).1 9223372036854775807 (pClk 9223372036854775807 (⟨#[]⟩, 0) k).2 ∧ Keep0 w w' := by
    intro W hP hK
    have kA : Keep0 W (W.alloc (.cells #[.slice ao k.c.length cap, .bool k.d, .string k.x.a, .int .u64 (k.x.n : Int)] 41)) := (Keep.refl _ W).alloc _
    have hlt := hP.lt
    refine (put13g (some ⟨W.heap.size, 0, none⟩) 1 [k] (hP.keep0 kA) (by decide) (by show 1 ≤ 100; decide) (fun y hy => by rw [List.mem_singleton.1 hy]; exact ok) ?_).mono ?_
    · intro i hi
      obtain rfl : i = 0 := by simpa using hi
      refine ⟨W.heap.size, 0, ao, cap, rfl, by unfold two; omega, clk_new W _ k ao cap, hc.keep0 (hK.trans kA), fun hl g off m e hh => ?_⟩
      have := ens_old hc hl g off m e
      unfold two at hh
      omega
    · rintro e w' ⟨rfl, r', hp, k, _⟩
      exact ⟨rfl, r', hp, (hK.trans kA).step k (fun i hi hh => by omega)⟩
  have e1 : (encK k).1 = pEnd (pClk 9223372036854775807 (⟨#[]⟩, 0) k).1 (pClk 9223372036854775807 (⟨#[]⟩, 0) k).2 := by rw [← he]
  have e2 : (encK k).2 = (pClk 9223372036854775807 (⟨#[]⟩, 0) k).2 := by rw [← he]
  rw [e1, e2]
  have HB : Hid (∀ W, Pen W (w.heap.size + 1) (w.heap.size + 1) ⟨#[]⟩ 9223372036854775807 0 → Keep0 w W → Calls Tryz.prog 123 #[pptr (w.heap.size + 1), .slice (some ⟨W.heap.size, 0, none⟩) 1 1] (W.alloc (.cells #[.slice ao k.c.length cap, .bool k.d, .string k.x.a, .int .u64 (k.x.n : Int)] 41)) fun e w' => e = .returned (.tuple #[]) ∧ ∃ r', Pen w' (w.heap.size + 1) r' (pClk 9223372036854775807 (⟨#[]⟩, 0) k).1 9223372036854775807 (pClk 9223372036854775807 (⟨#[]⟩, 0) k).2 ∧ Keep0 w w') := hB
  generalize pClk 9223372036854775807 (⟨#[]⟩, 0) k = P at *
  have ye := fun W r' (h : Pen W (w.heap.size + 1) r' P.1 9223372036854775807 P.2) => pend_any h
  generalize pEnd P.1 P.2 = PE at *
  clear he e1 e2 hpm hB hc ok
  go_enter Tryz.func139, Tryz.ntmps139
  go_wp2_with fail
  generalize (w.alloc (.cells #[.slice ao k.c.length cap, .bool k.d, .string k.x.a, .int .u64 (k.x.n : Int)] 41)) = W0 at *
  obtain ⟨g, hg⟩ : ∃ g, w.heap.size = g := ⟨_, rfl⟩
  rw [hg] at q0 z0 yn ye HB ⊢
  refine yn.mono ?_
  rintro e w1 ⟨rfl, h1, k1⟩
  have K1 := k0.trans k1
  have yp := HB.out w1 h1 K1
  obtain ⟨x0, x1, x2, x3, f0, f1, f2, f3⟩ := (q0.keep0 k1).cells
  clear yn HB k0 k1 q0
  go_wp2_with fail
  refine yp.mono ?_
  rintro e w2 ⟨rfl, r2, h2, K2⟩
  have ye := ye _ _ h2
  clear yp K1 h1 x0 x1 x2 x3 f0 f1 f2 f3
  go_wp2_with fail
  refine ye.mono ?_
  rintro e w3 ⟨rfl, rfl⟩
  clear ye
  go_wp2
  go_ret2
  exact ⟨rfl, K2⟩
theorem encK_fine13 {k : Ck} (h : kCheck k = 0) : encK k = (eClk k, 0) := if_pos h
theorem encK_bad13 {k : Ck} (h : kCheck k ≠ 0) : (encK k).2 = kCheck k := by unfold encK; rw [if_neg h]
theorem kBelow_yes {a b : Ck} (h : kCheck a = 0) (h1 : kCheck b = 0) : kBelow a b = (bl (eClk a) (eClk b), 0) := if_pos ⟨h, h1⟩
theorem kBelow_no {a b : Ck} (h : ¬ (kCheck a = 0 ∧ kCheck b = 0)) : kBelow a b = (false, 1) := if_neg h
set_option maxRecDepth 100000 in
set_option maxHeartbeats 4000000 in
theorem below13 (w : World) (ao bo : Option Addr) (ca cb : Nat) (a b : Ck) (oa : Ok13 a) (ob : Ok13 b) (ha : EnsAt w ao a.c) (hb : EnsAt w bo b.c) :
    Calls Tryz.prog 103 #[.agg #[.slice ao a.c.length ca, .bool a.d, .string a.x.a, .int .u64 (a.x.n : Int)], .agg #[.slice bo b.c.length cb, .bool b.d, .string b.x.a, .int .u64 (b.x.n : Int)]] w fun e w' => e = .returned (.tuple #[.bool (kBelow a b).1, .int .i64 (kBelow a b).2]) ∧ Keep0 w w' := by
  have kA : Keep0 w ((w.alloc (.cells #[.slice ao a.c.length ca, .bool a.d, .string a.x.a, .int .u64 (a.x.n : Int)] 41)).alloc (.cells #[.slice bo b.c.length cb, .bool b.d, .string b.x.a, .int .u64 (b.x.n : Int)] 41)) := ((Keep.refl _ w).alloc _).alloc _
  have qa : QAt ((w.alloc (.cells #[.slice ao a.c.length ca, .bool a.d, .string a.x.a, .int .u64 (a.x.n : Int)] 41)).alloc (.cells #[.slice bo b.c.length cb, .bool b.d, .string b.x.a, .int .u64 (b.x.n : Int)] 41)) w.heap.size (.slice ao a.c.length ca) (.bool a.d) (.string a.x.a) (.int .u64 (a.x.n : Int)) := (QAt.new w 41 _ _ _ _).keep0 ((Keep.refl _ _).alloc _)
  have qb : QAt ((w.alloc (.cells #[.slice ao a.c.length ca, .bool a.d, .string a.x.a, .int .u64 (a.x.n : Int)] 41)).alloc (.cells #[.slice bo b.c.length cb, .bool b.d, .string b.x.a, .int .u64 (b.x.n : Int)] 41)) (w.heap.size + 1) (.slice bo b.c.length cb) (.bool b.d) (.string b.x.a) (.int .u64 (b.x.n : Int)) := by
    have := QAt.new (w.alloc (.cells #[.slice ao a.c.length ca, .bool a.d, .string a.x.a, .int .u64 (a.x.n : Int)] 41)) 41 (.slice bo b.c.length cb) (.bool b.d) (.string b.x.a) (.int .u64 (b.x.n : Int))
    rw [World.size_alloc] at this
    exact this
  have ya := encode13 ((w.alloc (.cells #[.slice ao a.c.length ca, .bool a.d, .string a.x.a, .int .u64 (a.x.n : Int)] 41)).alloc (.cells #[.slice bo b.c.length cb, .bool b.d, .string b.x.a, .int .u64 (b.x.n : Int)] 41)) ao ca a oa (ha.keep0 kA)
  have yb := fun W (K : Keep0 w W) => encode13 W bo cb b ob (hb.keep0 K)
  obtain ⟨xa0, xa1, xa2, xa3, fa0, fa1, fa2, fa3⟩ := qa.cells
  obtain ⟨xb0, xb1, xb2, xb3, fb0, fb1, fb2, fb3⟩ := qb.cells
  by_cases h1 : kCheck a = 0
  case neg =>
    rw [kBelow_no (fun h => h1 h.1)]
    have e2 := encK_bad13 h1
    have e3 : ((encK a).2 != 0) = true := by rw [e2]; simpa using h1
    clear e2 h1 oa ob ha hb
    generalize (encK a).2 = EA at *
    generalize (encK a).1 = TA at *
    generalize (encK b).2 = EB at *
    generalize (encK b).1 = TB at *
    go_enter Tryz.func103, Tryz.ntmps103
    go_wp2_with fail
    generalize ((w.alloc (.cells #[.slice ao a.c.length ca, .bool a.d, .string a.x.a, .int .u64 (a.x.n : Int)] 41)).alloc (.cells #[.slice bo b.c.length cb, .bool b.d, .string b.x.a, .int .u64 (b.x.n : Int)] 41)) = W0 at *
    generalize w.heap.size = g at *
    refine ya.mono ?_
    rintro e w1 ⟨rfl, k1⟩
    have K1 := kA.trans k1
    have yb := yb _ K1
    replace qb := qb.keep0 k1
    clear ya kA k1 qa xa0 xa1 xa2 xa3 fa0 fa1 fa2 fa3 xb0 xb1 xb2 xb3 fb0 fb1 fb2 fb3
    obtain ⟨xb0, xb1, xb2, xb3, fb0, fb1, fb2, fb3⟩ := qb.cells
    go_wp2_with fail
    refine yb.mono ?_
    rintro e w2 ⟨rfl, k2⟩
    have K2 := K1.trans k2
    clear yb k2 K1 qb xb0 xb1 xb2 xb3 fb0 fb1 fb2 fb3
    go_wp2
    go_ret2
    exact ⟨rfl, K2⟩
  by_cases h2 : kCheck b = 0
  case neg =>
    rw [kBelow_no (fun h => h2 h.2)]
    have e2 := encK_bad13 h2
    have e3 : ((encK b).2 != 0) = true := by rw [e2]; simpa using h2
    rw [encK_fine13 h1] at ya
    clear e2 h1 h2 oa ob ha hb
    generalize (encK b).2 = EB at *
    generalize (encK b).1 = TB at *
    generalize eClk a = TA at *
    go_enter Tryz.func103, Tryz.ntmps103
    go_wp2_with fail
    generalize ((w.alloc (.cells #[.slice ao a.c.length ca, .bool a.d, .string a.x.a, .int .u64 (a.x.n : Int)] 41)).alloc (.cells #[.slice bo b.c.length cb, .bool b.d, .string b.x.a, .int .u64 (b.x.n : Int)] 41)) = W0 at *
    generalize w.heap.size = g at *
    refine ya.mono ?_
    rintro e w1 ⟨rfl, k1⟩
    have K1 := kA.trans k1
    have yb := yb _ K1
    replace qb := qb.keep0 k1
    clear ya kA k1 qa xa0 xa1 xa2 xa3 fa0 fa1 fa2 fa3 xb0 xb1 xb2 xb3 fb0 fb1 fb2 fb3
    obtain ⟨xb0, xb1, xb2, xb3, fb0, fb1, fb2, fb3⟩ := qb.cells
    go_wp2_with fail
    refine yb.mono ?_
    rintro e w2 ⟨rfl, k2⟩
    have K2 := K1.trans k2
    clear yb k2 K1 qb xb0 xb1 xb2 xb3 fb0 fb1 fb2 fb3
    go_wp2
    go_ret2
    exact ⟨rfl, K2⟩
  rw [kBelow_yes h1 h2]
  rw [encK_fine13 h1] at ya
  rw [encK_fine13 h2] at yb
  clear h1 h2 oa ob ha hb
  generalize eClk a = TA at *
  generalize eClk b = TB at *
  have yr := fun (W : World) => rising6_any _ _ 2 [TA, TB] (by show 2 ≤ maxLen; unfold maxLen; omega) (texts_two10 W 9 TA TB)
  have el : [TA, TB].length = 2 := rfl
  rw [el] at yr
  cases hB : bl TA TB with
  | true =>
    rw [rise_yes hB] at yr
    clear el hB
    go_enter Tryz.func103, Tryz.ntmps103
    go_wp2_with fail
    generalize ((w.alloc (.cells #[.slice ao a.c.length ca, .bool a.d, .string a.x.a, .int .u64 (a.x.n : Int)] 41)).alloc (.cells #[.slice bo b.c.length cb, .bool b.d, .string b.x.a, .int .u64 (b.x.n : Int)] 41)) = W0 at *
    generalize w.heap.size = g at *
    refine ya.mono ?_
    rintro e w1 ⟨rfl, k1⟩
    have K1 := kA.trans k1
    have yb := yb _ K1
    replace qb := qb.keep0 k1
    clear ya kA k1 qa xa0 xa1 xa2 xa3 fa0 fa1 fa2 fa3 xb0 xb1 xb2 xb3 fb0 fb1 fb2 fb3
    obtain ⟨xb0, xb1, xb2, xb3, fb0, fb1, fb2, fb3⟩ := qb.cells
    go_wp2_with fail
    refine yb.mono ?_
    rintro e w2 ⟨rfl, k2⟩
    have K2 := K1.trans k2
    clear yb k2 K1 qb xb0 xb1 xb2 xb3 fb0 fb1 fb2 fb3
    have yr := yr w2
    have kR : Keep0 w2 (w2.alloc (.cells #[.string TA, .string TB] 9)) := (Keep.refl _ w2).alloc _
    have K3 := K2.trans kR
    clear kR
    go_wp2_with fail
    refine yr.mono ?_
    rintro e w3 ⟨rfl, k3⟩
    have K4 := K3.trans (keepN k3)
    clear yr k3 K3 K2
    go_wp2
    go_ret2
    exact ⟨rfl, K4⟩
  | false =>
    rw [rise_no hB] at yr
    clear el hB
    go_enter Tryz.func103, Tryz.ntmps103
    go_wp2_with fail
    generalize ((w.alloc (.cells #[.slice ao a.c.length ca, .bool a.d, .string a.x.a, .int .u64 (a.x.n : Int)] 41)).alloc (.cells #[.slice bo b.c.length cb, .bool b.d, .string b.x.a, .int .u64 (b.x.n : Int)] 41)) = W0 at *
    generalize w.heap.size = g at *
    refine ya.mono ?_
    rintro e w1 ⟨rfl, k1⟩
    have K1 := kA.trans k1
    have yb := yb _ K1
    replace qb := qb.keep0 k1
    clear ya kA k1 qa xa0 xa1 xa2 xa3 fa0 fa1 fa2 fa3 xb0 xb1 xb2 xb3 fb0 fb1 fb2 fb3
    obtain ⟨xb0, xb1, xb2, xb3, fb0, fb1, fb2, fb3⟩ := qb.cells
    go_wp2_with fail
    refine yb.mono ?_
    rintro e w2 ⟨rfl, k2⟩
    have K2 := K1.trans k2
    clear yb k2 K1 qb xb0 xb1 xb2 xb3 fb0 fb1 fb2 fb3
    have yr := yr w2
    have kR : Keep0 w2 (w2.alloc (.cells #[.string TA, .string TB] 9)) := (Keep.refl _ w2).alloc _
    have K3 := K2.trans kR
    clear kR
    go_wp2_with fail
    refine yr.mono ?_
    rintro e w3 ⟨rfl, k3⟩
    have K4 := K3.trans (keepN k3)
    clear yr k3 K3 K2
    go_wp2
    go_ret2
    exact ⟨rfl, K4⟩
end Go.Proofs.YteonkfedgopdiaaGreat
