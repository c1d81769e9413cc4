/-
  What this seat's claims lean on of the texts Decodes15.
  Conditions: as each theorem states.
-/
import Derived.WalkKit
import Derived.ProofKit
import Derived.Below
import Derived.Deep.Draws
import Derived.Deep.RegionHeld
import Derived.Test.YtfpahdnhnhkcdaaChecked
import Derived.OpenShut
import Derived.ShutString
import Derived.WalkSpells
import Derived.WalkLawsBesides
import Derived.Deep.QuietTactic
import Derived.BigQuiet
import Derived.Laws.Bits64b
import Derived.PlainAid
import Derived.Lib.AppendStr
import Derived.Deep.AppendLies
import Derived.Laws.IdiomStrings
import Derived.Laws.BytesArg
import Derived.Deep.RegionWith
import Derived.Laws.AppendOwn
import Derived.Deep.DeepAppendWide
import Derived.Deep.Upon
import Derived.Laws.Rows
import Derived.Deep.Slices
import Derived.Test.YtfpahdnhnhkcdaaZ27
namespace Go.Proofs.Ytfpahdnhnhkcdaa
open Go.RowKit
theorem decS_ok (s : ByteArray) : Ok15 (decS s).1 := by
  by_cases h : (decS s).2 = 0
  · exact (sib_codec.dec_zero (z := zSb) h).1.ok
  · have e : (decS s).1 = zSb := dec_no h
    rw [e]
    exact zSb_ok
set_option maxRecDepth 100000 in
set_option maxHeartbeats 8000000 in
theorem siblingDecodes_law (V : SibCode) (w : World) (s : ByteArray) (hs : s.size ≤ maxLen) :
    Calls Try.prog 4 #[.string s] w fun e w' => e = .returned (.bool true) ∧ Keep0 w w' := by
  by_cases hl : (s.size : Int) ≤ 3000
  case neg =>
    have i0 : (s.size : Int) ≤ 9223372036854775807 := by unfold maxLen at hs; omega
    have i1 : (3000 : Int) < s.size := by omega
    go_enter Try.func4, Try.ntmps4
    go_wp2_with fail
    refine (awake15 V w).mono ?_
    rintro e w1 ⟨rfl, K1⟩
    go_wp2
    go_ret
    exact ⟨rfl, K1⟩
  have i0 : (s.size : Int) ≤ 9223372036854775807 := by omega
  have i1 : ¬ (3000 : Int) < s.size := by omega
  have yd := fun W => V.decode W s (by omega)
  have yr := fun W => rdecode15 W s hs
  have ok := decS_ok s
  have hz : (decS s).2 = 0 → okSib (decS s).1 ∧ eSib (decS s).1 = s := sib_codec.dec_zero (z := zSb)
  obtain ⟨D, hD⟩ : ∃ D, (decS s).1 = D := ⟨_, rfl⟩
  obtain ⟨E, hE⟩ : ∃ E, (decS s).2 = E := ⟨_, rfl⟩
  have hDE : decS s = (D, E) := by rw [← hD, ← hE]
  rw [hD] at ok hz
  rw [hE] at hz
  replace yd : ∀ W, Calls Try.prog 17 #[.string s] W fun e w' => ∃ vo vc po pc, e = .returned (.tuple #[.agg #[.slice vo D.k.c.length vc, .bool D.k.d, .string D.k.x.a, .int .u64 (D.k.x.n : Int), .slice po D.m.length pc, .bool D.d, .string D.v], .int .i64 E]) ∧ SibIn w' vo po pc D ∧ Keep0 W w' := by
    intro W
    have := yd W
    rw [hDE] at this
    refine this.mono ?_
    rintro e w' ⟨vo, vc, po, pc, h1, h2, _, _, h3⟩
    exact ⟨vo, vc, po, pc, h1, h2, h3⟩
  replace yr : ∀ W, Calls Try.prog 18 #[.string s] W fun e w' => ∃ vo vc po pc, e = .returned (.tuple #[.agg #[.slice vo D.k.c.length vc, .bool D.k.d, .string D.k.x.a, .int .u64 (D.k.x.n : Int), .slice po D.m.length pc, .bool D.d, .string D.v], .int .i64 E]) ∧ SibIn w' vo po pc D ∧ Keep0 W w' := by
    intro W
    have := yr W
    rw [hDE] at this
    refine this.mono ?_
    rintro e w' ⟨vo, vc, po, pc, h1, h2, _, _, h3⟩
    exact ⟨vo, vc, po, pc, h1, h2, h3⟩
  have ys := fun W vo vc po pc uo uc ro rc (h : SibIn W vo po pc D) (h' : SibIn W uo ro rc D) => rsame15 W vo vc po pc D uo uc ro rc D ok.fit ok.fit h h'
  rw [sSame_iff.2 rfl] at ys
  have ye := fun W vo vc po pc (h : SibIn W vo po pc D) => V.encode W vo vc po pc D ok h
  have yc := fun W vo vc po pc (h : SibIn W vo po pc D) => rcheck15 W vo vc po pc D ok.fit h
  clear hD hE hDE
  by_cases h0 : E = 0
  · obtain ⟨h1, h2⟩ := hz h0
    have hen : encS D = (s, 0) := by unfold encS; rw [if_pos h1.zero, h2, if_pos (by omega)]
    rw [hen] at ye
    rw [h1.zero] at yc
    subst h0
    clear hz h1 h2 hen ok
    go_enter Try.func4, Try.ntmps4
    go_wp2_with fail
    refine (awake15 V w).mono ?_
    rintro e w1 ⟨rfl, K1⟩
    go_wp2_with fail
    refine (yd w1).mono ?_
    rintro e w2 ⟨vo, vc, po, pc, rfl, x1, k2⟩
    have K2 := K1.trans k2
    have kB : Keep0 w2 (w2.alloc (.cells #[.slice vo D.k.c.length vc, .bool D.k.d, .string D.k.x.a, .int .u64 (D.k.x.n : Int), .slice po D.m.length pc, .bool D.d, .string D.v] 30)) := (Keep.refl _ _).alloc _
    have hX := sib_new w2 30 D vo vc po pc
    have x1 := x1.keep0 kB
    have K3 := K2.trans kB
    clear K1 k2 yd K2 kB
    go_wp2_with fail
    generalize (w2.alloc (.cells #[.slice vo D.k.c.length vc, .bool D.k.d, .string D.k.x.a, .int .u64 (D.k.x.n : Int), .slice po D.m.length pc, .bool D.d, .string D.v] 30)) = w3 at *
    obtain ⟨g1, hg1⟩ : ∃ g1, w2.heap.size = g1 := ⟨_, rfl⟩
    rw [hg1] at hX ⊢
    clear hg1
    refine (yr w3).mono ?_
    rintro e w4 ⟨uo, uc, ro, rc, rfl, y1, k4⟩
    have K4 := K3.trans k4
    have kC : Keep0 w4 (w4.alloc (.cells #[.slice uo D.k.c.length uc, .bool D.k.d, .string D.k.x.a, .int .u64 (D.k.x.n : Int), .slice ro D.m.length rc, .bool D.d, .string D.v] 30)) := (Keep.refl _ _).alloc _
    have hZ := sib_new w4 30 D uo uc ro rc
    have hX := (hX.keep0 k4).keep0 kC
    have x1 := (x1.keep0 k4).keep0 kC
    have y1 := y1.keep0 kC
    have K5 := K4.trans kC
    clear K3 k4 yr K4 kC
    obtain ⟨a0, a1, a2, a3, a4, a5, a6⟩ := hX
    obtain ⟨b0, b1, b2, b3, b4, b5, b6⟩ := hZ
    go_wp2_with fail
    generalize (w4.alloc (.cells #[.slice uo D.k.c.length uc, .bool D.k.d, .string D.k.x.a, .int .u64 (D.k.x.n : Int), .slice ro D.m.length rc, .bool D.d, .string D.v] 30)) = w5 at *
    generalize w4.heap.size = g2 at *
    refine (ys w5 vo vc po pc uo uc ro rc x1 y1).mono ?_
    rintro e w6 ⟨rfl, k6⟩
    have K6 := K5.trans k6
    replace a0 := k6.cell a0 (fun f => f)
    replace a1 := k6.cell a1 (fun f => f)
    replace a2 := k6.cell a2 (fun f => f)
    replace a3 := k6.cell a3 (fun f => f)
    replace a4 := k6.cell a4 (fun f => f)
    replace a5 := k6.cell a5 (fun f => f)
    replace a6 := k6.cell a6 (fun f => f)
    replace x1 := x1.keep0 k6
    clear K5 k6 y1 b0 b1 b2 b3 b4 b5 b6 ys
    go_wp2_with fail
    refine (ye w6 vo vc po pc x1).mono ?_
    rintro e w7 ⟨rfl, k7⟩
    have K7 := K6.trans k7
    replace a0 := k7.cell a0 (fun f => f)
    replace a1 := k7.cell a1 (fun f => f)
    replace a2 := k7.cell a2 (fun f => f)
    replace a3 := k7.cell a3 (fun f => f)
    replace a4 := k7.cell a4 (fun f => f)
    replace a5 := k7.cell a5 (fun f => f)
    replace a6 := k7.cell a6 (fun f => f)
    replace x1 := x1.keep0 k7
    clear K6 k7 ye
    go_wp2_with fail
    refine (yc w7 vo vc po pc x1).mono ?_
    rintro e w8 ⟨rfl, k8⟩
    have K8 := K7.trans k8
    clear K7 k8 yc
    go_wp2
    go_ret
    exact ⟨by simp, K8⟩
  · have e0 : (E != 0) = true := by simpa using h0
    have e1 : ¬ E = 0 := h0
    clear hz ok ye yc h0
    go_enter Try.func4, Try.ntmps4
    go_wp2_with fail
    refine (awake15 V w).mono ?_
    rintro e w1 ⟨rfl, K1⟩
    go_wp2_with fail
    refine (yd w1).mono ?_
    rintro e w2 ⟨vo, vc, po, pc, rfl, x1, k2⟩
    have K2 := K1.trans k2
    have kB : Keep0 w2 (w2.alloc (.cells #[.slice vo D.k.c.length vc, .bool D.k.d, .string D.k.x.a, .int .u64 (D.k.x.n : Int), .slice po D.m.length pc, .bool D.d, .string D.v] 30)) := (Keep.refl _ _).alloc _
    have hX := sib_new w2 30 D vo vc po pc
    have x1 := x1.keep0 kB
    have K3 := K2.trans kB
    clear K1 k2 yd K2 kB
    go_wp2_with fail
    generalize (w2.alloc (.cells #[.slice vo D.k.c.length vc, .bool D.k.d, .string D.k.x.a, .int .u64 (D.k.x.n : Int), .slice po D.m.length pc, .bool D.d, .string D.v] 30)) = w3 at *
    obtain ⟨g1, hg1⟩ : ∃ g1, w2.heap.size = g1 := ⟨_, rfl⟩
    rw [hg1] at hX ⊢
    clear hg1
    refine (yr w3).mono ?_
    rintro e w4 ⟨uo, uc, ro, rc, rfl, y1, k4⟩
    have K4 := K3.trans k4
    have kC : Keep0 w4 (w4.alloc (.cells #[.slice uo D.k.c.length uc, .bool D.k.d, .string D.k.x.a, .int .u64 (D.k.x.n : Int), .slice ro D.m.length rc, .bool D.d, .string D.v] 30)) := (Keep.refl _ _).alloc _
    have hZ := sib_new w4 30 D uo uc ro rc
    have hX := (hX.keep0 k4).keep0 kC
    have x1 := (x1.keep0 k4).keep0 kC
    have y1 := y1.keep0 kC
    have K5 := K4.trans kC
    clear K3 k4 yr K4 kC
    obtain ⟨a0, a1, a2, a3, a4, a5, a6⟩ := hX
    obtain ⟨b0, b1, b2, b3, b4, b5, b6⟩ := hZ
    go_wp2_with fail
    generalize (w4.alloc (.cells #[.slice uo D.k.c.length uc, .bool D.k.d, .string D.k.x.a, .int .u64 (D.k.x.n : Int), .slice ro D.m.length rc, .bool D.d, .string D.v] 30)) = w5 at *
    generalize w4.heap.size = g2 at *
    refine (ys w5 vo vc po pc uo uc ro rc x1 y1).mono ?_
    rintro e w6 ⟨rfl, k6⟩
    have K6 := K5.trans k6
    replace a0 := k6.cell a0 (fun f => f)
    replace a1 := k6.cell a1 (fun f => f)
    replace a2 := k6.cell a2 (fun f => f)
    replace a3 := k6.cell a3 (fun f => f)
    replace a4 := k6.cell a4 (fun f => f)
    replace a5 := k6.cell a5 (fun f => f)
    replace a6 := k6.cell a6 (fun f => f)
    replace x1 := x1.keep0 k6
    clear K5 k6 y1 b0 b1 b2 b3 b4 b5 b6 ys
    go_wp2
    go_ret
    exact ⟨by simp, K6⟩
end Go.Proofs.Ytfpahdnhnhkcdaa
