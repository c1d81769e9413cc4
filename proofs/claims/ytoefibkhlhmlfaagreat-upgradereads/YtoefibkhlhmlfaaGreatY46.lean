/-
  What this seat's claims lean on of the texts ObE.
  Conditions: as each theorem states.
-/
import Derived.WalkKit
import Derived.ProofKit
import Derived.Below
import Derived.Deep.Draws
import Derived.Deep.RegionHeld
import Derived.Test.YtoefibkhlhmlfaaGreatChecked
import Derived.OpenShut
import Derived.ShutString
import Derived.WalkSpells
import Derived.WalkLawsBesides
import Derived.Deep.QuietTactic
import Derived.BigQuiet
import Derived.Laws.Bits64b
import Derived.PlainAid
import Derived.Lib.AppendStr
import Derived.Deep.AppendLies
import Derived.Laws.IdiomStrings
import Derived.Laws.BytesArg
import Derived.Deep.RegionWith
import Derived.Laws.AppendOwn
import Derived.Deep.DeepAppendWide
import Derived.Deep.Upon
import Derived.Maps.AppendAt
import Derived.Laws.Rows
import Derived.Deep.Slices
import Derived.Deep.CutRange
import Derived.Deep.RegionLaw
import Derived.RunT
import Derived.Calls
import Derived.Test.YtoefibkhlhmlfaaGreatY45
import Derived.Test.YtoefibkhlhmlfaaGreatY38
import Derived.Test.YtoefibkhlhmlfaaGreatY4
namespace Go.Proofs.YtoefibkhlhmlfaaGreat
open Go.RowKit
theorem oGo_six : ∀ (l : List Sb) (p : Option ByteArray), (∀ x ∈ l, sCheck x = 0) → oGo p l = 0 ∨ oGo p l = 6
  | [], _, _ => .inl rfl
  | x :: l, p, h => by
    rw [oGo]
    have h0 := h x List.mem_cons_self
    have e : oOne p x = fTest p x := if_pos h0
    by_cases hf : oOne p x = 0
    · rw [if_pos hf]
      exact oGo_six l _ (fun y hy => h y (List.mem_cons_of_mem _ hy))
    · rw [if_neg hf, e]
      rw [e] at hf
      unfold fTest at hf ⊢
      split
      · exact .inr rfl
      · rename_i hn
        rw [if_neg hn] at hf
        exact absurd rfl hf
theorem oSort_weak {key : ByteArray} {l R : List Sb} (h : outS key l.length = 0) (hb : sBad l = 0) (hp : R.Perm l) (hw : Weak R) : oSort key l = if oCheck ⟨key, R⟩ = 0 then (⟨key, R⟩, 0) else (zOb, oCheck ⟨key, R⟩) := by
  have hR : ∀ x ∈ R, sCheck x = 0 := fun x hx => sBad_zero.1 hb x (hp.mem_iff.1 hx)
  have ho : outS key R.length = 0 := by rw [hp.length_eq]; exact h
  have hc : oCheck ⟨key, R⟩ = oGo none R := if_pos ho
  by_cases h0 : oGo none R = 0
  · rw [hc, if_pos h0]
    exact oSort_yes h hb hp ((oGo_zero R none).1 h0).1.2
  · have h6 := (oGo_six R none hR).resolve_left h0
    rw [hc, if_neg h0, h6]
    refine oSort_same h hb (fun ha => h0 ?_)
    exact (oGo_zero R none).2 ⟨⟨hR, weak_rise hw ((apart_perm hp).2 ha)⟩, fun q e => by cases e⟩
def cmpS (x y : Sb) : Int := if bl (kb x) (kb y) = true then -1 else if bl (kb y) (kb x) = true then 1 else 0
theorem cmpS_lt (x y : Sb) : decide (cmpS x y < 0) = bl (kb x) (kb y) := by
  unfold cmpS
  cases h : bl (kb x) (kb y) with
  | true => rfl
  | false =>
    rw [if_neg (by decide)]
    split <;> rfl
set_option maxRecDepth 100000 in
set_option maxHeartbeats 8000000 in
theorem closure16 (w : World) (vo : Option Addr) (vc : Nat) (po : Option Addr) (pc : Nat) (x : Sb) (vo' : Option Addr) (vc' : Nat) (po' : Option Addr) (pc' : Nat) (y : Sb) (cx : sCheck x = 0) (cy : sCheck y = 0) (ox : Ok15 x) (oy : Ok15 y) (hx : EnsAt w vo x.k.c) (hy : EnsAt w vo' y.k.c) :
    Calls Tryz.prog 64 #[.agg #[.slice vo x.k.c.length vc, .bool x.k.d, .string x.k.x.a, .int .u64 (x.k.x.n : Int), .slice po x.m.length pc, .bool x.d, .string x.v], .agg #[.slice vo' y.k.c.length vc', .bool y.k.d, .string y.k.x.a, .int .u64 (y.k.x.n : Int), .slice po' y.m.length pc', .bool y.d, .string y.v]] w fun e w' => e = .returned (.int .i64 (cmpS x y)) ∧ Keep0 w w' := by
  have k0 : Keep0 w (w.alloc (.cells #[.slice vo x.k.c.length vc, .bool x.k.d, .string x.k.x.a, .int .u64 (x.k.x.n : Int), .slice po x.m.length pc, .bool x.d, .string x.v] 61)) := (Keep.refl _ w).alloc _
  have kB : Keep0 (w.alloc (.cells #[.slice vo x.k.c.length vc, .bool x.k.d, .string x.k.x.a, .int .u64 (x.k.x.n : Int), .slice po x.m.length pc, .bool x.d, .string x.v] 61)) ((w.alloc (.cells #[.slice vo x.k.c.length vc, .bool x.k.d, .string x.k.x.a, .int .u64 (x.k.x.n : Int), .slice po x.m.length pc, .bool x.d, .string x.v] 61)).alloc (.cells #[.slice vo' y.k.c.length vc', .bool y.k.d, .string y.k.x.a, .int .u64 (y.k.x.n : Int), .slice po' y.m.length pc', .bool y.d, .string y.v] 61)) := (Keep.refl _ _).alloc _
  have kA := k0.trans kB
  obtain ⟨x0, x1, x2, x3, x4, x5, x6⟩ := (sib_new w 61 x vo vc po pc).keep0 kB
  have hN := sib_new (w.alloc (.cells #[.slice vo x.k.c.length vc, .bool x.k.d, .string x.k.x.a, .int .u64 (x.k.x.n : Int), .slice po x.m.length pc, .bool x.d, .string x.v] 61)) 61 y vo' vc' po' pc'
  rw [World.size_alloc] at hN
  obtain ⟨z0, z1, z2, z3, z4, z5, z6⟩ := hN
  have e1 : (kBelow x.k y.k).1 = bl (kb x) (kb y) := by rw [kBelow_yes (sCheck_zero.1 cx).1 (sCheck_zero.1 cy).1]; rfl
  have e2 : (kBelow y.k x.k).1 = bl (kb y) (kb x) := by rw [kBelow_yes (sCheck_zero.1 cy).1 (sCheck_zero.1 cx).1]; rfl
  have ya := rise16 ((w.alloc (.cells #[.slice vo x.k.c.length vc, .bool x.k.d, .string x.k.x.a, .int .u64 (x.k.x.n : Int), .slice po x.m.length pc, .bool x.d, .string x.v] 61)).alloc (.cells #[.slice vo' y.k.c.length vc', .bool y.k.d, .string y.k.x.a, .int .u64 (y.k.x.n : Int), .slice po' y.m.length pc', .bool y.d, .string y.v] 61)) vo vc po pc x vo' vc' po' pc' y ox oy (hx.keep0 kA) (hy.keep0 kA)
  have yb := fun W (K : Keep0 w W) => rise16 W vo' vc' po' pc' y vo vc po pc x oy ox (hy.keep0 K) (hx.keep0 K)
  rw [e1] at ya
  rw [e2] at yb
  unfold cmpS
  clear k0 kB ox oy hx hy cx cy e1 e2
  generalize bl (kb x) (kb y) = BA at *
  generalize bl (kb y) (kb x) = BB at *
  go_enter Tryz.func64, Tryz.ntmps64
  go_wp2_with fail
  generalize ((w.alloc (.cells #[.slice vo x.k.c.length vc, .bool x.k.d, .string x.k.x.a, .int .u64 (x.k.x.n : Int), .slice po x.m.length pc, .bool x.d, .string x.v] 61)).alloc (.cells #[.slice vo' y.k.c.length vc', .bool y.k.d, .string y.k.x.a, .int .u64 (y.k.x.n : Int), .slice po' y.m.length pc', .bool y.d, .string y.v] 61)) = W0 at *
  generalize w.heap.size = g at *
  refine ya.mono ?_
  rintro e w1 ⟨rfl, k1⟩
  have K1 := kA.trans k1
  have yb := yb _ K1
  replace x0 := k1.cell x0 (fun f => f)
  replace x1 := k1.cell x1 (fun f => f)
  replace x2 := k1.cell x2 (fun f => f)
  replace x3 := k1.cell x3 (fun f => f)
  replace x4 := k1.cell x4 (fun f => f)
  replace x5 := k1.cell x5 (fun f => f)
  replace x6 := k1.cell x6 (fun f => f)
  replace z0 := k1.cell z0 (fun f => f)
  replace z1 := k1.cell z1 (fun f => f)
  replace z2 := k1.cell z2 (fun f => f)
  replace z3 := k1.cell z3 (fun f => f)
  replace z4 := k1.cell z4 (fun f => f)
  replace z5 := k1.cell z5 (fun f => f)
  replace z6 := k1.cell z6 (fun f => f)
  clear ya k1 kA
  cases BA with
  | true =>
    clear yb x0 x1 x2 x3 x4 x5 x6 z0 z1 z2 z3 z4 z5 z6
    go_wp2
    go_ret
    exact ⟨rfl, K1⟩
  | false =>
    go_wp2_with fail
    refine yb.mono ?_
    rintro e w2 ⟨rfl, k2⟩
    have K2 := K1.trans k2
    clear yb k2 K1 x0 x1 x2 x3 x4 x5 x6 z0 z1 z2 z3 z4 z5 z6
    cases BB with
    | true =>
      go_wp2
      go_ret
      exact ⟨rfl, K2⟩
    | false =>
      go_wp2
      go_ret
      exact ⟨rfl, K2⟩
end Go.Proofs.YtoefibkhlhmlfaaGreat
