/-
  What this seat's claims lean on of the texts RefOld.
  Conditions: as each theorem states.
-/
import Derived.WalkKit
import Derived.ProofKit
import Derived.Below
import Derived.Deep.Draws
import Derived.Deep.RegionHeld
import Derived.Test.YtmllchembkpdkaaChecked
import Derived.OpenShut
import Derived.ShutString
import Derived.WalkSpells
import Derived.WalkLawsBesides
import Derived.Deep.QuietTactic
import Derived.BigQuiet
import Derived.Laws.Bits64b
import Derived.PlainAid
import Derived.Lib.AppendStr
import Derived.Deep.AppendLies
import Derived.Laws.IdiomStrings
import Derived.Laws.BytesArg
import Derived.Deep.RegionWith
import Derived.Laws.AppendOwn
import Derived.Deep.DeepAppendWide
import Derived.Deep.Upon
import Derived.Maps.AppendAt
import Derived.Deep.Slices
import Derived.Test.YtmllchembkpdkaaZ22
import Derived.Test.YtmllchembkpdkaaZ17
namespace Go.Proofs.Ytmllchembkpdkaa
open Go.RowKit
theorem vSameL_eq (a b : List En) : seenIn.vSameL a b = vSame a b := by
  rw [Bool.eq_iff_iff, vSameL_iff, vSame_iff]
set_option maxRecDepth 100000 in
set_option maxHeartbeats 8000000 in
theorem rone17_any (w : World) (vo vo1 : Option Addr) (vc vc1 : Nat) (c c1 : List En) (d d1 : Bool) (v v1 : ByteArray) (fc : Fits c) (fc1 : Fits c1) (hp : EnsAt w vo c) (hq : EnsAt w vo1 c1) :
    Calls Try.prog 38 #[.agg #[.slice vo c.length vc, .bool d, .string v], .agg #[.slice vo1 c1.length vc1, .bool d1, .string v1]] w fun e w' => e = .returned (.bool (vSame c c1 && (decide (d = d1) && decide (v = v1)))) ∧ Keep0 w w' := by
  have k1 : Keep0 (w.alloc (.cells #[.slice vo c.length vc, .bool d, .string v] 47)) ((w.alloc (.cells #[.slice vo c.length vc, .bool d, .string v] 47)).alloc (.cells #[.slice vo1 c1.length vc1, .bool d1, .string v1] 47)) := (Keep.refl _ _).alloc _
  have kB : Keep0 w ((w.alloc (.cells #[.slice vo c.length vc, .bool d, .string v] 47)).alloc (.cells #[.slice vo1 c1.length vc1, .bool d1, .string v1] 47)) := ((Keep.refl _ w).alloc _).alloc _
  obtain ⟨a0, a1, a2⟩ := (poAt_new w 47 ⟨⟨c, d, v⟩, vo, vc⟩).keep0 k1
  obtain ⟨b0, b1, b2⟩ := poAt_new (w.alloc (.cells #[.slice vo c.length vc, .bool d, .string v] 47)) 47 ⟨⟨c1, d1, v1⟩, vo1, vc1⟩
  rw [World.size_alloc] at b0 b1 b2
  have ys := rsame10 ((w.alloc (.cells #[.slice vo c.length vc, .bool d, .string v] 47)).alloc (.cells #[.slice vo1 c1.length vc1, .bool d1, .string v1] 47)) vo vo1 vc vc1 c c1 fc.1 fc1.1 (hp.keep0 kB) (hq.keep0 kB)
  have a0 : (((w.alloc (.cells #[.slice vo c.length vc, .bool d, .string v] 47)).alloc (.cells #[.slice vo1 c1.length vc1, .bool d1, .string v1] 47))).cell? ⟨w.heap.size, 0, none⟩ = some (.slice vo c.length vc) := a0
  have a1 : (((w.alloc (.cells #[.slice vo c.length vc, .bool d, .string v] 47)).alloc (.cells #[.slice vo1 c1.length vc1, .bool d1, .string v1] 47))).cell? ⟨w.heap.size, 1, none⟩ = some (.bool d) := by have h := a1; rwa [Nat.zero_add] at h
  have a2 : (((w.alloc (.cells #[.slice vo c.length vc, .bool d, .string v] 47)).alloc (.cells #[.slice vo1 c1.length vc1, .bool d1, .string v1] 47))).cell? ⟨w.heap.size, 2, none⟩ = some (.string v) := by have h := a2; rwa [Nat.zero_add] at h
  have b0 : (((w.alloc (.cells #[.slice vo c.length vc, .bool d, .string v] 47)).alloc (.cells #[.slice vo1 c1.length vc1, .bool d1, .string v1] 47))).cell? ⟨w.heap.size + 1, 0, none⟩ = some (.slice vo1 c1.length vc1) := b0
  have b1 : (((w.alloc (.cells #[.slice vo c.length vc, .bool d, .string v] 47)).alloc (.cells #[.slice vo1 c1.length vc1, .bool d1, .string v1] 47))).cell? ⟨w.heap.size + 1, 1, none⟩ = some (.bool d1) := by have h := b1; rwa [Nat.zero_add] at h
  have b2 : (((w.alloc (.cells #[.slice vo c.length vc, .bool d, .string v] 47)).alloc (.cells #[.slice vo1 c1.length vc1, .bool d1, .string v1] 47))).cell? ⟨w.heap.size + 1, 2, none⟩ = some (.string v1) := by have h := b2; rwa [Nat.zero_add] at h
  clear k1 hp hq fc fc1
  cases hs : vSame c c1 with
  | false =>
    rw [hs] at ys
    go_enter Try.func38, Try.ntmps38
    go_wp2_with fail
    generalize ((w.alloc (.cells #[.slice vo c.length vc, .bool d, .string v] 47)).alloc (.cells #[.slice vo1 c1.length vc1, .bool d1, .string v1] 47)) = WB at *
    generalize w.heap.size = g at *
    refine ys.mono ?_
    rintro e w3 ⟨rfl, h3⟩
    have k3 := keepN h3
    replace a1 := k3.cell a1 (fun f => f)
    replace a2 := k3.cell a2 (fun f => f)
    replace b1 := k3.cell b1 (fun f => f)
    replace b2 := k3.cell b2 (fun f => f)
    have K3 := kB.trans k3
    clear ys h3 k3 kB a0 b0
    go_wp2
    go_ret
    exact ⟨by simp, K3⟩
  | true =>
    rw [hs] at ys
    by_cases hd : d = d1
    case neg =>
      have e1 : (d == d1) = false := beq_eq_false_iff_ne.2 hd
      go_enter Try.func38, Try.ntmps38
      go_wp2_with fail
      generalize ((w.alloc (.cells #[.slice vo c.length vc, .bool d, .string v] 47)).alloc (.cells #[.slice vo1 c1.length vc1, .bool d1, .string v1] 47)) = WB at *
      generalize w.heap.size = g at *
      refine ys.mono ?_
      rintro e w3 ⟨rfl, h3⟩
      have k3 := keepN h3
      replace a1 := k3.cell a1 (fun f => f)
      replace a2 := k3.cell a2 (fun f => f)
      replace b1 := k3.cell b1 (fun f => f)
      replace b2 := k3.cell b2 (fun f => f)
      have K3 := kB.trans k3
      clear ys h3 k3 kB a0 b0
      go_wp2
      go_ret
      exact ⟨by simp [hd], K3⟩
    subst hd
    by_cases hv : v = v1
    · subst hv
      go_enter Try.func38, Try.ntmps38
      go_wp2_with fail
      generalize ((w.alloc (.cells #[.slice vo c.length vc, .bool d, .string v] 47)).alloc (.cells #[.slice vo1 c1.length vc1, .bool d, .string v] 47)) = WB at *
      generalize w.heap.size = g at *
      refine ys.mono ?_
      rintro e w3 ⟨rfl, h3⟩
      have k3 := keepN h3
      replace a1 := k3.cell a1 (fun f => f)
      replace a2 := k3.cell a2 (fun f => f)
      replace b1 := k3.cell b1 (fun f => f)
      replace b2 := k3.cell b2 (fun f => f)
      have K3 := kB.trans k3
      clear ys h3 k3 kB a0 b0
      go_wp2
      go_ret
      exact ⟨by simp, K3⟩
    · obtain ⟨n1, n2, n3⟩ := txt_ne hv
      go_enter Try.func38, Try.ntmps38
      go_wp2_with fail
      generalize ((w.alloc (.cells #[.slice vo c.length vc, .bool d, .string v] 47)).alloc (.cells #[.slice vo1 c1.length vc1, .bool d, .string v1] 47)) = WB at *
      generalize w.heap.size = g at *
      refine ys.mono ?_
      rintro e w3 ⟨rfl, h3⟩
      have k3 := keepN h3
      replace a1 := k3.cell a1 (fun f => f)
      replace a2 := k3.cell a2 (fun f => f)
      replace b1 := k3.cell b1 (fun f => f)
      replace b2 := k3.cell b2 (fun f => f)
      have K3 := kB.trans k3
      clear ys h3 k3 kB a0 b0
      go_wp2
      go_ret
      exact ⟨by simp [hv], K3⟩
theorem rone17 (w : World) (p q : Po) (fp : FitsOs p.x) (fq : FitsOs q.x) (hp : EnsAt w p.vo p.x.c) (hq : EnsAt w q.vo q.x.c) :
    Calls Try.prog 38 #[.agg #[.slice p.vo p.x.c.length p.vc, .bool p.x.d, .string p.x.v], .agg #[.slice q.vo q.x.c.length q.vc, .bool q.x.d, .string q.x.v]] w fun e w' => e = .returned (.bool (osSame p.x q.x)) ∧ Keep0 w w' := by
  have h := rone17_any w p.vo q.vo p.vc q.vc p.x.c q.x.c p.x.d q.x.d p.x.v q.x.v fp.vec fq.vec hp hq
  rw [← vSameL_eq] at h
  exact h
end Go.Proofs.Ytmllchembkpdkaa
