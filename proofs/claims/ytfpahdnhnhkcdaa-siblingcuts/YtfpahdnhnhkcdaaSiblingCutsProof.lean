/-
  The law SiblingCuts of the program at this seat's commit: for every input the call returns true, and each argument reads afterwards as it read before.
  Conditions: none beyond the given statement.
-/
import Derived.Test.YtfpahdnhnhkcdaaRows
import Derived.Test.YtfpahdnhnhkcdaaZ1
import Derived.Test.YtfpahdnhnhkcdaaZ2
import Derived.Test.YtfpahdnhnhkcdaaZ3
import Derived.Test.YtfpahdnhnhkcdaaZ4
import Derived.Test.YtfpahdnhnhkcdaaZ5
import Derived.Test.YtfpahdnhnhkcdaaZ6
import Derived.Test.YtfpahdnhnhkcdaaZ7
import Derived.Test.YtfpahdnhnhkcdaaZ8
import Derived.Test.YtfpahdnhnhkcdaaZ9
import Derived.Test.YtfpahdnhnhkcdaaZ10
import Derived.Test.YtfpahdnhnhkcdaaZ11
import Derived.Test.YtfpahdnhnhkcdaaZ12
import Derived.Test.YtfpahdnhnhkcdaaZ13
import Derived.Test.YtfpahdnhnhkcdaaZ14
import Derived.Test.YtfpahdnhnhkcdaaZ15
import Derived.Test.YtfpahdnhnhkcdaaZ16
import Derived.Test.YtfpahdnhnhkcdaaZ17
import Derived.Test.YtfpahdnhnhkcdaaZ18
import Derived.Test.YtfpahdnhnhkcdaaZ19
import Derived.Test.YtfpahdnhnhkcdaaZ20
import Derived.Test.YtfpahdnhnhkcdaaZ21
import Derived.Test.YtfpahdnhnhkcdaaZ22
import Derived.Test.YtfpahdnhnhkcdaaZ23
import Derived.Test.YtfpahdnhnhkcdaaZ24
import Derived.Test.YtfpahdnhnhkcdaaZ25
import Derived.Test.YtfpahdnhnhkcdaaZ26
import Derived.Test.YtfpahdnhnhkcdaaZ27
import Derived.Test.YtfpahdnhnhkcdaaZ28
import Derived.Test.YtfpahdnhnhkcdaaZ29
import Derived.Test.YtfpahdnhnhkcdaaZ30
import Derived.Test.YtfpahdnhnhkcdaaZ31
import Derived.Test.YtfpahdnhnhkcdaaZ32
import Derived.Test.YtfpahdnhnhkcdaaZ33
import Derived.Test.YtfpahdnhnhkcdaaZ34
import Derived.Test.YtfpahdnhnhkcdaaZ35
import Derived.Test.YtfpahdnhnhkcdaaZ36
import Derived.Test.YtfpahdnhnhkcdaaZ37
import Derived.Test.YtfpahdnhnhkcdaaZ38
import Derived.Test.YtfpahdnhnhkcdaaZ39
import Derived.Test.YtfpahdnhnhkcdaaZ40
import Derived.Test.YtfpahdnhnhkcdaaZ41
import Derived.Test.YtfpahdnhnhkcdaaZ42
import Derived.Test.YtfpahdnhnhkcdaaZ43
import Derived.Test.YtfpahdnhnhkcdaaZ44
import Derived.Test.YtfpahdnhnhkcdaaZ45
import Derived.Test.YtfpahdnhnhkcdaaZ46
import Derived.Test.YtfpahdnhnhkcdaaZ47
import Derived.Test.YtfpahdnhnhkcdaaZ48
import Derived.Test.YtfpahdnhnhkcdaaCuts15dz
import Derived.WalkKit
import Derived.ProofKit
import Derived.OpenShut
import Derived.ShutString
import Derived.ChangeOld
import Derived.Below
import Derived.Carry
namespace Go.Proofs.Ytfpahdnhnhkcdaa.siblingCuts
open Go.ChangeShapes Go.WideShapes Go.ChangeAt Go.RowKit
open Go.ChangeMaps (open_string shut_string)
set_option linter.unusedVariables false

theorem own : ownKnob Try.prog.godebug = none := by kernel_rfl
theorem laidOut : laidOutB Try.prog = true := by kernel_rfl

set_option maxRecDepth 100000 in
theorem lifted (os : Os) (started : os.Started) (H : Type) (enc : TypeId × Value → H) :
    ReturnsInHanded {} Try.checked os 7 .any (Rows.siblingCutsSpec.pre6 enc Try.prog Try.f7 Rows.siblingCutsRow.domain false) (Rows.siblingCutsSpec.post enc Try.prog Try.f7 false true false false) := by
  refine returnsInHanded_of_change (C := Try.checked) own started (by kernel_rfl) Try.func7
    (ChangeSpec.witness6 (enc := enc) (C := Try.checked) false ⟨#[], #[.agg #[.slice none 0 0, .bool false, .string ⟨#[]⟩, .int .u64 0, .slice none 0 0, .bool false, .string ⟨#[]⟩], .string ⟨#[]⟩], []⟩ 8 (by kernel_rfl) (by kernel_rfl) (by kernel_rfl) (by kernel_rfl)) ?_
  intro W base args ds gs before hval0 hW hcnd _
  have hval : ∀ (j : Nat) t v, Try.f7.params[j]? = some t → args[j]? = some v → Value.okWide Try.prog W .any base t v := hval0
  have hW' := hW
  obtain ⟨p, q, hA0, hV, rfl, hfz, hnd⟩ := hW
  have hA : DataW.TrodAll enc Try.prog W 0 (fun _ => true) true Try.f7.params.toList args.toList ds p := hA0
  rw [Try.params7] at hA hval
  obtain ⟨v0, vs0, d0, ds0, p0, q0, hargs, rfl, rfl, h0, r0⟩ := trodAll_cons hA
  obtain ⟨v1, vs1, d1, ds1, p1, q1, rfl, rfl, rfl, h1, r1⟩ := trodAll_cons r0
  obtain ⟨rfl, rfl, rfl⟩ := trodAll_nil r1
  obtain rfl : args = #[v0, v1] := by cases args; simp_all
  obtain ⟨rfl, rfl⟩ := trodVars_none hV
  have sv0 := h0
  have lt0 : ∀ x ∈ p0, x.block < W.heap.size := by obtain ⟨m, hm⟩ := sv0; exact DataW.trod_lt m _ _ _ hm
  obtain ⟨vo0, vc0, po0, pc0, x0, rfl, hn0, hc0⟩ := open_sib (hval 0 30 v0 rfl rfl) h0
  obtain ⟨a1, rfl, rfl, rfl, w1⟩ := open_string Try.underlying9 (hval 1 9 v1 rfl rfl) h1
  clear hA0 hval0
  refine (siblingCuts_done W vo0 vc0 po0 pc0 x0 hn0 hc0 a1 w1).mono fun e W' ⟨he, hkeep⟩ => ?_
  subst he
  have bel : Below W.heap.size W W' := ((hkeep.any : KeepFrom W.heap.size W W')).below (Nat.le_refl _)
  exact ⟨_, rfl, _, _, _, [], _, [], hW', trodAll_mk1 (shut_bool Try.underlying4 _), (trodAll_cons_mk (Below.trod laidOut (by kernel_rfl) (of_decide_eq_true (by kernel_rfl)) sv0 bel lt0) (trodAll_cons_mk (shut_string Try.underlying9 w1) trodAll_mk0)), rfl, bel.frame _, fun h => by cases h⟩

theorem over : Rows.siblingCutsRow.holds Try.pinned (OpenSpec.ofChange Rows.siblingCutsSpec) :=
  OpenClaim.holds_of_wide 7 Try.f7 rfl rfl rfl rfl rfl rfl rfl ⟨rfl, rfl, rfl, rfl, rfl⟩ rfl rfl rfl rfl rfl (by kernel_rfl) Try.func7 (by kernel_rfl)
    (of_decide_eq_true (by kernel_rfl)) (by unfold Func.isWrapper; first | (rw [if_pos (by decide +kernel)]; kernel_rfl) | (rw [if_neg (by decide +kernel)]; exact ⟨rfl, rfl⟩))
    (fun os started H enc _ => lifted os started H enc)
end Go.Proofs.Ytfpahdnhnhkcdaa.siblingCuts
namespace Go.Proofs.Ytfpahdnhnhkcdaa
/-- The given statement. -/
theorem siblingCuts_holds : Rows.SiblingCutsSaid := siblingCuts.over
#print axioms siblingCuts_holds
end Go.Proofs.Ytfpahdnhnhkcdaa
