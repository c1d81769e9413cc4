/-
  The law SiblingGreat of the program at this seat's commit: for every input the call returns true, and each argument reads afterwards as it read before.
  Conditions: none beyond the given statement.
-/
import Derived.Test.YtfpahdnhnhkcdaaRows
import Derived.Test.YtfpahdnhnhkcdaaZ1
import Derived.Test.YtfpahdnhnhkcdaaZ2
import Derived.Test.YtfpahdnhnhkcdaaZ3
import Derived.Test.YtfpahdnhnhkcdaaZ4
import Derived.Test.YtfpahdnhnhkcdaaZ5
import Derived.Test.YtfpahdnhnhkcdaaZ6
import Derived.Test.YtfpahdnhnhkcdaaZ7
import Derived.Test.YtfpahdnhnhkcdaaZ8
import Derived.Test.YtfpahdnhnhkcdaaZ9
import Derived.Test.YtfpahdnhnhkcdaaZ10
import Derived.Test.YtfpahdnhnhkcdaaZ11
import Derived.Test.YtfpahdnhnhkcdaaZ12
import Derived.Test.YtfpahdnhnhkcdaaZ13
import Derived.Test.YtfpahdnhnhkcdaaZ14
import Derived.Test.YtfpahdnhnhkcdaaZ15
import Derived.Test.YtfpahdnhnhkcdaaZ16
import Derived.Test.YtfpahdnhnhkcdaaZ17
import Derived.Test.YtfpahdnhnhkcdaaZ18
import Derived.Test.YtfpahdnhnhkcdaaZ19
import Derived.Test.YtfpahdnhnhkcdaaZ20
import Derived.Test.YtfpahdnhnhkcdaaZ21
import Derived.Test.YtfpahdnhnhkcdaaZ22
import Derived.Test.YtfpahdnhnhkcdaaZ23
import Derived.Test.YtfpahdnhnhkcdaaZ24
import Derived.Test.YtfpahdnhnhkcdaaZ25
import Derived.Test.YtfpahdnhnhkcdaaZ26
import Derived.Test.YtfpahdnhnhkcdaaZ27
import Derived.Test.YtfpahdnhnhkcdaaZ28
import Derived.Test.YtfpahdnhnhkcdaaZ29
import Derived.Test.YtfpahdnhnhkcdaaZ30
import Derived.Test.YtfpahdnhnhkcdaaZ31
import Derived.Test.YtfpahdnhnhkcdaaZ32
import Derived.Test.YtfpahdnhnhkcdaaZ33
import Derived.Test.YtfpahdnhnhkcdaaZ34
import Derived.Test.YtfpahdnhnhkcdaaZ35
import Derived.Test.YtfpahdnhnhkcdaaZ36
import Derived.Test.YtfpahdnhnhkcdaaZ37
import Derived.Test.YtfpahdnhnhkcdaaZ38
import Derived.Test.YtfpahdnhnhkcdaaZ39
import Derived.Test.YtfpahdnhnhkcdaaZ40
import Derived.Test.YtfpahdnhnhkcdaaZ41
import Derived.Test.YtfpahdnhnhkcdaaZ42
import Derived.Test.YtfpahdnhnhkcdaaZ43
import Derived.Test.YtfpahdnhnhkcdaaZ44
import Derived.Test.YtfpahdnhnhkcdaaZ45
import Derived.Test.YtfpahdnhnhkcdaaZ46
import Derived.Test.YtfpahdnhnhkcdaaZ47
import Derived.Test.YtfpahdnhnhkcdaaZ48
import Derived.Test.YtfpahdnhnhkcdaaGreat15dz
import Derived.WalkKit
import Derived.ProofKit
import Derived.OpenShut
import Derived.ShutString
import Derived.ChangeOld
import Derived.Below
import Derived.Carry
namespace Go.Proofs.Ytfpahdnhnhkcdaa.siblingGreat
open Go.ChangeShapes Go.WideShapes Go.ChangeAt Go.RowKit
open Go.ChangeMaps (open_string shut_string)
set_option linter.unusedVariables false

theorem own : ownKnob Try.prog.godebug = none := by kernel_rfl
theorem laidOut : laidOutB Try.prog = true := by kernel_rfl

set_option maxRecDepth 100000 in
theorem lifted (os : Os) (started : os.Started) (H : Type) (enc : TypeId × Value → H) :
    ReturnsInHanded {} Try.checked os 6 .any (Rows.siblingGreatSpec.pre6 enc Try.prog Try.f6 Rows.siblingGreatRow.domain false) (Rows.siblingGreatSpec.post enc Try.prog Try.f6 false true false false) := by
  refine returnsInHanded_of_change (C := Try.checked) own started (by kernel_rfl) Try.func6
    (ChangeSpec.witness6 (enc := enc) (C := Try.checked) false ⟨#[], #[.int .u8 0, .int .u8 0, .int .u8 0], []⟩ 8 (by kernel_rfl) (by kernel_rfl) (by kernel_rfl) (by kernel_rfl)) ?_
  intro W base args ds gs before hval0 hW hcnd _
  have hval : ∀ (j : Nat) t v, Try.f6.params[j]? = some t → args[j]? = some v → Value.okWide Try.prog W .any base t v := hval0
  have hW' := hW
  obtain ⟨p, q, hA0, hV, rfl, hfz, hnd⟩ := hW
  have hA : DataW.TrodAll enc Try.prog W 0 (fun _ => true) true Try.f6.params.toList args.toList ds p := hA0
  rw [Try.params6] at hA hval
  obtain ⟨v0, vs0, d0, ds0, p0, q0, hargs, rfl, rfl, h0, r0⟩ := trodAll_cons hA
  obtain ⟨v1, vs1, d1, ds1, p1, q1, rfl, rfl, rfl, h1, r1⟩ := trodAll_cons r0
  obtain ⟨v2, vs2, d2, ds2, p2, q2, rfl, rfl, rfl, h2, r2⟩ := trodAll_cons r1
  obtain ⟨rfl, rfl, rfl⟩ := trodAll_nil r2
  obtain rfl : args = #[v0, v1, v2] := by cases args; simp_all
  obtain ⟨rfl, rfl⟩ := trodVars_none hV
  obtain ⟨a0, rfl, rfl, rfl, w0⟩ := open_int Try.underlying5 (hval 0 5 v0 rfl rfl) h0
  obtain ⟨a1, rfl, rfl, rfl, w1⟩ := open_int Try.underlying5 (hval 1 5 v1 rfl rfl) h1
  obtain ⟨a2, rfl, rfl, rfl, w2⟩ := open_int Try.underlying5 (hval 2 5 v2 rfl rfl) h2
  clear hA0 hval0
  refine (siblingGreat_done W a0 w0 a1 w1 a2 w2).mono fun e W' ⟨he, hkeep⟩ => ?_
  subst he
  have bel : Below W.heap.size W W' := ((hkeep.any : KeepFrom W.heap.size W W')).below (Nat.le_refl _)
  exact ⟨_, rfl, _, _, _, [], _, [], hW', trodAll_mk1 (shut_bool Try.underlying4 _), (trodAll_cons_mk (shut_int Try.underlying5 w0) (trodAll_cons_mk (shut_int Try.underlying5 w1) (trodAll_cons_mk (shut_int Try.underlying5 w2) trodAll_mk0))), rfl, bel.frame _, fun h => by cases h⟩

theorem over : Rows.siblingGreatRow.holds Try.pinned (OpenSpec.ofChange Rows.siblingGreatSpec) :=
  OpenClaim.holds_of_wide 6 Try.f6 rfl rfl rfl rfl rfl rfl rfl ⟨rfl, rfl, rfl, rfl, rfl⟩ rfl rfl rfl rfl rfl (by kernel_rfl) Try.func6 (by kernel_rfl)
    (of_decide_eq_true (by kernel_rfl)) (by unfold Func.isWrapper; first | (rw [if_pos (by decide +kernel)]; kernel_rfl) | (rw [if_neg (by decide +kernel)]; exact ⟨rfl, rfl⟩))
    (fun os started H enc _ => lifted os started H enc)
end Go.Proofs.Ytfpahdnhnhkcdaa.siblingGreat
namespace Go.Proofs.Ytfpahdnhnhkcdaa
/-- The given statement. -/
theorem siblingGreat_holds : Rows.SiblingGreatSaid := siblingGreat.over
#print axioms siblingGreat_holds
end Go.Proofs.Ytfpahdnhnhkcdaa
