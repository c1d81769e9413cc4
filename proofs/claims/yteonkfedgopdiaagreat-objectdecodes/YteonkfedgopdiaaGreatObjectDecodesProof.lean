/-
  The law ObjectDecodes of the program at this seat's commit: for every input the call returns true, and each argument reads afterwards as it read before.
  Conditions: none beyond the given statement.
-/
import Derived.Test.YteonkfedgopdiaaGreatRows
import Derived.Test.YteonkfedgopdiaaGreatZ1
import Derived.Test.YteonkfedgopdiaaGreatZ2
import Derived.Test.YteonkfedgopdiaaGreatZ3
import Derived.Test.YteonkfedgopdiaaGreatZ4
import Derived.Test.YteonkfedgopdiaaGreatZ5
import Derived.Test.YteonkfedgopdiaaGreatZ6
import Derived.Test.YteonkfedgopdiaaGreatZ7
import Derived.Test.YteonkfedgopdiaaGreatZ8
import Derived.Test.YteonkfedgopdiaaGreatZ9
import Derived.Test.YteonkfedgopdiaaGreatZ10
import Derived.Test.YteonkfedgopdiaaGreatZ11
import Derived.Test.YteonkfedgopdiaaGreatZ12
import Derived.Test.YteonkfedgopdiaaGreatZ13
import Derived.Test.YteonkfedgopdiaaGreatZ14
import Derived.Test.YteonkfedgopdiaaGreatZ15
import Derived.Test.YteonkfedgopdiaaGreatZ16
import Derived.Test.YteonkfedgopdiaaGreatZ17
import Derived.Test.YteonkfedgopdiaaGreatZ18
import Derived.Test.YteonkfedgopdiaaGreatZ19
import Derived.Test.YteonkfedgopdiaaGreatZ20
import Derived.Test.YteonkfedgopdiaaGreatZ21
import Derived.Test.YteonkfedgopdiaaGreatZ22
import Derived.Test.YteonkfedgopdiaaGreatZ23
import Derived.Test.YteonkfedgopdiaaGreatZ24
import Derived.Test.YteonkfedgopdiaaGreatZ25
import Derived.Test.YteonkfedgopdiaaGreatZ26
import Derived.Test.YteonkfedgopdiaaGreatZ27
import Derived.Test.YteonkfedgopdiaaGreatZ28
import Derived.Test.YteonkfedgopdiaaGreatZ29
import Derived.Test.YteonkfedgopdiaaGreatZ30
import Derived.Test.YteonkfedgopdiaaGreatZ31
import Derived.Test.YteonkfedgopdiaaGreatZ32
import Derived.Test.YteonkfedgopdiaaGreatZ33
import Derived.Test.YteonkfedgopdiaaGreatZ34
import Derived.Test.YteonkfedgopdiaaGreatZ35
import Derived.Test.YteonkfedgopdiaaGreatZ36
import Derived.Test.YteonkfedgopdiaaGreatZ37
import Derived.Test.YteonkfedgopdiaaGreatZ38
import Derived.Test.YteonkfedgopdiaaGreatZ39
import Derived.Test.YteonkfedgopdiaaGreatZ40
import Derived.Test.YteonkfedgopdiaaGreatZ41
import Derived.Test.YteonkfedgopdiaaGreatZ42
import Derived.Test.YteonkfedgopdiaaGreatZ43
import Derived.Test.YteonkfedgopdiaaGreatZ44
import Derived.Test.YteonkfedgopdiaaGreatZ45
import Derived.Test.YteonkfedgopdiaaGreatZ46
import Derived.Test.YteonkfedgopdiaaGreatZ47
import Derived.Test.YteonkfedgopdiaaGreatZ48
import Derived.Test.YteonkfedgopdiaaGreatDecodes16dz
import Derived.WalkKit
import Derived.ProofKit
import Derived.OpenShut
import Derived.ShutString
import Derived.ChangeOld
import Derived.Below
import Derived.Carry
namespace Go.Proofs.YteonkfedgopdiaaGreat.objectDecodes
open Go.ChangeShapes Go.WideShapes Go.ChangeAt Go.RowKit
open Go.ChangeMaps (open_string shut_string)
set_option linter.unusedVariables false

theorem own : ownKnob Tryz.prog.godebug = none := by kernel_rfl
theorem laidOut : laidOutB Tryz.prog = true := by kernel_rfl

set_option maxRecDepth 100000 in
theorem lifted (os : Os) (started : os.Started) (H : Type) (enc : TypeId × Value → H) :
    ReturnsInHanded {} Tryz.checked os 4 .any (Rows.objectDecodesSpec.pre6 enc Tryz.prog Tryz.f4 Rows.objectDecodesRow.domain false) (Rows.objectDecodesSpec.post enc Tryz.prog Tryz.f4 false true false false) := by
  refine returnsInHanded_of_change (C := Tryz.checked) own started (by kernel_rfl) Tryz.func4
    (ChangeSpec.witness6 (enc := enc) (C := Tryz.checked) false ⟨#[], #[.string ⟨#[]⟩], []⟩ 8 (by kernel_rfl) (by kernel_rfl) (by kernel_rfl) (by kernel_rfl)) ?_
  intro W base args ds gs before hval0 hW hcnd _
  have hval : ∀ (j : Nat) t v, Tryz.f4.params[j]? = some t → args[j]? = some v → Value.okWide Tryz.prog W .any base t v := hval0
  have hW' := hW
  obtain ⟨p, q, hA0, hV, rfl, hfz, hnd⟩ := hW
  have hA : DataW.TrodAll enc Tryz.prog W 0 (fun _ => true) true Tryz.f4.params.toList args.toList ds p := hA0
  rw [Tryz.params4] at hA hval
  obtain ⟨v0, vs0, d0, ds0, p0, q0, hargs, rfl, rfl, h0, r0⟩ := trodAll_cons hA
  obtain ⟨rfl, rfl, rfl⟩ := trodAll_nil r0
  obtain rfl : args = #[v0] := by cases args; simp_all
  obtain ⟨rfl, rfl⟩ := trodVars_none hV
  obtain ⟨a0, rfl, rfl, rfl, w0⟩ := open_string Tryz.underlying9 (hval 0 9 v0 rfl rfl) h0
  clear hA0 hval0
  refine (objectDecodes_done W a0 w0).mono fun e W' ⟨he, hkeep⟩ => ?_
  subst he
  have bel : Below W.heap.size W W' := ((hkeep.any : KeepFrom W.heap.size W W')).below (Nat.le_refl _)
  exact ⟨_, rfl, _, _, _, [], _, [], hW', trodAll_mk1 (shut_bool Tryz.underlying4 _), (trodAll_cons_mk (shut_string Tryz.underlying9 w0) trodAll_mk0), rfl, bel.frame _, fun h => by cases h⟩

theorem over : Rows.objectDecodesRow.holds Tryz.pinned (OpenSpec.ofChange Rows.objectDecodesSpec) :=
  OpenClaim.holds_of_wide 4 Tryz.f4 rfl rfl rfl rfl rfl rfl rfl ⟨rfl, rfl, rfl, rfl, rfl⟩ rfl rfl rfl rfl rfl (by kernel_rfl) Tryz.func4 (by kernel_rfl)
    (of_decide_eq_true (by kernel_rfl)) (by unfold Func.isWrapper; first | (rw [if_pos (by decide +kernel)]; kernel_rfl) | (rw [if_neg (by decide +kernel)]; exact ⟨rfl, rfl⟩))
    (fun os started H enc _ => lifted os started H enc)
end Go.Proofs.YteonkfedgopdiaaGreat.objectDecodes
namespace Go.Proofs.YteonkfedgopdiaaGreat
/-- The given statement. -/
theorem objectDecodes_holds : Rows.ObjectDecodesSaid := objectDecodes.over
#print axioms objectDecodes_holds
end Go.Proofs.YteonkfedgopdiaaGreat
