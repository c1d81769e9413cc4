/-
  The law UpgradeReads of the program at this seat's commit: for every input the call returns true, and each argument reads afterwards as it read before.
  Conditions: none beyond the given statement.
-/
import Derived.Test.YtoefibkhlhmlfaaGreatRows
import Derived.Test.YtoefibkhlhmlfaaGreatY1
import Derived.Test.YtoefibkhlhmlfaaGreatY2
import Derived.Test.YtoefibkhlhmlfaaGreatY3
import Derived.Test.YtoefibkhlhmlfaaGreatY4
import Derived.Test.YtoefibkhlhmlfaaGreatY5
import Derived.Test.YtoefibkhlhmlfaaGreatY6
import Derived.Test.YtoefibkhlhmlfaaGreatY7
import Derived.Test.YtoefibkhlhmlfaaGreatY8
import Derived.Test.YtoefibkhlhmlfaaGreatY9
import Derived.Test.YtoefibkhlhmlfaaGreatY10
import Derived.Test.YtoefibkhlhmlfaaGreatY11
import Derived.Test.YtoefibkhlhmlfaaGreatY12
import Derived.Test.YtoefibkhlhmlfaaGreatY13
import Derived.Test.YtoefibkhlhmlfaaGreatY14
import Derived.Test.YtoefibkhlhmlfaaGreatY15
import Derived.Test.YtoefibkhlhmlfaaGreatY16
import Derived.Test.YtoefibkhlhmlfaaGreatY17
import Derived.Test.YtoefibkhlhmlfaaGreatY18
import Derived.Test.YtoefibkhlhmlfaaGreatY19
import Derived.Test.YtoefibkhlhmlfaaGreatY20
import Derived.Test.YtoefibkhlhmlfaaGreatY21
import Derived.Test.YtoefibkhlhmlfaaGreatY22
import Derived.Test.YtoefibkhlhmlfaaGreatY23
import Derived.Test.YtoefibkhlhmlfaaGreatY24
import Derived.Test.YtoefibkhlhmlfaaGreatY25
import Derived.Test.YtoefibkhlhmlfaaGreatY26
import Derived.Test.YtoefibkhlhmlfaaGreatY27
import Derived.Test.YtoefibkhlhmlfaaGreatY28
import Derived.Test.YtoefibkhlhmlfaaGreatY29
import Derived.Test.YtoefibkhlhmlfaaGreatY30
import Derived.Test.YtoefibkhlhmlfaaGreatY31
import Derived.Test.YtoefibkhlhmlfaaGreatY32
import Derived.Test.YtoefibkhlhmlfaaGreatY33
import Derived.Test.YtoefibkhlhmlfaaGreatY34
import Derived.Test.YtoefibkhlhmlfaaGreatY35
import Derived.Test.YtoefibkhlhmlfaaGreatY36
import Derived.Test.YtoefibkhlhmlfaaGreatY37
import Derived.Test.YtoefibkhlhmlfaaGreatY38
import Derived.Test.YtoefibkhlhmlfaaGreatY39
import Derived.Test.YtoefibkhlhmlfaaGreatY40
import Derived.Test.YtoefibkhlhmlfaaGreatY41
import Derived.Test.YtoefibkhlhmlfaaGreatY42
import Derived.Test.YtoefibkhlhmlfaaGreatY43
import Derived.Test.YtoefibkhlhmlfaaGreatY44
import Derived.Test.YtoefibkhlhmlfaaGreatY45
import Derived.Test.YtoefibkhlhmlfaaGreatY46
import Derived.Test.YtoefibkhlhmlfaaGreatY47
import Derived.Test.YtoefibkhlhmlfaaGreatY48
import Derived.Test.YtoefibkhlhmlfaaGreatReads18dy
import Derived.WalkKit
import Derived.ProofKit
import Derived.OpenShut
import Derived.ShutString
import Derived.ChangeOld
import Derived.Below
import Derived.Carry
namespace Go.Proofs.YtoefibkhlhmlfaaGreat.upgradeReads
open Go.ChangeShapes Go.WideShapes Go.ChangeAt Go.RowKit
open Go.ChangeMaps (open_string shut_string)
set_option linter.unusedVariables false

theorem own : ownKnob Tryz.prog.godebug = none := by kernel_rfl
theorem laidOut : laidOutB Tryz.prog = true := by kernel_rfl

set_option maxRecDepth 100000 in
theorem lifted (os : Go.Os) (started : os.Started) (H : Type) (enc : TypeId × Value → H) :
    ReturnsInHanded {} Tryz.checked os 5 .any (Rows.upgradeReadsSpec.pre6 enc Tryz.prog Tryz.f5 Rows.upgradeReadsRow.domain false) (Rows.upgradeReadsSpec.post enc Tryz.prog Tryz.f5 false true false false) := by
  refine returnsInHanded_of_change (C := Tryz.checked) own started (by kernel_rfl) Tryz.func5
    (ChangeSpec.witness6 (enc := enc) (C := Tryz.checked) false ⟨#[], #[.int .u8 0, .string ⟨#[]⟩], []⟩ 8 (by kernel_rfl) (by kernel_rfl) (by kernel_rfl) (by kernel_rfl)) ?_
  intro W base args ds gs before hval0 hW hcnd _
  have hval : ∀ (j : Nat) t v, Tryz.f5.params[j]? = some t → args[j]? = some v → Value.okWide Tryz.prog W .any base t v := hval0
  have hW' := hW
  obtain ⟨p, q, hA0, hV, rfl, hfz, hnd⟩ := hW
  have hA : DataW.TrodAll enc Tryz.prog W 0 (fun _ => true) true Tryz.f5.params.toList args.toList ds p := hA0
  rw [Tryz.params5] at hA hval
  obtain ⟨v0, vs0, d0, ds0, p0, q0, hargs, rfl, rfl, h0, r0⟩ := trodAll_cons hA
  obtain ⟨v1, vs1, d1, ds1, p1, q1, rfl, rfl, rfl, h1, r1⟩ := trodAll_cons r0
  obtain ⟨rfl, rfl, rfl⟩ := trodAll_nil r1
  obtain rfl : args = #[v0, v1] := by cases args; simp_all
  obtain ⟨rfl, rfl⟩ := trodVars_none hV
  obtain ⟨a0, rfl, rfl, rfl, w0⟩ := open_int Tryz.underlying5 (hval 0 5 v0 rfl rfl) h0
  obtain ⟨a1, rfl, rfl, rfl, w1⟩ := open_string Tryz.underlying9 (hval 1 9 v1 rfl rfl) h1
  clear hA0 hval0
  refine (upgradeReads_done W a0 w0 a1 w1).mono fun e W' ⟨he, hkeep⟩ => ?_
  subst he
  have bel : Below W.heap.size W W' := ((hkeep.any : KeepFrom W.heap.size W W')).below (Nat.le_refl _)
  exact ⟨_, rfl, _, _, _, [], _, [], hW', trodAll_mk1 (shut_bool Tryz.underlying4 _), (trodAll_cons_mk (shut_int Tryz.underlying5 w0) (trodAll_cons_mk (shut_string Tryz.underlying9 w1) trodAll_mk0)), rfl, bel.frame _, fun h => by cases h⟩

theorem over : Rows.upgradeReadsRow.holds Tryz.pinned (OpenSpec.ofChange Rows.upgradeReadsSpec) :=
  OpenClaim.holds_of_wide 5 Tryz.f5 rfl rfl rfl rfl rfl rfl rfl ⟨rfl, rfl, rfl, rfl, rfl⟩ rfl rfl rfl rfl rfl (by kernel_rfl) Tryz.func5 (by kernel_rfl)
    (of_decide_eq_true (by kernel_rfl)) (by unfold Func.isWrapper; first | (rw [if_pos (by decide +kernel)]; kernel_rfl) | (rw [if_neg (by decide +kernel)]; exact ⟨rfl, rfl⟩))
    (fun os started H enc _ => lifted os started H enc)
end Go.Proofs.YtoefibkhlhmlfaaGreat.upgradeReads
namespace Go.Proofs.YtoefibkhlhmlfaaGreat
/-- The given statement. -/
theorem upgradeReads_holds : Rows.UpgradeReadsSaid := upgradeReads.over
#print axioms upgradeReads_holds
end Go.Proofs.YtoefibkhlhmlfaaGreat
