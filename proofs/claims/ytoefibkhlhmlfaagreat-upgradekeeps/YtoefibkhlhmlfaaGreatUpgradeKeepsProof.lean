/-
  The law UpgradeKeeps of the program at this seat's commit: for every input the call returns true, and each argument reads afterwards as it read before.
  Conditions: none beyond the given statement.
-/
import Derived.Test.YtoefibkhlhmlfaaGreatRows
import Derived.Test.YtoefibkhlhmlfaaGreatZ1
import Derived.Test.YtoefibkhlhmlfaaGreatZ2
import Derived.Test.YtoefibkhlhmlfaaGreatZ3
import Derived.Test.YtoefibkhlhmlfaaGreatZ4
import Derived.Test.YtoefibkhlhmlfaaGreatZ5
import Derived.Test.YtoefibkhlhmlfaaGreatZ6
import Derived.Test.YtoefibkhlhmlfaaGreatZ7
import Derived.Test.YtoefibkhlhmlfaaGreatZ8
import Derived.Test.YtoefibkhlhmlfaaGreatZ9
import Derived.Test.YtoefibkhlhmlfaaGreatZ10
import Derived.Test.YtoefibkhlhmlfaaGreatZ11
import Derived.Test.YtoefibkhlhmlfaaGreatZ12
import Derived.Test.YtoefibkhlhmlfaaGreatZ13
import Derived.Test.YtoefibkhlhmlfaaGreatZ14
import Derived.Test.YtoefibkhlhmlfaaGreatZ15
import Derived.Test.YtoefibkhlhmlfaaGreatZ16
import Derived.Test.YtoefibkhlhmlfaaGreatZ17
import Derived.Test.YtoefibkhlhmlfaaGreatZ18
import Derived.Test.YtoefibkhlhmlfaaGreatZ19
import Derived.Test.YtoefibkhlhmlfaaGreatZ20
import Derived.Test.YtoefibkhlhmlfaaGreatZ21
import Derived.Test.YtoefibkhlhmlfaaGreatZ22
import Derived.Test.YtoefibkhlhmlfaaGreatZ23
import Derived.Test.YtoefibkhlhmlfaaGreatZ24
import Derived.Test.YtoefibkhlhmlfaaGreatZ25
import Derived.Test.YtoefibkhlhmlfaaGreatZ26
import Derived.Test.YtoefibkhlhmlfaaGreatZ27
import Derived.Test.YtoefibkhlhmlfaaGreatZ28
import Derived.Test.YtoefibkhlhmlfaaGreatZ29
import Derived.Test.YtoefibkhlhmlfaaGreatZ30
import Derived.Test.YtoefibkhlhmlfaaGreatZ31
import Derived.Test.YtoefibkhlhmlfaaGreatZ32
import Derived.Test.YtoefibkhlhmlfaaGreatZ33
import Derived.Test.YtoefibkhlhmlfaaGreatZ34
import Derived.Test.YtoefibkhlhmlfaaGreatZ35
import Derived.Test.YtoefibkhlhmlfaaGreatZ36
import Derived.Test.YtoefibkhlhmlfaaGreatZ37
import Derived.Test.YtoefibkhlhmlfaaGreatZ38
import Derived.Test.YtoefibkhlhmlfaaGreatZ39
import Derived.Test.YtoefibkhlhmlfaaGreatZ40
import Derived.Test.YtoefibkhlhmlfaaGreatZ41
import Derived.Test.YtoefibkhlhmlfaaGreatZ42
import Derived.Test.YtoefibkhlhmlfaaGreatZ43
import Derived.Test.YtoefibkhlhmlfaaGreatZ44
import Derived.Test.YtoefibkhlhmlfaaGreatZ45
import Derived.Test.YtoefibkhlhmlfaaGreatZ46
import Derived.Test.YtoefibkhlhmlfaaGreatZ47
import Derived.Test.YtoefibkhlhmlfaaGreatZ48
import Derived.Test.YtoefibkhlhmlfaaGreatKeeps18dz
import Derived.WalkKit
import Derived.ProofKit
import Derived.OpenShut
import Derived.ShutString
import Derived.ChangeOld
import Derived.Below
import Derived.Carry
namespace Go.Proofs.YtoefibkhlhmlfaaGreat.upgradeKeeps
open Go.ChangeShapes Go.WideShapes Go.ChangeAt Go.RowKit
open Go.ChangeMaps (open_string shut_string)
set_option linter.unusedVariables false

theorem own : ownKnob Tryz.prog.godebug = none := by kernel_rfl
theorem laidOut : laidOutB Tryz.prog = true := by kernel_rfl

set_option maxRecDepth 100000 in
theorem lifted (os : Go.Os) (started : os.Started) (H : Type) (enc : TypeId × Value → H) :
    ReturnsInHanded {} Tryz.checked os 4 .any (Rows.upgradeKeepsSpec.pre6 enc Tryz.prog Tryz.f4 Rows.upgradeKeepsRow.domain false) (Rows.upgradeKeepsSpec.post enc Tryz.prog Tryz.f4 false true false false) := by
  refine returnsInHanded_of_change (C := Tryz.checked) own started (by kernel_rfl) Tryz.func4
    (ChangeSpec.witness6 (enc := enc) (C := Tryz.checked) false ⟨#[], #[.agg #[.string ⟨#[]⟩, .slice none 0 0], .agg #[.string ⟨#[]⟩, .slice none 0 0]], []⟩ 8 (by kernel_rfl) (by kernel_rfl) (by kernel_rfl) (by kernel_rfl)) ?_
  intro W base args ds gs before hval0 hW hcnd _
  have hval : ∀ (j : Nat) t v, Tryz.f4.params[j]? = some t → args[j]? = some v → Value.okWide Tryz.prog W .any base t v := hval0
  have hW' := hW
  obtain ⟨p, q, hA0, hV, rfl, hfz, hnd⟩ := hW
  have hA : DataW.TrodAll enc Tryz.prog W 0 (fun _ => true) true Tryz.f4.params.toList args.toList ds p := hA0
  rw [Tryz.params4] at hA hval
  obtain ⟨v0, vs0, d0, ds0, p0, q0, hargs, rfl, rfl, h0, r0⟩ := trodAll_cons hA
  obtain ⟨v1, vs1, d1, ds1, p1, q1, rfl, rfl, rfl, h1, r1⟩ := trodAll_cons r0
  obtain ⟨rfl, rfl, rfl⟩ := trodAll_nil r1
  obtain rfl : args = #[v0, v1] := by cases args; simp_all
  obtain ⟨rfl, rfl⟩ := trodVars_none hV
  have sv0 := h0
  have lt0 : ∀ x ∈ p0, x.block < W.heap.size := by obtain ⟨m, hm⟩ := sv0; exact DataW.trod_lt m _ _ _ hm
  obtain ⟨key0, ao0, cap0, al0, rfl, hk0, hl0, hq0, hn0, hc0⟩ := open_old (hval 0 24 v0 rfl rfl) h0
  have sv1 := h1
  have lt1 : ∀ x ∈ p1, x.block < W.heap.size := by obtain ⟨m, hm⟩ := sv1; exact DataW.trod_lt m _ _ _ hm
  obtain ⟨key1, ao1, cap1, al1, rfl, hk1, hl1, hq1, hn1, hc1⟩ := open_old (hval 1 24 v1 rfl rfl) h1
  clear hA0 hval0
  refine (upgradeKeeps_done W key0 ao0 cap0 al0 hk0 hl0 hq0 hn0 hc0 key1 ao1 cap1 al1 hk1 hl1 hq1 hn1 hc1).mono fun e W' ⟨he, hkeep⟩ => ?_
  subst he
  have bel : Below W.heap.size W W' := ((hkeep.any : KeepFrom W.heap.size W W')).below (Nat.le_refl _)
  exact ⟨_, rfl, _, _, _, [], _, [], hW', trodAll_mk1 (shut_bool Tryz.underlying4 _), (trodAll_cons_mk (Below.trod laidOut (by kernel_rfl) (of_decide_eq_true (by kernel_rfl)) sv0 bel lt0) (trodAll_cons_mk (Below.trod laidOut (by kernel_rfl) (of_decide_eq_true (by kernel_rfl)) sv1 bel lt1) trodAll_mk0)), rfl, bel.frame _, fun h => by cases h⟩

theorem over : Rows.upgradeKeepsRow.holds Tryz.pinned (OpenSpec.ofChange Rows.upgradeKeepsSpec) :=
  OpenClaim.holds_of_wide 4 Tryz.f4 rfl rfl rfl rfl rfl rfl rfl ⟨rfl, rfl, rfl, rfl, rfl⟩ rfl rfl rfl rfl rfl (by kernel_rfl) Tryz.func4 (by kernel_rfl)
    (of_decide_eq_true (by kernel_rfl)) (by unfold Func.isWrapper; first | (rw [if_pos (by decide +kernel)]; kernel_rfl) | (rw [if_neg (by decide +kernel)]; exact ⟨rfl, rfl⟩))
    (fun os started H enc _ => lifted os started H enc)
end Go.Proofs.YtoefibkhlhmlfaaGreat.upgradeKeeps
namespace Go.Proofs.YtoefibkhlhmlfaaGreat
/-- The given statement. -/
theorem upgradeKeeps_holds : Rows.UpgradeKeepsSaid := upgradeKeeps.over
#print axioms upgradeKeeps_holds
end Go.Proofs.YtoefibkhlhmlfaaGreat
