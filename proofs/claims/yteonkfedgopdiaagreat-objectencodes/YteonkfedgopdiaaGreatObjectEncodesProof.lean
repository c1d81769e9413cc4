/-
  The law ObjectEncodes of the program at this seat's commit: for every input the call returns true, and each argument reads afterwards as it read before.
  Conditions: none beyond the given statement.
-/
import Derived.Test.YteonkfedgopdiaaGreatRows
import Derived.Test.YteonkfedgopdiaaGreatZ1
import Derived.Test.YteonkfedgopdiaaGreatZ2
import Derived.Test.YteonkfedgopdiaaGreatZ3
import Derived.Test.YteonkfedgopdiaaGreatZ4
import Derived.Test.YteonkfedgopdiaaGreatZ5
import Derived.Test.YteonkfedgopdiaaGreatZ6
import Derived.Test.YteonkfedgopdiaaGreatZ7
import Derived.Test.YteonkfedgopdiaaGreatZ8
import Derived.Test.YteonkfedgopdiaaGreatZ9
import Derived.Test.YteonkfedgopdiaaGreatZ10
import Derived.Test.YteonkfedgopdiaaGreatZ11
import Derived.Test.YteonkfedgopdiaaGreatZ12
import Derived.Test.YteonkfedgopdiaaGreatZ13
import Derived.Test.YteonkfedgopdiaaGreatZ14
import Derived.Test.YteonkfedgopdiaaGreatZ15
import Derived.Test.YteonkfedgopdiaaGreatZ16
import Derived.Test.YteonkfedgopdiaaGreatZ17
import Derived.Test.YteonkfedgopdiaaGreatZ18
import Derived.Test.YteonkfedgopdiaaGreatZ19
import Derived.Test.YteonkfedgopdiaaGreatZ20
import Derived.Test.YteonkfedgopdiaaGreatZ21
import Derived.Test.YteonkfedgopdiaaGreatZ22
import Derived.Test.YteonkfedgopdiaaGreatZ23
import Derived.Test.YteonkfedgopdiaaGreatZ24
import Derived.Test.YteonkfedgopdiaaGreatZ25
import Derived.Test.YteonkfedgopdiaaGreatZ26
import Derived.Test.YteonkfedgopdiaaGreatZ27
import Derived.Test.YteonkfedgopdiaaGreatZ28
import Derived.Test.YteonkfedgopdiaaGreatZ29
import Derived.Test.YteonkfedgopdiaaGreatZ30
import Derived.Test.YteonkfedgopdiaaGreatZ31
import Derived.Test.YteonkfedgopdiaaGreatZ32
import Derived.Test.YteonkfedgopdiaaGreatZ33
import Derived.Test.YteonkfedgopdiaaGreatZ34
import Derived.Test.YteonkfedgopdiaaGreatZ35
import Derived.Test.YteonkfedgopdiaaGreatZ36
import Derived.Test.YteonkfedgopdiaaGreatZ37
import Derived.Test.YteonkfedgopdiaaGreatZ38
import Derived.Test.YteonkfedgopdiaaGreatZ39
import Derived.Test.YteonkfedgopdiaaGreatZ40
import Derived.Test.YteonkfedgopdiaaGreatZ41
import Derived.Test.YteonkfedgopdiaaGreatZ42
import Derived.Test.YteonkfedgopdiaaGreatZ43
import Derived.Test.YteonkfedgopdiaaGreatZ44
import Derived.Test.YteonkfedgopdiaaGreatZ45
import Derived.Test.YteonkfedgopdiaaGreatZ46
import Derived.Test.YteonkfedgopdiaaGreatZ47
import Derived.Test.YteonkfedgopdiaaGreatZ48
import Derived.Test.YteonkfedgopdiaaGreatEncodes16dz
import Derived.WalkKit
import Derived.ProofKit
import Derived.OpenShut
import Derived.ShutString
import Derived.ChangeOld
import Derived.Below
import Derived.Carry
namespace Go.Proofs.YteonkfedgopdiaaGreat.objectEncodes
open Go.ChangeShapes Go.WideShapes Go.ChangeAt Go.RowKit
open Go.ChangeMaps (open_string shut_string)
set_option linter.unusedVariables false

theorem own : ownKnob Tryz.prog.godebug = none := by kernel_rfl
theorem laidOut : laidOutB Tryz.prog = true := by kernel_rfl

set_option maxRecDepth 100000 in
theorem lifted (os : Os) (started : os.Started) (H : Type) (enc : TypeId × Value → H) :
    ReturnsInHanded {} Tryz.checked os 3 .any (Rows.objectEncodesSpec.pre6 enc Tryz.prog Tryz.f3 Rows.objectEncodesRow.domain false) (Rows.objectEncodesSpec.post enc Tryz.prog Tryz.f3 false true false false) := by
  refine returnsInHanded_of_change (C := Tryz.checked) own started (by kernel_rfl) Tryz.func3
    (ChangeSpec.witness6 (enc := enc) (C := Tryz.checked) false ⟨#[], #[.agg #[.string ⟨#[]⟩, .slice none 0 0], .agg #[.string ⟨#[]⟩, .slice none 0 0]], []⟩ 8 (by kernel_rfl) (by kernel_rfl) (by kernel_rfl) (by kernel_rfl)) ?_
  intro W base args ds gs before hval0 hW hcnd _
  have hval : ∀ (j : Nat) t v, Tryz.f3.params[j]? = some t → args[j]? = some v → Value.okWide Tryz.prog W .any base t v := hval0
  have hW' := hW
  obtain ⟨p, q, hA0, hV, rfl, hfz, hnd⟩ := hW
  have hA : DataW.TrodAll enc Tryz.prog W 0 (fun _ => true) true Tryz.f3.params.toList args.toList ds p := hA0
  rw [Tryz.params3] at hA hval
  obtain ⟨v0, vs0, d0, ds0, p0, q0, hargs, rfl, rfl, h0, r0⟩ := trodAll_cons hA
  obtain ⟨v1, vs1, d1, ds1, p1, q1, rfl, rfl, rfl, h1, r1⟩ := trodAll_cons r0
  obtain ⟨rfl, rfl, rfl⟩ := trodAll_nil r1
  obtain rfl : args = #[v0, v1] := by cases args; simp_all
  obtain ⟨rfl, rfl⟩ := trodVars_none hV
  have sv0 := h0
  have lt0 : ∀ x ∈ p0, x.block < W.heap.size := by obtain ⟨m, hm⟩ := sv0; exact DataW.trod_lt m _ _ _ hm
  obtain ⟨ao0, cap0, x0, rfl, hn0, hq0, hc0⟩ := open_ob (hval 0 24 v0 rfl rfl) h0
  have sv1 := h1
  have lt1 : ∀ x ∈ p1, x.block < W.heap.size := by obtain ⟨m, hm⟩ := sv1; exact DataW.trod_lt m _ _ _ hm
  obtain ⟨ao1, cap1, x1, rfl, hn1, hq1, hc1⟩ := open_ob (hval 1 24 v1 rfl rfl) h1
  clear hA0 hval0
  refine (objectEncodes_done W ao0 cap0 x0 hn0 hq0 hc0 ao1 cap1 x1 hn1 hq1 hc1).mono fun e W' ⟨he, hkeep⟩ => ?_
  subst he
  have bel : Below W.heap.size W W' := ((hkeep.any : KeepFrom W.heap.size W W')).below (Nat.le_refl _)
  exact ⟨_, rfl, _, _, _, [], _, [], hW', trodAll_mk1 (shut_bool Tryz.underlying4 _), (trodAll_cons_mk (Below.trod laidOut (by kernel_rfl) (of_decide_eq_true (by kernel_rfl)) sv0 bel lt0) (trodAll_cons_mk (Below.trod laidOut (by kernel_rfl) (of_decide_eq_true (by kernel_rfl)) sv1 bel lt1) trodAll_mk0)), rfl, bel.frame _, fun h => by cases h⟩

theorem over : Rows.objectEncodesRow.holds Tryz.pinned (OpenSpec.ofChange Rows.objectEncodesSpec) :=
  OpenClaim.holds_of_wide 3 Tryz.f3 rfl rfl rfl rfl rfl rfl rfl ⟨rfl, rfl, rfl, rfl, rfl⟩ rfl rfl rfl rfl rfl (by kernel_rfl) Tryz.func3 (by kernel_rfl)
    (of_decide_eq_true (by kernel_rfl)) (by unfold Func.isWrapper; first | (rw [if_pos (by decide +kernel)]; kernel_rfl) | (rw [if_neg (by decide +kernel)]; exact ⟨rfl, rfl⟩))
    (fun os started H enc _ => lifted os started H enc)
end Go.Proofs.YteonkfedgopdiaaGreat.objectEncodes
namespace Go.Proofs.YteonkfedgopdiaaGreat
/-- The given statement. -/
theorem objectEncodes_holds : Rows.ObjectEncodesSaid := objectEncodes.over
#print axioms objectEncodes_holds
end Go.Proofs.YteonkfedgopdiaaGreat
