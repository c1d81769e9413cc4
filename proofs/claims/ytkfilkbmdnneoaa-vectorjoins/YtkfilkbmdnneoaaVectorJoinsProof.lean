/-
  The law VectorJoins of the program at this seat's commit: for every input the call returns true, and each argument reads afterwards as it read before.
  Conditions: none beyond the given statement.
-/
import Derived.Test.YtkfilkbmdnneoaaRows
import Derived.Test.YtkfilkbmdnneoaaL1
import Derived.Test.YtkfilkbmdnneoaaOpen
import Derived.Test.YtkfilkbmdnneoaaL2
import Derived.Test.YtkfilkbmdnneoaaL3
import Derived.Test.YtkfilkbmdnneoaaL6
import Derived.Test.YtkfilkbmdnneoaaVector
import Derived.Test.YtkfilkbmdnneoaaVecMem
import Derived.Test.YtkfilkbmdnneoaaRefVec
import Derived.Test.YtkfilkbmdnneoaaRefVec2
import Derived.Test.YtkfilkbmdnneoaaRefVec3
import Derived.Test.YtkfilkbmdnneoaaRefVec4
import Derived.Test.YtkfilkbmdnneoaaOpen10
import Derived.Test.YtkfilkbmdnneoaaLaw10
import Derived.Test.YtkfilkbmdnneoaaJoins10
import Derived.Test.YtkfilkbmdnneoaaVecA
import Derived.Test.YtkfilkbmdnneoaaVecB
import Derived.Test.YtkfilkbmdnneoaaVecC
import Derived.Test.YtkfilkbmdnneoaaVecMap
import Derived.Test.YtkfilkbmdnneoaaVecG
import Derived.Test.YtkfilkbmdnneoaaVecD
import Derived.Test.YtkfilkbmdnneoaaIter
import Derived.Test.YtkfilkbmdnneoaaVecJ
import Derived.Test.YtkfilkbmdnneoaaVecE
import Derived.Test.YtkfilkbmdnneoaaJoins10d
import Derived.WalkKit
import Derived.ProofKit
import Derived.OpenShut
import Derived.ShutString
import Derived.ChangeOld
import Derived.Below
import Derived.Carry
namespace Go.Proofs.Ytkfilkbmdnneoaa.vectorJoins
open Go.ChangeShapes Go.WideShapes Go.ChangeAt Go.RowKit
open Go.ChangeMaps (open_string shut_string)
set_option linter.unusedVariables false

theorem own : ownKnob Try.prog.godebug = none := by kernel_rfl
theorem laidOut : laidOutB Try.prog = true := by kernel_rfl

set_option maxRecDepth 100000 in
theorem lifted (os : Os) (started : os.Started) (H : Type) (enc : TypeId × Value → H) :
    ReturnsInHanded {} Try.checked os 4 .any (Rows.vectorJoinsSpec.pre6 enc Try.prog Try.f4 Rows.vectorJoinsRow.domain false) (Rows.vectorJoinsSpec.post enc Try.prog Try.f4 false true false false) := by
  refine returnsInHanded_of_change (C := Try.checked) own started (by kernel_rfl) Try.func4
    (ChangeSpec.witness6 (enc := enc) (C := Try.checked) false ⟨#[], #[.slice none 0 0, .string ⟨#[]⟩], []⟩ 8 (by kernel_rfl) (by kernel_rfl) (by kernel_rfl) (by kernel_rfl)) ?_
  intro W base args ds gs before hval0 hW hcnd _
  have hval : ∀ (j : Nat) t v, Try.f4.params[j]? = some t → args[j]? = some v → Value.okWide Try.prog W .any base t v := hval0
  have hW' := hW
  obtain ⟨p, q, hA0, hV, rfl, hfz, hnd⟩ := hW
  have hA : DataW.TrodAll enc Try.prog W 0 (fun _ => true) true Try.f4.params.toList args.toList ds p := hA0
  rw [Try.params4] at hA hval
  obtain ⟨v0, vs0, d0, ds0, p0, q0, hargs, rfl, rfl, h0, r0⟩ := trodAll_cons hA
  obtain ⟨v1, vs1, d1, ds1, p1, q1, rfl, rfl, rfl, h1, r1⟩ := trodAll_cons r0
  obtain ⟨rfl, rfl, rfl⟩ := trodAll_nil r1
  obtain rfl : args = #[v0, v1] := by cases args; simp_all
  obtain ⟨rfl, rfl⟩ := trodVars_none hV
  have k0 := h0
  have lt0 : ∀ x ∈ p0, x.block < W.heap.size := by obtain ⟨m, hm⟩ := k0; exact DataW.trod_lt m _ _ _ hm
  obtain ⟨ao0, cap0, al0, rfl, hl0, hn0, hc0⟩ := open_vecs (hval 0 34 v0 rfl rfl) h0
  obtain ⟨a1, rfl, rfl, rfl, w1⟩ := open_string Try.underlying9 (hval 1 9 v1 rfl rfl) h1
  clear hA0 hval0
  refine (vectorJoins_done W ao0 cap0 al0 hl0 hn0 hc0 a1 w1).mono fun e W' ⟨he, hkeep⟩ => ?_
  subst he
  have bel : Below W.heap.size W W' := ((hkeep.any : KeepFrom W.heap.size W W')).below (Nat.le_refl _)
  exact ⟨_, rfl, _, _, _, [], _, [], hW', trodAll_mk1 (shut_bool Try.underlying4 _), (trodAll_cons_mk (Below.trod laidOut (by kernel_rfl) (of_decide_eq_true (by kernel_rfl)) k0 bel lt0) (trodAll_cons_mk (shut_string Try.underlying9 w1) trodAll_mk0)), rfl, bel.frame _, fun h => by cases h⟩

theorem over : Rows.vectorJoinsRow.holds Try.pinned (OpenSpec.ofChange Rows.vectorJoinsSpec) :=
  OpenClaim.holds_of_wide 4 Try.f4 rfl rfl rfl rfl rfl rfl rfl ⟨rfl, rfl, rfl, rfl, rfl⟩ rfl rfl rfl rfl rfl (by kernel_rfl) Try.func4 (by kernel_rfl)
    (of_decide_eq_true (by kernel_rfl)) (by unfold Func.isWrapper; first | (rw [if_pos (by decide +kernel)]; kernel_rfl) | (rw [if_neg (by decide +kernel)]; exact ⟨rfl, rfl⟩))
    (fun os started H enc _ => lifted os started H enc)
end Go.Proofs.Ytkfilkbmdnneoaa.vectorJoins
namespace Go.Proofs.Ytkfilkbmdnneoaa
/-- The given statement. -/
theorem vectorJoins_holds : Rows.VectorJoinsSaid := vectorJoins.over
#print axioms vectorJoins_holds
end Go.Proofs.Ytkfilkbmdnneoaa
