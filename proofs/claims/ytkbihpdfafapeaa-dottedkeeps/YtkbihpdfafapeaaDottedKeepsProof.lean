/-
  The law DottedKeeps of the program at this seat's commit: for every input the call returns true, and each argument reads afterwards as it read before.
  Conditions: none beyond the given statement.
-/
import Derived.Test.YtkbihpdfafapeaaRows
import Derived.Test.YtkbihpdfafapeaaL1
import Derived.Test.YtkbihpdfafapeaaOpen
import Derived.Test.YtkbihpdfafapeaaL2
import Derived.Test.YtkbihpdfafapeaaL3
import Derived.Test.YtkbihpdfafapeaaL6
import Derived.Test.YtkbihpdfafapeaaVector
import Derived.Test.YtkbihpdfafapeaaVecMem
import Derived.Test.YtkbihpdfafapeaaRefVec
import Derived.Test.YtkbihpdfafapeaaRefVec2
import Derived.Test.YtkbihpdfafapeaaRefVec3
import Derived.Test.YtkbihpdfafapeaaRefVec4
import Derived.Test.YtkbihpdfafapeaaOpen10
import Derived.Test.YtkbihpdfafapeaaDotted
import Derived.Test.YtkbihpdfafapeaaDotMem
import Derived.Test.YtkbihpdfafapeaaOpen12
import Derived.Test.YtkbihpdfafapeaaRefDot
import Derived.Test.YtkbihpdfafapeaaRefDot2
import Derived.Test.YtkbihpdfafapeaaRefDot3
import Derived.Test.YtkbihpdfafapeaaRefDot5
import Derived.Test.YtkbihpdfafapeaaSingMem
import Derived.Test.YtkbihpdfafapeaaRefDot4
import Derived.Test.YtkbihpdfafapeaaLaw12
import Derived.Test.YtkbihpdfafapeaaInts12
import Derived.Test.YtkbihpdfafapeaaKeeps12
import Derived.Test.YtkbihpdfafapeaaLaw10
import Derived.Test.YtkbihpdfafapeaaVecA
import Derived.Test.YtkbihpdfafapeaaVecB
import Derived.Test.YtkbihpdfafapeaaVecC
import Derived.Test.YtkbihpdfafapeaaVecMap
import Derived.Test.YtkbihpdfafapeaaVecG
import Derived.Test.YtkbihpdfafapeaaVecD
import Derived.Test.YtkbihpdfafapeaaIter
import Derived.Test.YtkbihpdfafapeaaVecJ
import Derived.Test.YtkbihpdfafapeaaVecE
import Derived.Test.YtkbihpdfafapeaaDtA
import Derived.Test.YtkbihpdfafapeaaDtB
import Derived.Test.YtkbihpdfafapeaaDtC
import Derived.Test.YtkbihpdfafapeaaDtD
import Derived.Test.YtkbihpdfafapeaaQMem
import Derived.Test.YtkbihpdfafapeaaDtE
import Derived.Test.YtkbihpdfafapeaaKeeps12d
import Derived.WalkKit
import Derived.ProofKit
import Derived.OpenShut
import Derived.ShutString
import Derived.ChangeOld
import Derived.Below
import Derived.Carry
namespace Go.Proofs.Ytkbihpdfafapeaa.dottedKeeps
open Go.ChangeShapes Go.WideShapes Go.ChangeAt Go.RowKit
open Go.ChangeMaps (open_string shut_string)
set_option linter.unusedVariables false

theorem own : ownKnob Try.prog.godebug = none := by kernel_rfl
theorem laidOut : laidOutB Try.prog = true := by kernel_rfl

set_option maxRecDepth 100000 in
theorem lifted (os : Os) (started : os.Started) (H : Type) (enc : TypeId × Value → H) :
    ReturnsInHanded {} Try.checked os 4 .any (Rows.dottedKeepsSpec.pre6 enc Try.prog Try.f4 Rows.dottedKeepsRow.domain false) (Rows.dottedKeepsSpec.post enc Try.prog Try.f4 false true false false) := by
  refine returnsInHanded_of_change (C := Try.checked) own started (by kernel_rfl) Try.func4
    (ChangeSpec.witness6 (enc := enc) (C := Try.checked) false ⟨#[], #[.slice none 0 0], []⟩ 8 (by kernel_rfl) (by kernel_rfl) (by kernel_rfl) (by kernel_rfl)) ?_
  intro W base args ds gs before hval0 hW hcnd _
  have hval : ∀ (j : Nat) t v, Try.f4.params[j]? = some t → args[j]? = some v → Value.okWide Try.prog W .any base t v := hval0
  have hW' := hW
  obtain ⟨p, q, hA0, hV, rfl, hfz, hnd⟩ := hW
  have hA : DataW.TrodAll enc Try.prog W 0 (fun _ => true) true Try.f4.params.toList args.toList ds p := hA0
  rw [Try.params4] at hA hval
  obtain ⟨v0, vs0, d0, ds0, p0, q0, hargs, rfl, rfl, h0, r0⟩ := trodAll_cons hA
  obtain ⟨rfl, rfl, rfl⟩ := trodAll_nil r0
  obtain rfl : args = #[v0] := by cases args; simp_all
  obtain ⟨rfl, rfl⟩ := trodVars_none hV
  have k0 := h0
  have lt0 : ∀ x ∈ p0, x.block < W.heap.size := by obtain ⟨m, hm⟩ := k0; exact DataW.trod_lt m _ _ _ hm
  obtain ⟨ao0, cap0, al0, rfl, hl0, hn0, hc0⟩ := open_clocks (hval 0 37 v0 rfl rfl) h0
  clear hA0 hval0
  refine (dottedKeeps_done W ao0 cap0 al0 hl0 hn0 hc0).mono fun e W' ⟨he, hkeep⟩ => ?_
  subst he
  have bel : Below W.heap.size W W' := ((hkeep.any : KeepFrom W.heap.size W W')).below (Nat.le_refl _)
  exact ⟨_, rfl, _, _, _, [], _, [], hW', trodAll_mk1 (shut_bool Try.underlying4 _), (trodAll_cons_mk (Below.trod laidOut (by kernel_rfl) (of_decide_eq_true (by kernel_rfl)) k0 bel lt0) trodAll_mk0), rfl, bel.frame _, fun h => by cases h⟩

theorem over : Rows.dottedKeepsRow.holds Try.pinned (OpenSpec.ofChange Rows.dottedKeepsSpec) :=
  OpenClaim.holds_of_wide 4 Try.f4 rfl rfl rfl rfl rfl rfl rfl ⟨rfl, rfl, rfl, rfl, rfl⟩ rfl rfl rfl rfl rfl (by kernel_rfl) Try.func4 (by kernel_rfl)
    (of_decide_eq_true (by kernel_rfl)) (by unfold Func.isWrapper; first | (rw [if_pos (by decide +kernel)]; kernel_rfl) | (rw [if_neg (by decide +kernel)]; exact ⟨rfl, rfl⟩))
    (fun os started H enc _ => lifted os started H enc)
end Go.Proofs.Ytkbihpdfafapeaa.dottedKeeps
namespace Go.Proofs.Ytkbihpdfafapeaa
/-- The given statement. -/
theorem dottedKeeps_holds : Rows.DottedKeepsSaid := dottedKeeps.over
#print axioms dottedKeeps_holds
end Go.Proofs.Ytkbihpdfafapeaa
