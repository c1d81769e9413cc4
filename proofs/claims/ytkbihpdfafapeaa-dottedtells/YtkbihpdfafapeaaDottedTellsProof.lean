/-
  The law DottedTells of the program at this seat's commit: for every input the call returns true, and each argument reads afterwards as it read before.
  Conditions: none beyond the given statement.
-/
import Derived.Test.YtkbihpdfafapeaaRows
import Derived.Test.YtkbihpdfafapeaaL1
import Derived.Test.YtkbihpdfafapeaaOpen
import Derived.Test.YtkbihpdfafapeaaL2
import Derived.Test.YtkbihpdfafapeaaL3
import Derived.Test.YtkbihpdfafapeaaL6
import Derived.Test.YtkbihpdfafapeaaVector
import Derived.Test.YtkbihpdfafapeaaVecMem
import Derived.Test.YtkbihpdfafapeaaRefVec
import Derived.Test.YtkbihpdfafapeaaRefVec2
import Derived.Test.YtkbihpdfafapeaaRefVec3
import Derived.Test.YtkbihpdfafapeaaRefVec4
import Derived.Test.YtkbihpdfafapeaaOpen10
import Derived.Test.YtkbihpdfafapeaaDotted
import Derived.Test.YtkbihpdfafapeaaDotMem
import Derived.Test.YtkbihpdfafapeaaOpen12
import Derived.Test.YtkbihpdfafapeaaRefDot
import Derived.Test.YtkbihpdfafapeaaRefDot2
import Derived.Test.YtkbihpdfafapeaaRefDot3
import Derived.Test.YtkbihpdfafapeaaRefDot5
import Derived.Test.YtkbihpdfafapeaaSingMem
import Derived.Test.YtkbihpdfafapeaaRefDot4
import Derived.Test.YtkbihpdfafapeaaLaw12
import Derived.Test.YtkbihpdfafapeaaTells12
import Derived.Test.YtkbihpdfafapeaaLaw10
import Derived.Test.YtkbihpdfafapeaaVecA
import Derived.Test.YtkbihpdfafapeaaVecB
import Derived.Test.YtkbihpdfafapeaaVecC
import Derived.Test.YtkbihpdfafapeaaVecMap
import Derived.Test.YtkbihpdfafapeaaVecG
import Derived.Test.YtkbihpdfafapeaaVecD
import Derived.Test.YtkbihpdfafapeaaIter
import Derived.Test.YtkbihpdfafapeaaVecJ
import Derived.Test.YtkbihpdfafapeaaVecE
import Derived.Test.YtkbihpdfafapeaaDtA
import Derived.Test.YtkbihpdfafapeaaDtB
import Derived.Test.YtkbihpdfafapeaaDtC
import Derived.Test.YtkbihpdfafapeaaDtD
import Derived.Test.YtkbihpdfafapeaaQMem
import Derived.Test.YtkbihpdfafapeaaDtE
import Derived.Test.YtkbihpdfafapeaaTells12d
import Derived.WalkKit
import Derived.ProofKit
import Derived.OpenShut
import Derived.ShutString
import Derived.ChangeOld
import Derived.Below
import Derived.Carry
namespace Go.Proofs.Ytkbihpdfafapeaa.dottedTells
open Go.ChangeShapes Go.WideShapes Go.ChangeAt Go.RowKit
open Go.ChangeMaps (open_string shut_string)
set_option linter.unusedVariables false

theorem own : ownKnob Try.prog.godebug = none := by kernel_rfl
theorem laidOut : laidOutB Try.prog = true := by kernel_rfl

set_option maxRecDepth 100000 in
theorem lifted (os : Os) (started : os.Started) (H : Type) (enc : TypeId × Value → H) :
    ReturnsInHanded {} Try.checked os 3 .any (Rows.dottedTellsSpec.pre6 enc Try.prog Try.f3 Rows.dottedTellsRow.domain false) (Rows.dottedTellsSpec.post enc Try.prog Try.f3 false true false false) := by
  refine returnsInHanded_of_change (C := Try.checked) own started (by kernel_rfl) Try.func3
    (ChangeSpec.witness6 (enc := enc) (C := Try.checked) false ⟨#[], #[.agg #[.slice none 0 0, .bool false, .string ⟨#[]⟩, .int .u64 0], .agg #[.slice none 0 0, .bool false, .string ⟨#[]⟩, .int .u64 0], .string ⟨#[]⟩, .int .u64 0], []⟩ 8 (by kernel_rfl) (by kernel_rfl) (by kernel_rfl) (by kernel_rfl)) ?_
  intro W base args ds gs before hval0 hW hcnd _
  have hval : ∀ (j : Nat) t v, Try.f3.params[j]? = some t → args[j]? = some v → Value.okWide Try.prog W .any base t v := hval0
  have hW' := hW
  obtain ⟨p, q, hA0, hV, rfl, hfz, hnd⟩ := hW
  have hA : DataW.TrodAll enc Try.prog W 0 (fun _ => true) true Try.f3.params.toList args.toList ds p := hA0
  rw [Try.params3] at hA hval
  obtain ⟨v0, vs0, d0, ds0, p0, q0, hargs, rfl, rfl, h0, r0⟩ := trodAll_cons hA
  obtain ⟨v1, vs1, d1, ds1, p1, q1, rfl, rfl, rfl, h1, r1⟩ := trodAll_cons r0
  obtain ⟨v2, vs2, d2, ds2, p2, q2, rfl, rfl, rfl, h2, r2⟩ := trodAll_cons r1
  obtain ⟨v3, vs3, d3, ds3, p3, q3, rfl, rfl, rfl, h3, r3⟩ := trodAll_cons r2
  obtain ⟨rfl, rfl, rfl⟩ := trodAll_nil r3
  obtain rfl : args = #[v0, v1, v2, v3] := by cases args; simp_all
  obtain ⟨rfl, rfl⟩ := trodVars_none hV
  have sv0 := h0
  have lt0 : ∀ x ∈ p0, x.block < W.heap.size := by obtain ⟨m, hm⟩ := sv0; exact DataW.trod_lt m _ _ _ hm
  obtain ⟨ao0, cap0, k0, rfl, hn0, hc0⟩ := open_clock (hval 0 27 v0 rfl rfl) h0
  have sv1 := h1
  have lt1 : ∀ x ∈ p1, x.block < W.heap.size := by obtain ⟨m, hm⟩ := sv1; exact DataW.trod_lt m _ _ _ hm
  obtain ⟨ao1, cap1, k1, rfl, hn1, hc1⟩ := open_clock (hval 1 27 v1 rfl rfl) h1
  obtain ⟨a2, rfl, rfl, rfl, w2⟩ := open_string Try.underlying9 (hval 2 9 v2 rfl rfl) h2
  obtain ⟨a3, rfl, rfl, rfl, w3⟩ := open_int Try.underlying23 (hval 3 23 v3 rfl rfl) h3
  clear hA0 hval0
  refine (dottedTells_done W ao0 cap0 k0 hn0 hc0 ao1 cap1 k1 hn1 hc1 a2 w2 a3 w3).mono fun e W' ⟨he, hkeep⟩ => ?_
  subst he
  have bel : Below W.heap.size W W' := ((hkeep.any : KeepFrom W.heap.size W W')).below (Nat.le_refl _)
  exact ⟨_, rfl, _, _, _, [], _, [], hW', trodAll_mk1 (shut_bool Try.underlying4 _), (trodAll_cons_mk (Below.trod laidOut (by kernel_rfl) (of_decide_eq_true (by kernel_rfl)) sv0 bel lt0) (trodAll_cons_mk (Below.trod laidOut (by kernel_rfl) (of_decide_eq_true (by kernel_rfl)) sv1 bel lt1) (trodAll_cons_mk (shut_string Try.underlying9 w2) (trodAll_cons_mk (shut_int Try.underlying23 w3) trodAll_mk0)))), rfl, bel.frame _, fun h => by cases h⟩

theorem over : Rows.dottedTellsRow.holds Try.pinned (OpenSpec.ofChange Rows.dottedTellsSpec) :=
  OpenClaim.holds_of_wide 3 Try.f3 rfl rfl rfl rfl rfl rfl rfl ⟨rfl, rfl, rfl, rfl, rfl⟩ rfl rfl rfl rfl rfl (by kernel_rfl) Try.func3 (by kernel_rfl)
    (of_decide_eq_true (by kernel_rfl)) (by unfold Func.isWrapper; first | (rw [if_pos (by decide +kernel)]; kernel_rfl) | (rw [if_neg (by decide +kernel)]; exact ⟨rfl, rfl⟩))
    (fun os started H enc _ => lifted os started H enc)
end Go.Proofs.Ytkbihpdfafapeaa.dottedTells
namespace Go.Proofs.Ytkbihpdfafapeaa
/-- The given statement. -/
theorem dottedTells_holds : Rows.DottedTellsSaid := dottedTells.over
#print axioms dottedTells_holds
end Go.Proofs.Ytkbihpdfafapeaa
