/-
  The law DcodeEncodes of the program at this seat's commit: for every input the call returns true, and each argument reads afterwards as it read before.
  Conditions: none beyond the given statement.
-/
import Derived.Test.YtfahpnkliecppaaRows
import Derived.Test.YtfahpnkliecppaaL1
import Derived.Test.YtfahpnkliecppaaL2
import Derived.Test.YtfahpnkliecppaaL3
import Derived.Test.YtfahpnkliecppaaL6
import Derived.Test.YtfahpnkliecppaaCodec
import Derived.Test.YtfahpnkliecppaaVector
import Derived.Test.YtfahpnkliecppaaVcode
import Derived.Test.YtfahpnkliecppaaVcPen
import Derived.Test.YtfahpnkliecppaaDotted
import Derived.Test.YtfahpnkliecppaaDcode
import Derived.Test.YtfahpnkliecppaaVecMem
import Derived.Test.YtfahpnkliecppaaRefVec
import Derived.Test.YtfahpnkliecppaaRefVec2
import Derived.Test.YtfahpnkliecppaaRefVec3
import Derived.Test.YtfahpnkliecppaaRefVec4
import Derived.Test.YtfahpnkliecppaaRefVcode
import Derived.Test.YtfahpnkliecppaaRefVcode2
import Derived.Test.YtfahpnkliecppaaDotMem
import Derived.Test.YtfahpnkliecppaaRefDot
import Derived.Test.YtfahpnkliecppaaRefDcode
import Derived.Test.YtfahpnkliecppaaQMem
import Derived.Test.YtfahpnkliecppaaRefDcode2
import Derived.Test.YtfahpnkliecppaaRefDcode3
import Derived.Test.YtfahpnkliecppaaRefDot2
import Derived.Test.YtfahpnkliecppaaOpen
import Derived.Test.YtfahpnkliecppaaOpen10
import Derived.Test.YtfahpnkliecppaaOpen12
import Derived.Test.YtfahpnkliecppaaLaw13
import Derived.Test.YtfahpnkliecppaaCuts13
import Derived.Test.YtfahpnkliecppaaEncodes13
import Derived.Test.YtfahpnkliecppaaLaw11
import Derived.Test.YtfahpnkliecppaaLaw10
import Derived.Test.YtfahpnkliecppaaVecA
import Derived.Test.YtfahpnkliecppaaVecB
import Derived.Test.YtfahpnkliecppaaVcA
import Derived.Test.YtfahpnkliecppaaVcB
import Derived.Test.YtfahpnkliecppaaDtChk
import Derived.Test.YtfahpnkliecppaaDcA
import Derived.Test.YtfahpnkliecppaaDMem
import Derived.Test.YtfahpnkliecppaaDcB
import Derived.Test.YtfahpnkliecppaaDcC
import Derived.Test.YtfahpnkliecppaaDcD
import Derived.Test.YtfahpnkliecppaaEncodes13d
import Derived.WalkKit
import Derived.ProofKit
import Derived.OpenShut
import Derived.ShutString
import Derived.ChangeOld
import Derived.Below
import Derived.Carry
namespace Go.Proofs.Ytfahpnkliecppaa.dcodeEncodes
open Go.ChangeShapes Go.WideShapes Go.ChangeAt Go.RowKit
open Go.ChangeMaps (open_string shut_string)
set_option linter.unusedVariables false

theorem own : ownKnob Try.prog.godebug = none := by kernel_rfl
theorem laidOut : laidOutB Try.prog = true := by kernel_rfl

set_option maxRecDepth 100000 in
theorem lifted (os : Os) (started : os.Started) (H : Type) (enc : TypeId × Value → H) :
    ReturnsInHanded {} Try.checked os 3 .any (Rows.dcodeEncodesSpec.pre6 enc Try.prog Try.f3 Rows.dcodeEncodesRow.domain false) (Rows.dcodeEncodesSpec.post enc Try.prog Try.f3 false true false false) := by
  refine returnsInHanded_of_change (C := Try.checked) own started (by kernel_rfl) Try.func3
    (ChangeSpec.witness6 (enc := enc) (C := Try.checked) false ⟨#[], #[.agg #[.slice none 0 0, .bool false, .string ⟨#[]⟩, .int .u64 0], .agg #[.slice none 0 0, .bool false, .string ⟨#[]⟩, .int .u64 0]], []⟩ 8 (by kernel_rfl) (by kernel_rfl) (by kernel_rfl) (by kernel_rfl)) ?_
  intro W base args ds gs before hval0 hW hcnd _
  have hval : ∀ (j : Nat) t v, Try.f3.params[j]? = some t → args[j]? = some v → Value.okWide Try.prog W .any base t v := hval0
  have hW' := hW
  obtain ⟨p, q, hA0, hV, rfl, hfz, hnd⟩ := hW
  have hA : DataW.TrodAll enc Try.prog W 0 (fun _ => true) true Try.f3.params.toList args.toList ds p := hA0
  rw [Try.params3] at hA hval
  obtain ⟨v0, vs0, d0, ds0, p0, q0, hargs, rfl, rfl, h0, r0⟩ := trodAll_cons hA
  obtain ⟨v1, vs1, d1, ds1, p1, q1, rfl, rfl, rfl, h1, r1⟩ := trodAll_cons r0
  obtain ⟨rfl, rfl, rfl⟩ := trodAll_nil r1
  obtain rfl : args = #[v0, v1] := by cases args; simp_all
  obtain ⟨rfl, rfl⟩ := trodVars_none hV
  have sv0 := h0
  have lt0 : ∀ x ∈ p0, x.block < W.heap.size := by obtain ⟨m, hm⟩ := sv0; exact DataW.trod_lt m _ _ _ hm
  obtain ⟨ao0, cap0, k0, rfl, hn0, hc0⟩ := open_clock (hval 0 27 v0 rfl rfl) h0
  have sv1 := h1
  have lt1 : ∀ x ∈ p1, x.block < W.heap.size := by obtain ⟨m, hm⟩ := sv1; exact DataW.trod_lt m _ _ _ hm
  obtain ⟨ao1, cap1, k1, rfl, hn1, hc1⟩ := open_clock (hval 1 27 v1 rfl rfl) h1
  clear hA0 hval0
  refine (dcodeEncodes_done W ao0 cap0 k0 hn0 hc0 ao1 cap1 k1 hn1 hc1).mono fun e W' ⟨he, hkeep⟩ => ?_
  subst he
  have bel : Below W.heap.size W W' := ((hkeep.any : KeepFrom W.heap.size W W')).below (Nat.le_refl _)
  exact ⟨_, rfl, _, _, _, [], _, [], hW', trodAll_mk1 (shut_bool Try.underlying4 _), (trodAll_cons_mk (Below.trod laidOut (by kernel_rfl) (of_decide_eq_true (by kernel_rfl)) sv0 bel lt0) (trodAll_cons_mk (Below.trod laidOut (by kernel_rfl) (of_decide_eq_true (by kernel_rfl)) sv1 bel lt1) trodAll_mk0)), rfl, bel.frame _, fun h => by cases h⟩

theorem over : Rows.dcodeEncodesRow.holds Try.pinned (OpenSpec.ofChange Rows.dcodeEncodesSpec) :=
  OpenClaim.holds_of_wide 3 Try.f3 rfl rfl rfl rfl rfl rfl rfl ⟨rfl, rfl, rfl, rfl, rfl⟩ rfl rfl rfl rfl rfl (by kernel_rfl) Try.func3 (by kernel_rfl)
    (of_decide_eq_true (by kernel_rfl)) (by unfold Func.isWrapper; first | (rw [if_pos (by decide +kernel)]; kernel_rfl) | (rw [if_neg (by decide +kernel)]; exact ⟨rfl, rfl⟩))
    (fun os started H enc _ => lifted os started H enc)
end Go.Proofs.Ytfahpnkliecppaa.dcodeEncodes
namespace Go.Proofs.Ytfahpnkliecppaa
/-- The given statement. -/
theorem dcodeEncodes_holds : Rows.DcodeEncodesSaid := dcodeEncodes.over
#print axioms dcodeEncodes_holds
end Go.Proofs.Ytfahpnkliecppaa
