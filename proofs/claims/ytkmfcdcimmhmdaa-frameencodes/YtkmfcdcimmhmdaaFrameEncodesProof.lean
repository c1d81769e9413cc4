/-
  The law FrameEncodes of the program at this seat's commit: for every input the call returns true, and each argument reads afterwards as it read before.
  Conditions: none beyond the given statement.
-/
import Derived.Test.YtkmfcdcimmhmdaaRows
import Derived.Test.YtkmfcdcimmhmdaaBase
import Derived.Test.YtkmfcdcimmhmdaaCursor
import Derived.Test.YtkmfcdcimmhmdaaVar
import Derived.Test.YtkmfcdcimmhmdaaVarTake
import Derived.Test.YtkmfcdcimmhmdaaPenMem
import Derived.Test.YtkmfcdcimmhmdaaPen
import Derived.Test.YtkmfcdcimmhmdaaPenWrite
import Derived.Test.YtkmfcdcimmhmdaaVarEnc
import Derived.Test.YtkmfcdcimmhmdaaRef01
import Derived.Test.YtkmfcdcimmhmdaaRef02
import Derived.Test.YtkmfcdcimmhmdaaVarDec
import Derived.Test.YtkmfcdcimmhmdaaBlob
import Derived.Test.YtkmfcdcimmhmdaaFix
import Derived.Test.YtkmfcdcimmhmdaaFixNum
import Derived.Test.YtkmfcdcimmhmdaaFixTake
import Derived.Test.YtkmfcdcimmhmdaaCrc
import Derived.Test.YtkmfcdcimmhmdaaFrame
import Derived.Test.YtkmfcdcimmhmdaaVarLen
import Derived.Test.YtkmfcdcimmhmdaaVarNum
import Derived.Test.YtkmfcdcimmhmdaaOnce
import Derived.Test.YtkmfcdcimmhmdaaCrcMem
import Derived.Test.YtkmfcdcimmhmdaaRefCrc
import Derived.Test.YtkmfcdcimmhmdaaCrcFns
import Derived.Test.YtkmfcdcimmhmdaaCrcMore
import Derived.Test.YtkmfcdcimmhmdaaFrameA
import Derived.Test.YtkmfcdcimmhmdaaFixPut
import Derived.Test.YtkmfcdcimmhmdaaRefBlob
import Derived.Test.YtkmfcdcimmhmdaaRefFrame
import Derived.Test.YtkmfcdcimmhmdaaRefFrame2
import Derived.Test.YtkmfcdcimmhmdaaBlobOrd
import Derived.Test.YtkmfcdcimmhmdaaBlobFns
import Derived.Test.YtkmfcdcimmhmdaaBlobPut
import Derived.Test.YtkmfcdcimmhmdaaFrameEnc
import Derived.Test.YtkmfcdcimmhmdaaHeld
import Derived.Test.YtkmfcdcimmhmdaaFrameTake
import Derived.Test.YtkmfcdcimmhmdaaFrameDec
import Derived.Test.YtkmfcdcimmhmdaaRefFrame3
import Derived.Test.YtkmfcdcimmhmdaaLaw07
import Derived.Test.YtkmfcdcimmhmdaaEncodes07
import Derived.Test.YtkmfcdcimmhmdaaOpen
import Derived.Test.YtkmfcdcimmhmdaaOpen07
import Derived.WalkKit
import Derived.ProofKit
import Derived.OpenShut
import Derived.ShutString
import Derived.ChangeOld
import Derived.Below
import Derived.Carry
namespace Go.Proofs.Ytkmfcdcimmhmdaa.frameEncodes
open Go.ChangeShapes Go.WideShapes Go.ChangeAt Go.RowKit
open Go.ChangeMaps (open_string shut_string)
set_option linter.unusedVariables false

theorem own : ownKnob Try.prog.godebug = none := by kernel_rfl
theorem laidOut : laidOutB Try.prog = true := by kernel_rfl

set_option maxRecDepth 100000 in
theorem lifted (os : Os) (started : os.Started) (H : Type) (enc : TypeId × Value → H) :
    ReturnsInHanded {} Try.checked os 3 .any (Rows.frameEncodesSpec.pre6 enc Try.prog Try.f3 Rows.frameEncodesRow.domain false) (Rows.frameEncodesSpec.post enc Try.prog Try.f3 false true false false) := by
  refine returnsInHanded_of_change (C := Try.checked) own started (by kernel_rfl) Try.func3
    (ChangeSpec.witness6 (enc := enc) (C := Try.checked) false ⟨#[], #[.agg #[.int .u8 0, .int .u8 0, .string ⟨#[]⟩], .string ⟨#[]⟩], []⟩ 8 (by kernel_rfl) (by kernel_rfl) (by kernel_rfl) (by kernel_rfl)) ?_
  intro W base args ds gs before hval0 hW hcnd _
  have hval : ∀ (j : Nat) t v, Try.f3.params[j]? = some t → args[j]? = some v → Value.okWide Try.prog W .any base t v := hval0
  have hW' := hW
  obtain ⟨p, q, hA0, hV, rfl, hfz, hnd⟩ := hW
  have hA : DataW.TrodAll enc Try.prog W 0 (fun _ => true) true Try.f3.params.toList args.toList ds p := hA0
  rw [Try.params3] at hA hval
  obtain ⟨v0, vs0, d0, ds0, p0, q0, hargs, rfl, rfl, h0, r0⟩ := trodAll_cons hA
  obtain ⟨v1, vs1, d1, ds1, p1, q1, rfl, rfl, rfl, h1, r1⟩ := trodAll_cons r0
  obtain ⟨rfl, rfl, rfl⟩ := trodAll_nil r1
  obtain rfl : args = #[v0, v1] := by cases args; simp_all
  obtain ⟨rfl, rfl⟩ := trodVars_none hV
  have k0 := h0
  have lt0 : ∀ x ∈ p0, x.block < W.heap.size := by obtain ⟨m, hm⟩ := k0; exact DataW.trod_lt m _ _ _ hm
  obtain ⟨fv0, fk0, fp0, rfl, fs0⟩ := open_frame (hval 0 23 v0 rfl rfl) h0
  obtain ⟨a1, rfl, rfl, rfl, w1⟩ := open_string Try.underlying9 (hval 1 9 v1 rfl rfl) h1
  clear hA0 hval0
  refine (encodes7_law W fv0 fk0 fp0 fs0 a1 w1).mono fun e W' ⟨he, hkeep⟩ => ?_
  subst he
  have bel : Below W.heap.size W W' := ((hkeep.any : KeepFrom W.heap.size W W')).below (Nat.le_refl _)
  exact ⟨_, rfl, _, _, _, [], _, [], hW', trodAll_mk1 (shut_bool Try.underlying4 _), (trodAll_cons_mk (Below.trod laidOut (by kernel_rfl) (of_decide_eq_true (by kernel_rfl)) k0 bel lt0) (trodAll_cons_mk (shut_string Try.underlying9 w1) trodAll_mk0)), rfl, bel.frame _, fun h => by cases h⟩

theorem over : Rows.frameEncodesRow.holds Try.pinned (OpenSpec.ofChange Rows.frameEncodesSpec) :=
  OpenClaim.holds_of_wide 3 Try.f3 rfl rfl rfl rfl rfl rfl rfl ⟨rfl, rfl, rfl, rfl, rfl⟩ rfl rfl rfl rfl rfl (by kernel_rfl) Try.func3 (by kernel_rfl)
    (of_decide_eq_true (by kernel_rfl)) (by unfold Func.isWrapper; first | (rw [if_pos (by decide +kernel)]; kernel_rfl) | (rw [if_neg (by decide +kernel)]; exact ⟨rfl, rfl⟩))
    (fun os started H enc _ => lifted os started H enc)
end Go.Proofs.Ytkmfcdcimmhmdaa.frameEncodes
namespace Go.Proofs.Ytkmfcdcimmhmdaa
/-- The given statement. -/
theorem frameEncodes_holds : Rows.FrameEncodesSaid := frameEncodes.over
#print axioms frameEncodes_holds
end Go.Proofs.Ytkmfcdcimmhmdaa
