/-
  The law SplitAll of the program at this seat's commit: for every input the call returns true, and each argument reads afterwards as it read before.
  Conditions: none beyond the given statement.
-/
import Derived.Test.YtaleennijfefnaaGreatRows
import Derived.Test.YtaleennijfefnaaGreatBase
import Derived.Test.YtaleennijfefnaaGreatCursor
import Derived.Test.YtaleennijfefnaaGreatVar
import Derived.Test.YtaleennijfefnaaGreatVarTake
import Derived.Test.YtaleennijfefnaaGreatPenMem
import Derived.Test.YtaleennijfefnaaGreatPen
import Derived.Test.YtaleennijfefnaaGreatPenWrite
import Derived.Test.YtaleennijfefnaaGreatVarEnc
import Derived.Test.YtaleennijfefnaaGreatRef01
import Derived.Test.YtaleennijfefnaaGreatRef02
import Derived.Test.YtaleennijfefnaaGreatVarDec
import Derived.Test.YtaleennijfefnaaGreatBlob
import Derived.Test.YtaleennijfefnaaGreatFix
import Derived.Test.YtaleennijfefnaaGreatFixNum
import Derived.Test.YtaleennijfefnaaGreatFixTake
import Derived.Test.YtaleennijfefnaaGreatCrc
import Derived.Test.YtaleennijfefnaaGreatFrame
import Derived.Test.YtaleennijfefnaaGreatFixPut
import Derived.Test.YtaleennijfefnaaGreatRefBlob
import Derived.Test.YtaleennijfefnaaGreatRefCrc
import Derived.Test.YtaleennijfefnaaGreatRefFrame
import Derived.Test.YtaleennijfefnaaGreatRefFrame2
import Derived.Test.YtaleennijfefnaaGreatSplit
import Derived.Test.YtaleennijfefnaaGreatSplitMem
import Derived.Test.YtaleennijfefnaaGreatVarLen
import Derived.Test.YtaleennijfefnaaGreatVarNum
import Derived.Test.YtaleennijfefnaaGreatOnce
import Derived.Test.YtaleennijfefnaaGreatCrcMem
import Derived.Test.YtaleennijfefnaaGreatCrcFns
import Derived.Test.YtaleennijfefnaaGreatCrcMore
import Derived.Test.YtaleennijfefnaaGreatFrameA
import Derived.Test.YtaleennijfefnaaGreatBlobOrd
import Derived.Test.YtaleennijfefnaaGreatBlobFns
import Derived.Test.YtaleennijfefnaaGreatHeld
import Derived.Test.YtaleennijfefnaaGreatFrameTake
import Derived.Test.YtaleennijfefnaaGreatFrameDec
import Derived.Test.YtaleennijfefnaaGreatSplitFns
import Derived.Test.YtaleennijfefnaaGreatSplitTop
import Derived.Test.YtaleennijfefnaaGreatBuild
import Derived.Test.YtaleennijfefnaaGreatBlobPut
import Derived.Test.YtaleennijfefnaaGreatFrameEnc
import Derived.Test.YtaleennijfefnaaGreatRefFrame3
import Derived.Test.YtaleennijfefnaaGreatSplitJoin
import Derived.Test.YtaleennijfefnaaGreatLaw08
import Derived.Test.YtaleennijfefnaaGreatRefSplit
import Derived.Test.YtaleennijfefnaaGreatAll08
import Derived.WalkKit
import Derived.ProofKit
import Derived.OpenShut
import Derived.ShutString
import Derived.ChangeOld
import Derived.Below
import Derived.Carry
namespace Go.Proofs.YtaleennijfefnaaGreat.splitAll
open Go.ChangeShapes Go.WideShapes Go.ChangeAt Go.RowKit
open Go.ChangeMaps (open_string shut_string)
set_option linter.unusedVariables false

theorem own : ownKnob Tryz.prog.godebug = none := by kernel_rfl
theorem laidOut : laidOutB Tryz.prog = true := by kernel_rfl

set_option maxRecDepth 100000 in
theorem lifted (os : Os) (started : os.Started) (H : Type) (enc : TypeId × Value → H) :
    ReturnsInHanded {} Tryz.checked os 3 .any (Rows.splitAllSpec.pre6 enc Tryz.prog Tryz.f3 Rows.splitAllRow.domain false) (Rows.splitAllSpec.post enc Tryz.prog Tryz.f3 false true false false) := by
  refine returnsInHanded_of_change (C := Tryz.checked) own started (by kernel_rfl) Tryz.func3
    (ChangeSpec.witness6 (enc := enc) (C := Tryz.checked) false ⟨#[], #[.string ⟨#[]⟩], []⟩ 8 (by kernel_rfl) (by kernel_rfl) (by kernel_rfl) (by kernel_rfl)) ?_
  intro W base args ds gs before hval0 hW hcnd _
  have hval : ∀ (j : Nat) t v, Tryz.f3.params[j]? = some t → args[j]? = some v → Value.okWide Tryz.prog W .any base t v := hval0
  have hW' := hW
  obtain ⟨p, q, hA0, hV, rfl, hfz, hnd⟩ := hW
  have hA : DataW.TrodAll enc Tryz.prog W 0 (fun _ => true) true Tryz.f3.params.toList args.toList ds p := hA0
  rw [Tryz.params3] at hA hval
  obtain ⟨v0, vs0, d0, ds0, p0, q0, hargs, rfl, rfl, h0, r0⟩ := trodAll_cons hA
  obtain ⟨rfl, rfl, rfl⟩ := trodAll_nil r0
  obtain rfl : args = #[v0] := by cases args; simp_all
  obtain ⟨rfl, rfl⟩ := trodVars_none hV
  obtain ⟨a0, rfl, rfl, rfl, w0⟩ := open_string Tryz.underlying9 (hval 0 9 v0 rfl rfl) h0
  clear hA0 hval0
  refine (splitAll_law W a0 w0).mono fun e W' ⟨he, hkeep⟩ => ?_
  subst he
  have bel : Below W.heap.size W W' := ((hkeep.any : KeepFrom W.heap.size W W')).below (Nat.le_refl _)
  exact ⟨_, rfl, _, _, _, [], _, [], hW', trodAll_mk1 (shut_bool Tryz.underlying4 _), (trodAll_cons_mk (shut_string Tryz.underlying9 w0) trodAll_mk0), rfl, bel.frame _, fun h => by cases h⟩

theorem over : Rows.splitAllRow.holds Tryz.pinned (OpenSpec.ofChange Rows.splitAllSpec) :=
  OpenClaim.holds_of_wide 3 Tryz.f3 rfl rfl rfl rfl rfl rfl rfl ⟨rfl, rfl, rfl, rfl, rfl⟩ rfl rfl rfl rfl rfl (by kernel_rfl) Tryz.func3 (by kernel_rfl)
    (of_decide_eq_true (by kernel_rfl)) (by unfold Func.isWrapper; first | (rw [if_pos (by decide +kernel)]; kernel_rfl) | (rw [if_neg (by decide +kernel)]; exact ⟨rfl, rfl⟩))
    (fun os started H enc _ => lifted os started H enc)
end Go.Proofs.YtaleennijfefnaaGreat.splitAll
namespace Go.Proofs.YtaleennijfefnaaGreat
/-- The given statement. -/
theorem splitAll_holds : Rows.SplitAllSaid := splitAll.over
#print axioms splitAll_holds
end Go.Proofs.YtaleennijfefnaaGreat
