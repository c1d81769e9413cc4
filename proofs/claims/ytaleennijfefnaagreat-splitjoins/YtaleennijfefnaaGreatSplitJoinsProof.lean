/-
  The law SplitJoins of the program at this seat's commit: for every input the call returns true, and each argument reads afterwards as it read before.
  Conditions: none beyond the given statement.
-/
import Derived.Test.YtaleennijfefnaaGreatRows
import Derived.Test.YtaleennijfefnaaGreatBase
import Derived.Test.YtaleennijfefnaaGreatCursor
import Derived.Test.YtaleennijfefnaaGreatVar
import Derived.Test.YtaleennijfefnaaGreatVarTake
import Derived.Test.YtaleennijfefnaaGreatPenMem
import Derived.Test.YtaleennijfefnaaGreatPen
import Derived.Test.YtaleennijfefnaaGreatPenWrite
import Derived.Test.YtaleennijfefnaaGreatVarEnc
import Derived.Test.YtaleennijfefnaaGreatRef01
import Derived.Test.YtaleennijfefnaaGreatRef02
import Derived.Test.YtaleennijfefnaaGreatVarDec
import Derived.Test.YtaleennijfefnaaGreatBlob
import Derived.Test.YtaleennijfefnaaGreatFix
import Derived.Test.YtaleennijfefnaaGreatFixNum
import Derived.Test.YtaleennijfefnaaGreatFixTake
import Derived.Test.YtaleennijfefnaaGreatCrc
import Derived.Test.YtaleennijfefnaaGreatFrame
import Derived.Test.YtaleennijfefnaaGreatFixPut
import Derived.Test.YtaleennijfefnaaGreatRefBlob
import Derived.Test.YtaleennijfefnaaGreatRefCrc
import Derived.Test.YtaleennijfefnaaGreatRefFrame
import Derived.Test.YtaleennijfefnaaGreatRefFrame2
import Derived.Test.YtaleennijfefnaaGreatSplit
import Derived.Test.YtaleennijfefnaaGreatSplitMem
import Derived.Test.YtaleennijfefnaaGreatVarLen
import Derived.Test.YtaleennijfefnaaGreatVarNum
import Derived.Test.YtaleennijfefnaaGreatOnce
import Derived.Test.YtaleennijfefnaaGreatCrcMem
import Derived.Test.YtaleennijfefnaaGreatCrcFns
import Derived.Test.YtaleennijfefnaaGreatCrcMore
import Derived.Test.YtaleennijfefnaaGreatFrameA
import Derived.Test.YtaleennijfefnaaGreatBlobOrd
import Derived.Test.YtaleennijfefnaaGreatBlobFns
import Derived.Test.YtaleennijfefnaaGreatHeld
import Derived.Test.YtaleennijfefnaaGreatFrameTake
import Derived.Test.YtaleennijfefnaaGreatFrameDec
import Derived.Test.YtaleennijfefnaaGreatSplitFns
import Derived.Test.YtaleennijfefnaaGreatSplitTop
import Derived.Test.YtaleennijfefnaaGreatBuild
import Derived.Test.YtaleennijfefnaaGreatBlobPut
import Derived.Test.YtaleennijfefnaaGreatFrameEnc
import Derived.Test.YtaleennijfefnaaGreatRefFrame3
import Derived.Test.YtaleennijfefnaaGreatSplitJoin
import Derived.Test.YtaleennijfefnaaGreatLaw08
import Derived.Test.YtaleennijfefnaaGreatOpen
import Derived.Test.YtaleennijfefnaaGreatOpen07
import Derived.Test.YtaleennijfefnaaGreatOpen08
import Derived.Test.YtaleennijfefnaaGreatJoins08
import Derived.WalkKit
import Derived.ProofKit
import Derived.OpenShut
import Derived.ShutString
import Derived.ChangeOld
import Derived.Below
import Derived.Carry
namespace Go.Proofs.YtaleennijfefnaaGreat.splitJoins
open Go.ChangeShapes Go.WideShapes Go.ChangeAt Go.RowKit
open Go.ChangeMaps (open_string shut_string)
set_option linter.unusedVariables false

theorem own : ownKnob Tryz.prog.godebug = none := by kernel_rfl
theorem laidOut : laidOutB Tryz.prog = true := by kernel_rfl

set_option maxRecDepth 100000 in
theorem lifted (os : Os) (started : os.Started) (H : Type) (enc : TypeId × Value → H) :
    ReturnsInHanded {} Tryz.checked os 4 .any (Rows.splitJoinsSpec.pre6 enc Tryz.prog Tryz.f4 Rows.splitJoinsRow.domain false) (Rows.splitJoinsSpec.post enc Tryz.prog Tryz.f4 false true false false) := by
  refine returnsInHanded_of_change (C := Tryz.checked) own started (by kernel_rfl) Tryz.func4
    (ChangeSpec.witness6 (enc := enc) (C := Tryz.checked) false ⟨#[], #[.slice none 0 0], []⟩ 8 (by kernel_rfl) (by kernel_rfl) (by kernel_rfl) (by kernel_rfl)) ?_
  intro W base args ds gs before hval0 hW hcnd _
  have hval : ∀ (j : Nat) t v, Tryz.f4.params[j]? = some t → args[j]? = some v → Value.okWide Tryz.prog W .any base t v := hval0
  have hW' := hW
  obtain ⟨p, q, hA0, hV, rfl, hfz, hnd⟩ := hW
  have hA : DataW.TrodAll enc Tryz.prog W 0 (fun _ => true) true Tryz.f4.params.toList args.toList ds p := hA0
  rw [Tryz.params4] at hA hval
  obtain ⟨v0, vs0, d0, ds0, p0, q0, hargs, rfl, rfl, h0, r0⟩ := trodAll_cons hA
  obtain ⟨rfl, rfl, rfl⟩ := trodAll_nil r0
  obtain rfl : args = #[v0] := by cases args; simp_all
  obtain ⟨rfl, rfl⟩ := trodVars_none hV
  have k0 := h0
  have lt0 : ∀ x ∈ p0, x.block < W.heap.size := by obtain ⟨m, hm⟩ := k0; exact DataW.trod_lt m _ _ _ hm
  obtain ⟨ao0, cap0, al0, rfl, hl0, hn0, hc0⟩ := open_frames (hval 0 23 v0 rfl rfl) h0
  clear hA0 hval0
  refine (splitJoins_law W ao0 cap0 al0 hl0 hn0 hc0).mono fun e W' ⟨he, hkeep⟩ => ?_
  subst he
  have bel : Below W.heap.size W W' := ((hkeep.any : KeepFrom W.heap.size W W')).below (Nat.le_refl _)
  exact ⟨_, rfl, _, _, _, [], _, [], hW', trodAll_mk1 (shut_bool Tryz.underlying4 _), (trodAll_cons_mk (Below.trod laidOut (by kernel_rfl) (of_decide_eq_true (by kernel_rfl)) k0 bel lt0) trodAll_mk0), rfl, bel.frame _, fun h => by cases h⟩

theorem over : Rows.splitJoinsRow.holds Tryz.pinned (OpenSpec.ofChange Rows.splitJoinsSpec) :=
  OpenClaim.holds_of_wide 4 Tryz.f4 rfl rfl rfl rfl rfl rfl rfl ⟨rfl, rfl, rfl, rfl, rfl⟩ rfl rfl rfl rfl rfl (by kernel_rfl) Tryz.func4 (by kernel_rfl)
    (of_decide_eq_true (by kernel_rfl)) (by unfold Func.isWrapper; first | (rw [if_pos (by decide +kernel)]; kernel_rfl) | (rw [if_neg (by decide +kernel)]; exact ⟨rfl, rfl⟩))
    (fun os started H enc _ => lifted os started H enc)
end Go.Proofs.YtaleennijfefnaaGreat.splitJoins
namespace Go.Proofs.YtaleennijfefnaaGreat
/-- The given statement. -/
theorem splitJoins_holds : Rows.SplitJoinsSaid := splitJoins.over
#print axioms splitJoins_holds
end Go.Proofs.YtaleennijfefnaaGreat
