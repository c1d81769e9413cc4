/-
  The law SplitBegins of the program at this seat's commit: for every input the call returns true, and each argument reads afterwards as it read before.
  Conditions: none beyond the given statement.
-/
import Derived.Test.YtaleennijfefnaaGreatRows
import Derived.Test.YtaleennijfefnaaGreatBase
import Derived.Test.YtaleennijfefnaaGreatCursor
import Derived.Test.YtaleennijfefnaaGreatVar
import Derived.Test.YtaleennijfefnaaGreatVarTake
import Derived.Test.YtaleennijfefnaaGreatPenMem
import Derived.Test.YtaleennijfefnaaGreatPen
import Derived.Test.YtaleennijfefnaaGreatPenWrite
import Derived.Test.YtaleennijfefnaaGreatVarEnc
import Derived.Test.YtaleennijfefnaaGreatRef01
import Derived.Test.YtaleennijfefnaaGreatRef02
import Derived.Test.YtaleennijfefnaaGreatVarDec
import Derived.Test.YtaleennijfefnaaGreatBlob
import Derived.Test.YtaleennijfefnaaGreatFix
import Derived.Test.YtaleennijfefnaaGreatFixNum
import Derived.Test.YtaleennijfefnaaGreatFixTake
import Derived.Test.YtaleennijfefnaaGreatCrc
import Derived.Test.YtaleennijfefnaaGreatFrame
import Derived.Test.YtaleennijfefnaaGreatFixPut
import Derived.Test.YtaleennijfefnaaGreatRefBlob
import Derived.Test.YtaleennijfefnaaGreatRefCrc
import Derived.Test.YtaleennijfefnaaGreatRefFrame
import Derived.Test.YtaleennijfefnaaGreatRefFrame2
import Derived.Test.YtaleennijfefnaaGreatSplit
import Derived.Test.YtaleennijfefnaaGreatSplitMem
import Derived.Test.YtaleennijfefnaaGreatVarLen
import Derived.Test.YtaleennijfefnaaGreatVarNum
import Derived.Test.YtaleennijfefnaaGreatOnce
import Derived.Test.YtaleennijfefnaaGreatCrcMem
import Derived.Test.YtaleennijfefnaaGreatCrcFns
import Derived.Test.YtaleennijfefnaaGreatCrcMore
import Derived.Test.YtaleennijfefnaaGreatFrameA
import Derived.Test.YtaleennijfefnaaGreatBlobOrd
import Derived.Test.YtaleennijfefnaaGreatBlobFns
import Derived.Test.YtaleennijfefnaaGreatHeld
import Derived.Test.YtaleennijfefnaaGreatFrameTake
import Derived.Test.YtaleennijfefnaaGreatFrameDec
import Derived.Test.YtaleennijfefnaaGreatSplitFns
import Derived.Test.YtaleennijfefnaaGreatSplitTop
import Derived.Test.YtaleennijfefnaaGreatBuild
import Derived.Test.YtaleennijfefnaaGreatBlobPut
import Derived.Test.YtaleennijfefnaaGreatFrameEnc
import Derived.Test.YtaleennijfefnaaGreatRefFrame3
import Derived.Test.YtaleennijfefnaaGreatSplitJoin
import Derived.Test.YtaleennijfefnaaGreatLaw08
import Derived.Test.YtaleennijfefnaaGreatOpen
import Derived.Test.YtaleennijfefnaaGreatOpen07
import Derived.Test.YtaleennijfefnaaGreatBegins08
import Derived.WalkKit
import Derived.ProofKit
import Derived.OpenShut
import Derived.ShutString
import Derived.ChangeOld
import Derived.Below
import Derived.Carry
namespace Go.Proofs.YtaleennijfefnaaGreat.splitBegins
open Go.ChangeShapes Go.WideShapes Go.ChangeAt Go.RowKit
open Go.ChangeMaps (open_string shut_string)
set_option linter.unusedVariables false

theorem own : ownKnob Tryz.prog.godebug = none := by kernel_rfl
theorem laidOut : laidOutB Tryz.prog = true := by kernel_rfl

set_option maxRecDepth 100000 in
theorem lifted (os : Os) (started : os.Started) (H : Type) (enc : TypeId × Value → H) :
    ReturnsInHanded {} Tryz.checked os 5 .any (Rows.splitBeginsSpec.pre6 enc Tryz.prog Tryz.f5 Rows.splitBeginsRow.domain false) (Rows.splitBeginsSpec.post enc Tryz.prog Tryz.f5 false true false false) := by
  refine returnsInHanded_of_change (C := Tryz.checked) own started (by kernel_rfl) Tryz.func5
    (ChangeSpec.witness6 (enc := enc) (C := Tryz.checked) false ⟨#[], #[.agg #[.int .u8 0, .int .u8 0, .string ⟨#[]⟩], .string ⟨#[]⟩, .string ⟨#[]⟩], []⟩ 8 (by kernel_rfl) (by kernel_rfl) (by kernel_rfl) (by kernel_rfl)) ?_
  intro W base args ds gs before hval0 hW hcnd _
  have hval : ∀ (j : Nat) t v, Tryz.f5.params[j]? = some t → args[j]? = some v → Value.okWide Tryz.prog W .any base t v := hval0
  have hW' := hW
  obtain ⟨p, q, hA0, hV, rfl, hfz, hnd⟩ := hW
  have hA : DataW.TrodAll enc Tryz.prog W 0 (fun _ => true) true Tryz.f5.params.toList args.toList ds p := hA0
  rw [Tryz.params5] at hA hval
  obtain ⟨v0, vs0, d0, ds0, p0, q0, hargs, rfl, rfl, h0, r0⟩ := trodAll_cons hA
  obtain ⟨v1, vs1, d1, ds1, p1, q1, rfl, rfl, rfl, h1, r1⟩ := trodAll_cons r0
  obtain ⟨v2, vs2, d2, ds2, p2, q2, rfl, rfl, rfl, h2, r2⟩ := trodAll_cons r1
  obtain ⟨rfl, rfl, rfl⟩ := trodAll_nil r2
  obtain rfl : args = #[v0, v1, v2] := by cases args; simp_all
  obtain ⟨rfl, rfl⟩ := trodVars_none hV
  have k0 := h0
  have lt0 : ∀ x ∈ p0, x.block < W.heap.size := by obtain ⟨m, hm⟩ := k0; exact DataW.trod_lt m _ _ _ hm
  obtain ⟨fv0, fk0, fp0, rfl, fs0⟩ := open_frame (hval 0 31 v0 rfl rfl) h0
  obtain ⟨a1, rfl, rfl, rfl, w1⟩ := open_string Tryz.underlying9 (hval 1 9 v1 rfl rfl) h1
  obtain ⟨a2, rfl, rfl, rfl, w2⟩ := open_string Tryz.underlying9 (hval 2 9 v2 rfl rfl) h2
  clear hA0 hval0
  refine (splitBegins_law W fv0 fk0 fp0 fs0 a1 w1 a2 w2).mono fun e W' ⟨he, hkeep⟩ => ?_
  subst he
  have bel : Below W.heap.size W W' := ((hkeep.any : KeepFrom W.heap.size W W')).below (Nat.le_refl _)
  exact ⟨_, rfl, _, _, _, [], _, [], hW', trodAll_mk1 (shut_bool Tryz.underlying4 _), (trodAll_cons_mk (Below.trod laidOut (by kernel_rfl) (of_decide_eq_true (by kernel_rfl)) k0 bel lt0) (trodAll_cons_mk (shut_string Tryz.underlying9 w1) (trodAll_cons_mk (shut_string Tryz.underlying9 w2) trodAll_mk0))), rfl, bel.frame _, fun h => by cases h⟩

theorem over : Rows.splitBeginsRow.holds Tryz.pinned (OpenSpec.ofChange Rows.splitBeginsSpec) :=
  OpenClaim.holds_of_wide 5 Tryz.f5 rfl rfl rfl rfl rfl rfl rfl ⟨rfl, rfl, rfl, rfl, rfl⟩ rfl rfl rfl rfl rfl (by kernel_rfl) Tryz.func5 (by kernel_rfl)
    (of_decide_eq_true (by kernel_rfl)) (by unfold Func.isWrapper; first | (rw [if_pos (by decide +kernel)]; kernel_rfl) | (rw [if_neg (by decide +kernel)]; exact ⟨rfl, rfl⟩))
    (fun os started H enc _ => lifted os started H enc)
end Go.Proofs.YtaleennijfefnaaGreat.splitBegins
namespace Go.Proofs.YtaleennijfefnaaGreat
/-- The given statement. -/
theorem splitBegins_holds : Rows.SplitBeginsSaid := splitBegins.over
#print axioms splitBegins_holds
end Go.Proofs.YtaleennijfefnaaGreat
