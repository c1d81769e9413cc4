/-
  The law ObjectSorts of the program at this seat's commit: for every input the call returns true, and each argument reads afterwards as it read before.
  Conditions: none beyond the given statement.
-/
import Derived.Test.YteonkfedgopdiaaGreatRows
import Derived.Test.YteonkfedgopdiaaGreatY1
import Derived.Test.YteonkfedgopdiaaGreatY2
import Derived.Test.YteonkfedgopdiaaGreatY3
import Derived.Test.YteonkfedgopdiaaGreatY4
import Derived.Test.YteonkfedgopdiaaGreatY5
import Derived.Test.YteonkfedgopdiaaGreatY6
import Derived.Test.YteonkfedgopdiaaGreatY7
import Derived.Test.YteonkfedgopdiaaGreatY8
import Derived.Test.YteonkfedgopdiaaGreatY9
import Derived.Test.YteonkfedgopdiaaGreatY10
import Derived.Test.YteonkfedgopdiaaGreatY11
import Derived.Test.YteonkfedgopdiaaGreatY12
import Derived.Test.YteonkfedgopdiaaGreatY13
import Derived.Test.YteonkfedgopdiaaGreatY14
import Derived.Test.YteonkfedgopdiaaGreatY15
import Derived.Test.YteonkfedgopdiaaGreatY16
import Derived.Test.YteonkfedgopdiaaGreatY17
import Derived.Test.YteonkfedgopdiaaGreatY18
import Derived.Test.YteonkfedgopdiaaGreatY19
import Derived.Test.YteonkfedgopdiaaGreatY20
import Derived.Test.YteonkfedgopdiaaGreatY21
import Derived.Test.YteonkfedgopdiaaGreatY22
import Derived.Test.YteonkfedgopdiaaGreatY23
import Derived.Test.YteonkfedgopdiaaGreatY24
import Derived.Test.YteonkfedgopdiaaGreatY25
import Derived.Test.YteonkfedgopdiaaGreatY26
import Derived.Test.YteonkfedgopdiaaGreatY27
import Derived.Test.YteonkfedgopdiaaGreatY28
import Derived.Test.YteonkfedgopdiaaGreatY29
import Derived.Test.YteonkfedgopdiaaGreatY30
import Derived.Test.YteonkfedgopdiaaGreatY31
import Derived.Test.YteonkfedgopdiaaGreatY32
import Derived.Test.YteonkfedgopdiaaGreatY33
import Derived.Test.YteonkfedgopdiaaGreatY34
import Derived.Test.YteonkfedgopdiaaGreatY35
import Derived.Test.YteonkfedgopdiaaGreatY36
import Derived.Test.YteonkfedgopdiaaGreatY37
import Derived.Test.YteonkfedgopdiaaGreatY38
import Derived.Test.YteonkfedgopdiaaGreatY39
import Derived.Test.YteonkfedgopdiaaGreatY40
import Derived.Test.YteonkfedgopdiaaGreatY41
import Derived.Test.YteonkfedgopdiaaGreatY42
import Derived.Test.YteonkfedgopdiaaGreatY43
import Derived.Test.YteonkfedgopdiaaGreatY44
import Derived.Test.YteonkfedgopdiaaGreatY45
import Derived.Test.YteonkfedgopdiaaGreatY46
import Derived.Test.YteonkfedgopdiaaGreatY47
import Derived.Test.YteonkfedgopdiaaGreatY48
import Derived.Test.YteonkfedgopdiaaGreatY49
import Derived.Test.YteonkfedgopdiaaGreatY50
import Derived.Test.YteonkfedgopdiaaGreatSorts16dy
import Derived.WalkKit
import Derived.ProofKit
import Derived.OpenShut
import Derived.ShutString
import Derived.ChangeOld
import Derived.Below
import Derived.Carry
namespace Go.Proofs.YteonkfedgopdiaaGreat.objectSorts
open Go.ChangeShapes Go.WideShapes Go.ChangeAt Go.RowKit
open Go.ChangeMaps (open_string shut_string)
set_option linter.unusedVariables false

theorem own : ownKnob Tryz.prog.godebug = none := by kernel_rfl
theorem laidOut : laidOutB Tryz.prog = true := by kernel_rfl

set_option maxRecDepth 100000 in
theorem lifted (os : Os) (started : os.Started) (H : Type) (enc : TypeId × Value → H) :
    ReturnsInHanded {} Tryz.checked os 5 .any (Rows.objectSortsSpec.pre6 enc Tryz.prog Tryz.f5 Rows.objectSortsRow.domain false) (Rows.objectSortsSpec.post enc Tryz.prog Tryz.f5 false true false false) := by
  refine returnsInHanded_of_change (C := Tryz.checked) own started (by kernel_rfl) Tryz.func5
    (ChangeSpec.witness6 (enc := enc) (C := Tryz.checked) false ⟨#[], #[.string ⟨#[]⟩, .slice none 0 0, .int .u8 0, .int .i64 0], []⟩ 8 (by kernel_rfl) (by kernel_rfl) (by kernel_rfl) (by kernel_rfl)) ?_
  intro W base args ds gs before hval0 hW hcnd _
  have hval : ∀ (j : Nat) t v, Tryz.f5.params[j]? = some t → args[j]? = some v → Value.okWide Tryz.prog W .any base t v := hval0
  have hW' := hW
  obtain ⟨p, q, hA0, hV, rfl, hfz, hnd⟩ := hW
  have hA : DataW.TrodAll enc Tryz.prog W 0 (fun _ => true) true Tryz.f5.params.toList args.toList ds p := hA0
  rw [Tryz.params5] at hA hval
  obtain ⟨v0, vs0, d0, ds0, p0, q0, hargs, rfl, rfl, h0, r0⟩ := trodAll_cons hA
  obtain ⟨v1, vs1, d1, ds1, p1, q1, rfl, rfl, rfl, h1, r1⟩ := trodAll_cons r0
  obtain ⟨v2, vs2, d2, ds2, p2, q2, rfl, rfl, rfl, h2, r2⟩ := trodAll_cons r1
  obtain ⟨v3, vs3, d3, ds3, p3, q3, rfl, rfl, rfl, h3, r3⟩ := trodAll_cons r2
  obtain ⟨rfl, rfl, rfl⟩ := trodAll_nil r3
  obtain rfl : args = #[v0, v1, v2, v3] := by cases args; simp_all
  obtain ⟨rfl, rfl⟩ := trodVars_none hV
  obtain ⟨a0, rfl, rfl, rfl, w0⟩ := open_string Tryz.underlying9 (hval 0 9 v0 rfl rfl) h0
  have sv1 := h1
  have lt1 : ∀ x ∈ p1, x.block < W.heap.size := by obtain ⟨m, hm⟩ := sv1; exact DataW.trod_lt m _ _ _ hm
  obtain ⟨ao1, cap1, al1, rfl, hl1, hq1, hn1, hc1⟩ := open_sibsC (hval 1 22 v1 rfl rfl) h1
  obtain ⟨a2, rfl, rfl, rfl, w2⟩ := open_int Tryz.underlying5 (hval 2 5 v2 rfl rfl) h2
  obtain ⟨a3, rfl, rfl, rfl, w3⟩ := open_int Tryz.underlying3 (hval 3 3 v3 rfl rfl) h3
  clear hA0 hval0
  refine (objectSorts_done W a0 w0 ao1 cap1 al1 hl1 hq1 hn1 hc1 a2 w2 a3 w3).mono fun e W' ⟨he, hkeep⟩ => ?_
  subst he
  have bel : Below W.heap.size W W' := ((hkeep.any : KeepFrom W.heap.size W W')).below (Nat.le_refl _)
  exact ⟨_, rfl, _, _, _, [], _, [], hW', trodAll_mk1 (shut_bool Tryz.underlying4 _), (trodAll_cons_mk (shut_string Tryz.underlying9 w0) (trodAll_cons_mk (Below.trod laidOut (by kernel_rfl) (of_decide_eq_true (by kernel_rfl)) sv1 bel lt1) (trodAll_cons_mk (shut_int Tryz.underlying5 w2) (trodAll_cons_mk (shut_int Tryz.underlying3 w3) trodAll_mk0)))), rfl, bel.frame _, fun h => by cases h⟩

theorem over : Rows.objectSortsRow.holds Tryz.pinned (OpenSpec.ofChange Rows.objectSortsSpec) :=
  OpenClaim.holds_of_wide 5 Tryz.f5 rfl rfl rfl rfl rfl rfl rfl ⟨rfl, rfl, rfl, rfl, rfl⟩ rfl rfl rfl rfl rfl (by kernel_rfl) Tryz.func5 (by kernel_rfl)
    (of_decide_eq_true (by kernel_rfl)) (by unfold Func.isWrapper; first | (rw [if_pos (by decide +kernel)]; kernel_rfl) | (rw [if_neg (by decide +kernel)]; exact ⟨rfl, rfl⟩))
    (fun os started H enc _ => lifted os started H enc)
end Go.Proofs.YteonkfedgopdiaaGreat.objectSorts
namespace Go.Proofs.YteonkfedgopdiaaGreat
/-- The given statement. -/
theorem objectSorts_holds : Rows.ObjectSortsSaid := objectSorts.over
#print axioms objectSorts_holds
end Go.Proofs.YteonkfedgopdiaaGreat
