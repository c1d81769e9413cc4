/-
  The law PairsWith of the program at this seat's commit: for every input the call returns true, and each argument reads afterwards as it read before.
  Conditions: none beyond the given statement.
-/
import Derived.Test.YtmcinehbhgaiaaaRows
import Derived.Test.YtmcinehbhgaiaaaL1
import Derived.Test.YtmcinehbhgaiaaaL2
import Derived.Test.YtmcinehbhgaiaaaL3
import Derived.Test.YtmcinehbhgaiaaaL6
import Derived.Test.YtmcinehbhgaiaaaCodec
import Derived.Test.YtmcinehbhgaiaaaVector
import Derived.Test.YtmcinehbhgaiaaaVcode
import Derived.Test.YtmcinehbhgaiaaaPairs
import Derived.Test.YtmcinehbhgaiaaaVcPen
import Derived.Test.YtmcinehbhgaiaaaPcode
import Derived.Test.YtmcinehbhgaiaaaPcPen
import Derived.Test.YtmcinehbhgaiaaaVecMem
import Derived.Test.YtmcinehbhgaiaaaPairMem
import Derived.Test.YtmcinehbhgaiaaaRefVec
import Derived.Test.YtmcinehbhgaiaaaRefPairs
import Derived.Test.YtmcinehbhgaiaaaRefPairs2
import Derived.Test.YtmcinehbhgaiaaaRefPairs3
import Derived.Test.YtmcinehbhgaiaaaRefPairs4
import Derived.Test.YtmcinehbhgaiaaaOpen
import Derived.Test.YtmcinehbhgaiaaaOpen14
import Derived.Test.YtmcinehbhgaiaaaLaw14
import Derived.Test.YtmcinehbhgaiaaaWith14
import Derived.Test.YtmcinehbhgaiaaaPrA
import Derived.Test.YtmcinehbhgaiaaaPrB
import Derived.Test.YtmcinehbhgaiaaaPrC
import Derived.Test.YtmcinehbhgaiaaaPrD
import Derived.Test.YtmcinehbhgaiaaaPrE
import Derived.Test.YtmcinehbhgaiaaaWith14d
import Derived.WalkKit
import Derived.ProofKit
import Derived.OpenShut
import Derived.ShutString
import Derived.ChangeOld
import Derived.Below
import Derived.Carry
namespace Go.Proofs.Ytmcinehbhgaiaaa.pairsWith
open Go.ChangeShapes Go.WideShapes Go.ChangeAt Go.RowKit
open Go.ChangeMaps (open_string shut_string)
set_option linter.unusedVariables false

theorem own : ownKnob Try.prog.godebug = none := by kernel_rfl
theorem laidOut : laidOutB Try.prog = true := by kernel_rfl

set_option maxRecDepth 100000 in
theorem lifted (os : Os) (started : os.Started) (H : Type) (enc : TypeId × Value → H) :
    ReturnsInHanded {} Try.checked os 5 .any (Rows.pairsWithSpec.pre6 enc Try.prog Try.f5 Rows.pairsWithRow.domain false) (Rows.pairsWithSpec.post enc Try.prog Try.f5 false true false false) := by
  refine returnsInHanded_of_change (C := Try.checked) own started (by kernel_rfl) Try.func5
    (ChangeSpec.witness6 (enc := enc) (C := Try.checked) false ⟨#[], #[.slice none 0 0, .slice none 0 0, .string ⟨#[]⟩], []⟩ 8 (by kernel_rfl) (by kernel_rfl) (by kernel_rfl) (by kernel_rfl)) ?_
  intro W base args ds gs before hval0 hW hcnd _
  have hval : ∀ (j : Nat) t v, Try.f5.params[j]? = some t → args[j]? = some v → Value.okWide Try.prog W .any base t v := hval0
  have hW' := hW
  obtain ⟨p, q, hA0, hV, rfl, hfz, hnd⟩ := hW
  have hA : DataW.TrodAll enc Try.prog W 0 (fun _ => true) true Try.f5.params.toList args.toList ds p := hA0
  rw [Try.params5] at hA hval
  obtain ⟨v0, vs0, d0, ds0, p0, q0, hargs, rfl, rfl, h0, r0⟩ := trodAll_cons hA
  obtain ⟨v1, vs1, d1, ds1, p1, q1, rfl, rfl, rfl, h1, r1⟩ := trodAll_cons r0
  obtain ⟨v2, vs2, d2, ds2, p2, q2, rfl, rfl, rfl, h2, r2⟩ := trodAll_cons r1
  obtain ⟨rfl, rfl, rfl⟩ := trodAll_nil r2
  obtain rfl : args = #[v0, v1, v2] := by cases args; simp_all
  obtain ⟨rfl, rfl⟩ := trodVars_none hV
  have sv0 := h0
  have lt0 : ∀ x ∈ p0, x.block < W.heap.size := by obtain ⟨m, hm⟩ := sv0; exact DataW.trod_lt m _ _ _ hm
  obtain ⟨ao0, cap0, al0, rfl, hn0, hm0, hc0⟩ := open_prs (hval 0 22 v0 rfl rfl) h0
  have sv1 := h1
  have lt1 : ∀ x ∈ p1, x.block < W.heap.size := by obtain ⟨m, hm⟩ := sv1; exact DataW.trod_lt m _ _ _ hm
  obtain ⟨ao1, cap1, al1, rfl, hn1, hm1, hc1⟩ := open_prs (hval 1 22 v1 rfl rfl) h1
  obtain ⟨a2, rfl, rfl, rfl, w2⟩ := open_string Try.underlying9 (hval 2 9 v2 rfl rfl) h2
  clear hA0 hval0
  refine (pairsWith_done W ao0 cap0 al0 hn0 hm0 hc0 ao1 cap1 al1 hn1 hm1 hc1 a2 w2).mono fun e W' ⟨he, hkeep⟩ => ?_
  subst he
  have bel : Below W.heap.size W W' := ((hkeep.any : KeepFrom W.heap.size W W')).below (Nat.le_refl _)
  exact ⟨_, rfl, _, _, _, [], _, [], hW', trodAll_mk1 (shut_bool Try.underlying4 _), (trodAll_cons_mk (Below.trod laidOut (by kernel_rfl) (of_decide_eq_true (by kernel_rfl)) sv0 bel lt0) (trodAll_cons_mk (Below.trod laidOut (by kernel_rfl) (of_decide_eq_true (by kernel_rfl)) sv1 bel lt1) (trodAll_cons_mk (shut_string Try.underlying9 w2) trodAll_mk0))), rfl, bel.frame _, fun h => by cases h⟩

theorem over : Rows.pairsWithRow.holds Try.pinned (OpenSpec.ofChange Rows.pairsWithSpec) :=
  OpenClaim.holds_of_wide 5 Try.f5 rfl rfl rfl rfl rfl rfl rfl ⟨rfl, rfl, rfl, rfl, rfl⟩ rfl rfl rfl rfl rfl (by kernel_rfl) Try.func5 (by kernel_rfl)
    (of_decide_eq_true (by kernel_rfl)) (by unfold Func.isWrapper; first | (rw [if_pos (by decide +kernel)]; kernel_rfl) | (rw [if_neg (by decide +kernel)]; exact ⟨rfl, rfl⟩))
    (fun os started H enc _ => lifted os started H enc)
end Go.Proofs.Ytmcinehbhgaiaaa.pairsWith
namespace Go.Proofs.Ytmcinehbhgaiaaa
/-- The given statement. -/
theorem pairsWith_holds : Rows.PairsWithSaid := pairsWith.over
#print axioms pairsWith_holds
end Go.Proofs.Ytmcinehbhgaiaaa
