/-
  The law LegacyCuts of the program at this seat's commit: for every input the call returns true, and each argument reads afterwards as it read before.
  Conditions: none beyond the given statement.
-/
import Derived.Test.YtmllchembkpdkaaRows
import Derived.Test.YtmllchembkpdkaaZ1
import Derived.Test.YtmllchembkpdkaaZ2
import Derived.Test.YtmllchembkpdkaaZ3
import Derived.Test.YtmllchembkpdkaaZ4
import Derived.Test.YtmllchembkpdkaaZ5
import Derived.Test.YtmllchembkpdkaaZ6
import Derived.Test.YtmllchembkpdkaaZ7
import Derived.Test.YtmllchembkpdkaaZ8
import Derived.Test.YtmllchembkpdkaaZ9
import Derived.Test.YtmllchembkpdkaaZ10
import Derived.Test.YtmllchembkpdkaaZ11
import Derived.Test.YtmllchembkpdkaaZ12
import Derived.Test.YtmllchembkpdkaaZ13
import Derived.Test.YtmllchembkpdkaaZ14
import Derived.Test.YtmllchembkpdkaaZ15
import Derived.Test.YtmllchembkpdkaaZ16
import Derived.Test.YtmllchembkpdkaaZ17
import Derived.Test.YtmllchembkpdkaaZ18
import Derived.Test.YtmllchembkpdkaaZ19
import Derived.Test.YtmllchembkpdkaaZ20
import Derived.Test.YtmllchembkpdkaaZ21
import Derived.Test.YtmllchembkpdkaaZ22
import Derived.Test.YtmllchembkpdkaaZ23
import Derived.Test.YtmllchembkpdkaaZ24
import Derived.Test.YtmllchembkpdkaaZ25
import Derived.Test.YtmllchembkpdkaaZ26
import Derived.Test.YtmllchembkpdkaaZ27
import Derived.Test.YtmllchembkpdkaaZ28
import Derived.Test.YtmllchembkpdkaaZ29
import Derived.Test.YtmllchembkpdkaaZ30
import Derived.Test.YtmllchembkpdkaaZ31
import Derived.Test.YtmllchembkpdkaaZ32
import Derived.Test.YtmllchembkpdkaaZ33
import Derived.Test.YtmllchembkpdkaaZ34
import Derived.Test.YtmllchembkpdkaaZ35
import Derived.Test.YtmllchembkpdkaaZ36
import Derived.Test.YtmllchembkpdkaaZ37
import Derived.Test.YtmllchembkpdkaaZ38
import Derived.Test.YtmllchembkpdkaaZ39
import Derived.Test.YtmllchembkpdkaaZ40
import Derived.Test.YtmllchembkpdkaaZ41
import Derived.Test.YtmllchembkpdkaaZ42
import Derived.Test.YtmllchembkpdkaaZ43
import Derived.Test.YtmllchembkpdkaaZ44
import Derived.Test.YtmllchembkpdkaaZ45
import Derived.Test.YtmllchembkpdkaaZ46
import Derived.Test.YtmllchembkpdkaaZ47
import Derived.Test.YtmllchembkpdkaaZ48
import Derived.Test.YtmllchembkpdkaaCuts17dz
import Derived.WalkKit
import Derived.ProofKit
import Derived.OpenShut
import Derived.ShutString
import Derived.ChangeOld
import Derived.Below
import Derived.Carry
namespace Go.Proofs.Ytmllchembkpdkaa.legacyCuts
open Go.ChangeShapes Go.WideShapes Go.ChangeAt Go.RowKit
open Go.ChangeMaps (open_string shut_string)
set_option linter.unusedVariables false

theorem own : ownKnob Try.prog.godebug = none := by kernel_rfl
theorem laidOut : laidOutB Try.prog = true := by kernel_rfl

set_option maxRecDepth 100000 in
theorem lifted (os : Go.Os) (started : os.Started) (H : Type) (enc : TypeId × Value → H) :
    ReturnsInHanded {} Try.checked os 6 .any (Rows.legacyCutsSpec.pre6 enc Try.prog Try.f6 Rows.legacyCutsRow.domain false) (Rows.legacyCutsSpec.post enc Try.prog Try.f6 false true false false) := by
  refine returnsInHanded_of_change (C := Try.checked) own started (by kernel_rfl) Try.func6
    (ChangeSpec.witness6 (enc := enc) (C := Try.checked) false ⟨#[], #[.agg #[.string ⟨#[]⟩, .slice none 0 0], .string ⟨#[]⟩], []⟩ 8 (by kernel_rfl) (by kernel_rfl) (by kernel_rfl) (by kernel_rfl)) ?_
  intro W base args ds gs before hval0 hW hcnd _
  have hval : ∀ (j : Nat) t v, Try.f6.params[j]? = some t → args[j]? = some v → Value.okWide Try.prog W .any base t v := hval0
  have hW' := hW
  obtain ⟨p, q, hA0, hV, rfl, hfz, hnd⟩ := hW
  have hA : DataW.TrodAll enc Try.prog W 0 (fun _ => true) true Try.f6.params.toList args.toList ds p := hA0
  rw [Try.params6] at hA hval
  obtain ⟨v0, vs0, d0, ds0, p0, q0, hargs, rfl, rfl, h0, r0⟩ := trodAll_cons hA
  obtain ⟨v1, vs1, d1, ds1, p1, q1, rfl, rfl, rfl, h1, r1⟩ := trodAll_cons r0
  obtain ⟨rfl, rfl, rfl⟩ := trodAll_nil r1
  obtain rfl : args = #[v0, v1] := by cases args; simp_all
  obtain ⟨rfl, rfl⟩ := trodVars_none hV
  have sv0 := h0
  have lt0 : ∀ x ∈ p0, x.block < W.heap.size := by obtain ⟨m, hm⟩ := sv0; exact DataW.trod_lt m _ _ _ hm
  obtain ⟨key0, ao0, cap0, al0, rfl, hk0, hl0, hq0, hn0, hc0⟩ := open_old (hval 0 24 v0 rfl rfl) h0
  obtain ⟨a1, rfl, rfl, rfl, w1⟩ := open_string Try.underlying9 (hval 1 9 v1 rfl rfl) h1
  clear hA0 hval0
  refine (legacyCuts_done W key0 hk0 ao0 cap0 al0 hl0 hn0 hc0 a1 w1).mono fun e W' ⟨he, hkeep⟩ => ?_
  subst he
  have bel : Below W.heap.size W W' := ((hkeep.any : KeepFrom W.heap.size W W')).below (Nat.le_refl _)
  exact ⟨_, rfl, _, _, _, [], _, [], hW', trodAll_mk1 (shut_bool Try.underlying4 _), (trodAll_cons_mk (Below.trod laidOut (by kernel_rfl) (of_decide_eq_true (by kernel_rfl)) sv0 bel lt0) (trodAll_cons_mk (shut_string Try.underlying9 w1) trodAll_mk0)), rfl, bel.frame _, fun h => by cases h⟩

theorem over : Rows.legacyCutsRow.holds Try.pinned (OpenSpec.ofChange Rows.legacyCutsSpec) :=
  OpenClaim.holds_of_wide 6 Try.f6 rfl rfl rfl rfl rfl rfl rfl ⟨rfl, rfl, rfl, rfl, rfl⟩ rfl rfl rfl rfl rfl (by kernel_rfl) Try.func6 (by kernel_rfl)
    (of_decide_eq_true (by kernel_rfl)) (by unfold Func.isWrapper; first | (rw [if_pos (by decide +kernel)]; kernel_rfl) | (rw [if_neg (by decide +kernel)]; exact ⟨rfl, rfl⟩))
    (fun os started H enc _ => lifted os started H enc)
end Go.Proofs.Ytmllchembkpdkaa.legacyCuts
namespace Go.Proofs.Ytmllchembkpdkaa
/-- The given statement. -/
theorem legacyCuts_holds : Rows.LegacyCutsSaid := legacyCuts.over
#print axioms legacyCuts_holds
end Go.Proofs.Ytmllchembkpdkaa
