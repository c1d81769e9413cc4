/-
  What this seat's claims lean on of the texts Open10.
  Conditions: as each theorem states.
-/
import Derived.Test.YtmllchembkpdkaaChecked
import Derived.WalkKit
import Derived.ProofKit
import Derived.Below
import Derived.Deep.Draws
import Derived.Deep.RegionHeld
import Derived.OpenShut
import Derived.ShutString
import Derived.WalkSpells
import Derived.WalkLawsBesides
import Derived.Deep.QuietTactic
import Derived.BigQuiet
import Derived.Deep.Slices
import Derived.Laws.Bits64b
import Derived.PlainAid
import Derived.Lib.AppendStr
import Derived.Deep.AppendLies
import Derived.Laws.IdiomStrings
import Derived.Laws.BytesArg
import Derived.Deep.RegionWith
import Derived.Laws.AppendOwn
import Derived.Deep.DeepAppendWide
import Derived.Deep.Upon
import Derived.Test.YtmllchembkpdkaaZ3
import Derived.Test.YtmllchembkpdkaaZ21
namespace Go.Proofs.Ytmllchembkpdkaa
open Go.RowKit Go.WideShapes Go.ChangeShapes
set_option maxRecDepth 100000 in
theorem rd_entry {H : Type} {enc : TypeId × Value → H} {w : World} {cs : List Value} (h : Rd enc w 44 cs) : ∃ x : En, cs = x.cells ∧ x.a.size ≤ maxLen ∧ x.n < 18446744073709551616 := by
  obtain ⟨hl, hf⟩ := rd_struct Try.underlying44 h
  have hl2 : cs.length = 2 := hl.trans (by kernel_rfl)
  match cs, hl2 with
  | [v0, v1], _ =>
    have g0 := hf 0 _ rfl
    have g1 := hf 1 _ rfl
    have c5 : Try.prog.cellsOf 42 = 1 := by kernel_rfl
    have cs' : Try.prog.cellsOf 9 = 1 := by kernel_rfl
    simp [c5, cs'] at g0 g1
    obtain ⟨s, e0, hs⟩ := rd_string Try.underlying9 g0
    obtain ⟨n1, e1, w1⟩ := rd_int Try.underlying42 g1
    have hb := bounds_u64 w1
    simp at e0 e1
    subst e0 e1
    refine ⟨⟨s, n1.toNat⟩, ?_, hs, by show n1.toNat < _; omega⟩
    show [Value.string s, Value.int .u64 n1] = [Value.string s, Value.int .u64 ((n1.toNat : Nat) : Int)]
    rw [Int.toNat_of_nonneg hb.1]
set_option maxRecDepth 100000 in
theorem rd_ens {H : Type} {enc : TypeId × Value → H} {w : World} {cs : List Value} (h : Rd enc w 45 cs) :
    ∃ (ao : Option Addr) (cap : Nat) (l : List En), cs = [.slice ao l.length cap] ∧ Fits l ∧ EnsAt w ao l := by
  obtain ⟨ao, cap, es, h1, h2, h3, h4⟩ := rd_slice Try.underlying45 (by kernel_rfl : Try.prog.cellsOf 44 = 2) (by decide) h
  have hl : ∀ es : List (List Value), (∀ x ∈ es, ∃ f : En, x = f.cells ∧ f.a.size ≤ maxLen ∧ f.n < 18446744073709551616) → ∃ l : List En, es = l.map En.cells ∧ ∀ f ∈ l, f.a.size ≤ maxLen ∧ f.n < 18446744073709551616 := by
    intro es
    induction es with
    | nil => exact fun _ => ⟨[], rfl, by simp⟩
    | cons x es ih =>
      intro h
      obtain ⟨a, rfl, ha⟩ := h x (by simp)
      obtain ⟨l, rfl, hl⟩ := ih (fun y hy => h y (by simp [hy]))
      exact ⟨a :: l, rfl, by simp; exact ⟨ha, hl⟩⟩
  obtain ⟨l, rfl, hok⟩ := hl es (fun x hx => rd_entry (h4 x hx))
  refine ⟨ao, cap, l, by simpa using h1, ⟨by simpa using h2, hok⟩, fun i hi => ?_⟩
  obtain ⟨b, off, e1, e2, e3⟩ := h3.cell i (by simpa using hi)
  refine ⟨b, off, e1, ?_, ?_⟩
  · simpa [En.cells] using e3 0 (by simp [En.cells])
  · simpa [En.cells] using e3 1 (by simp [En.cells])
end Go.Proofs.Ytmllchembkpdkaa
