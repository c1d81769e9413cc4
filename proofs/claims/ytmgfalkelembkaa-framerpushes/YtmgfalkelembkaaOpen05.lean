/-
  How an argument of type '[]string' reads: its texts in memory, one by one.
  Conditions: the argument can be read as data.
-/
import Derived.Test.YtmgfalkelembkaaOpen
namespace Go.Proofs.Ytmgfalkelembkaa
open Go.RowKit Go.WideShapes Go.ChangeShapes

set_option maxRecDepth 100000 in
theorem open_strs {H : Type} {enc : TypeId × Value → H} {W : World} {base : Nat} {v : Value} {d : DataW H} {p : List MemPlace}
    (hv : Value.okWide Try.prog W .any base 22 v) (h : DataW.Trod enc Try.prog W 0 (fun _ => true) true 22 v d p) :
    ∃ (ao : Option Addr) (cap : Nat) (l : List ByteArray), v = .slice ao l.length cap ∧ l.length ≤ maxLen ∧ (∀ s ∈ l, s.size ≤ maxLen) ∧ StrsAt W ao l := by
  obtain ⟨ao', len', cap', rfl⟩ := okWide_slice Try.underlying22 hv
  obtain ⟨ao, cap, l, h1, h2, h3, h4⟩ := rd_strs Try.underlying22 Try.underlying9 (by kernel_rfl) (rd_of_trod h)
  exact ⟨ao, cap, l, by simpa [Value.cells] using h1, h2, h3, h4⟩
end Go.Proofs.Ytmgfalkelembkaa
