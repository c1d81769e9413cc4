/-
  How an argument of type '[]int' reads: its numbers in memory, one by one.
  Conditions: the argument can be read as data.
-/
import Derived.Test.YtodjcohgcelfiaaOpen
namespace Go.Proofs.Ytodjcohgcelfiaa
open Go.RowKit Go.WideShapes Go.ChangeShapes

/-- The slice ao holds the numbers l in w. -/
def IntsAt (w : World) (ao : Option Addr) (l : List Int) : Prop := ∀ k (hk : k < l.length), ∃ b off, ao = some ⟨b, off, none⟩ ∧ b < w.heap.size ∧ w.cell? ⟨b, off + k, none⟩ = some (.int .i64 l[k])

theorem rd_ints {H : Type} {enc : TypeId × Value → H} {w : World} {t : TypeId} {cs : List Value} {e : TypeId} (ht : Try.prog.underlying t = some (.slice e)) (he : Try.prog.underlying e = some (.int .i64)) (hsz : Try.prog.cellsOf e = 1) (h : Rd enc w t cs) :
    ∃ (ao : Option Addr) (cap : Nat) (l : List Int), cs = [.slice ao l.length cap] ∧ l.length ≤ maxLen ∧ (∀ n ∈ l, (Lit.int .i64 n).wf = true) ∧ IntsAt w ao l := by
  obtain ⟨ao, cap, es, h1, h2, h3, h4⟩ := rd_slice ht hsz (by decide) h
  obtain ⟨l, l1, l3, l2⟩ := ones_of (f := fun n : Int => Value.int .i64 n) h3 (fun x hx => by
    obtain ⟨n, hn, hwf⟩ := rd_int he (h4 x hx)
    exact ⟨n, hn⟩)
  refine ⟨ao, cap, l, by rw [h1, l1], by omega, fun n hn => ?_, l2⟩
  obtain ⟨n', hn', hwf⟩ := rd_int he (h4 _ (l3 n hn))
  simp at hn'
  subst hn'
  exact hwf

theorem open_ints4 {H : Type} {enc : TypeId × Value → H} {W : World} {base : Nat} {v : Value} {d : DataW H} {p : List MemPlace}
    (hv : Value.okWide Try.prog W .any base 22 v) (h : DataW.Trod enc Try.prog W 0 (fun _ => true) true 22 v d p) :
    ∃ (ao : Option Addr) (cap : Nat) (l : List Int), v = .slice ao l.length cap ∧ l.length ≤ maxLen ∧ (∀ n ∈ l, (Lit.int .i64 n).wf = true) ∧ IntsAt W ao l := by
  obtain ⟨ao', len', cap', rfl⟩ := okWide_slice Try.underlying22 hv
  obtain ⟨ao, cap, l, h1, h2, h3, h4⟩ := rd_ints Try.underlying22 Try.underlying3 (by kernel_rfl) (rd_of_trod h)
  exact ⟨ao, cap, l, by simpa [Value.cells] using h1, h2, h3, h4⟩
end Go.Proofs.Ytodjcohgcelfiaa
