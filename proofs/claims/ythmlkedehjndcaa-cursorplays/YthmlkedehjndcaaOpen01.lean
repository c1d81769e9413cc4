/-
  How an argument of type '[]Act' (a slice of two integers each) reads: its cells in memory, one by one.
  Conditions: the argument can be read as data.
-/
import Derived.Test.YthmlkedehjndcaaChecked
import Derived.Test.YthmlkedehjndcaaBase
import Derived.Deep.SlicePairs
import Derived.OpenShut
namespace Go.Proofs.Ythmlkedehjndcaa
open Go.RowKit Go.WideShapes Go.ChangeShapes

theorem open_acts {H : Type} {enc : TypeId × Value → H} {W : World} {base : Nat} {v : Value} {d : DataW H} {p : List MemPlace}
    (hv : Value.okWide Try.prog W .any base 22 v) (h : DataW.Trod enc Try.prog W 0 (fun _ => true) true 22 v d p) :
    ∃ (ao : Option Addr) (len cap : Nat) (K N : Nat → Int), v = .slice ao len cap ∧
      ∀ i, i < len → ∃ b off, ao = some ⟨b, off, none⟩ ∧ W.cell? ⟨b, off + i * 2, none⟩ = some (.int .i64 (K i)) ∧ W.cell? ⟨b, off + i * 2 + 1, none⟩ = some (.int .i64 (N i)) := by
  obtain ⟨ao, len, cap, rfl⟩ := okWide_slice Try.underlying22 hv
  obtain ⟨fuel, hf⟩ := h
  rcases Go.Deep.open_slice_pairs Try.underlying22 Try.underlying30 (by kernel_rfl) rfl rfl (by kernel_rfl) (by kernel_rfl) hf with ⟨hcs, _⟩ | ⟨a, l, c, m, n, V0, V1, D0, D1, P0, P1, hcs, _, hl, hm, hmm, _, hx⟩
  · simp [Value.cells] at hcs
    obtain ⟨rfl, rfl, rfl⟩ := hcs
    exact ⟨none, 0, 0, fun _ => 0, fun _ => 0, rfl, fun i hi => absurd hi (by omega)⟩
  · simp [Value.cells] at hcs
    obtain ⟨rfl, rfl, rfl⟩ := hcs
    simp at hmm
    subst hmm
    have hK : ∀ i, i < len → ∃ q : Int × Int, W.cell? (a.add (i * 2)) = some (.int .i64 q.1) ∧ W.cell? (a.add (i * 2 + 1)) = some (.int .i64 q.2) := by
      intro i hi
      obtain ⟨c0, c1, t0, t1⟩ := hx i (by omega)
      obtain ⟨x0, y0, _, _⟩ := DataW.trod_int Try.underlying3 t0
      obtain ⟨x1, y1, _, _⟩ := DataW.trod_int Try.underlying3 t1
      simp at y0 y1
      exact ⟨(x0, x1), by rw [c0, y0], by rw [c1, y1]⟩
    obtain ⟨f, hf⟩ := Go.Deep.choose_lt hK
    refine ⟨some a, len, _, fun i => (f i).1, fun i => (f i).2, rfl, fun i hi => ?_⟩
    have hz := (hf 0 (by omega)).1
    obtain ⟨c0, c1⟩ := hf i hi
    obtain ⟨b, off, spot⟩ := a
    have hspot : spot = none := by simpa [Addr.add] using World.cell?_spot hz
    subst hspot
    rw [add_plain] at c0 c1
    exact ⟨b, off, rfl, c0, c1⟩
end Go.Proofs.Ythmlkedehjndcaa
