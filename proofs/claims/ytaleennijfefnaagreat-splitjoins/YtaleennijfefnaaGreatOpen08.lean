/-
  How an argument of type '[]api.Frame' reads: its frames in memory, one by one.
  Conditions: the argument can be read as data.
-/
import Derived.Test.YtaleennijfefnaaGreatOpen07
import Derived.Test.YtaleennijfefnaaGreatSplitMem
namespace Go.Proofs.YtaleennijfefnaaGreat
open Go.RowKit Go.WideShapes Go.ChangeShapes

set_option maxRecDepth 100000 in
theorem open_frames {H : Type} {enc : TypeId × Value → H} {W : World} {base : Nat} {v : Value} {d : DataW H} {p : List MemPlace}
    (hv : Value.okWide Tryz.prog W .any base 23 v) (h : DataW.Trod enc Tryz.prog W 0 (fun _ => true) true 23 v d p) :
    ∃ (ao : Option Addr) (cap : Nat) (l : List Fr), v = .slice ao l.length cap ∧ l.length ≤ maxLen ∧ (∀ f ∈ l, f.p.size ≤ maxLen) ∧ FramesAt W ao l := by
  obtain ⟨ao', len', cap', rfl⟩ := okWide_slice Tryz.underlying23 hv
  obtain ⟨ao, cap, es, h1, h2, h3, h4⟩ := rd_slice Tryz.underlying23 (by kernel_rfl : Tryz.prog.cellsOf 31 = 3) (by decide) (rd_of_trod h)
  have hl : ∀ es : List (List Value), (∀ x ∈ es, ∃ f : Fr, x = f.cells ∧ f.p.size ≤ maxLen) → ∃ l : List Fr, es = l.map Fr.cells ∧ ∀ f ∈ l, f.p.size ≤ maxLen := by
    intro es
    induction es with
    | nil => exact fun _ => ⟨[], rfl, by simp⟩
    | cons x es ih =>
      intro h
      obtain ⟨a, rfl, ha⟩ := h x (by simp)
      obtain ⟨l, rfl, hl⟩ := ih (fun y hy => h y (by simp [hy]))
      exact ⟨a :: l, rfl, by simp; exact ⟨ha, hl⟩⟩
  obtain ⟨l, rfl, hok⟩ := hl es (fun x hx => by
    obtain ⟨v, k, p, e, hp⟩ := rd_frame (h4 x hx)
    exact ⟨⟨v, k, p⟩, e, hp⟩)
  have h1' : Value.slice ao' len' cap' = .slice ao l.length cap := by simpa [Value.cells] using h1
  refine ⟨ao, cap, l, h1', by simpa using h2, hok, fun i hi => ?_⟩
  obtain ⟨b, off, e1, e2, e3⟩ := h3.cell i (by simpa using hi)
  refine ⟨b, off, e1, ?_, ?_, ?_⟩
  · simpa [Fr.cells] using e3 0 (by simp [Fr.cells])
  · simpa [Fr.cells] using e3 1 (by simp [Fr.cells])
  · simpa [Fr.cells] using e3 2 (by simp [Fr.cells])
end Go.Proofs.YtaleennijfefnaaGreat
