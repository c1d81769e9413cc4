/-
  How arguments of type '[]api.Pair' read: their pairs in memory, one by one.
  Conditions: the argument can be read as data.
-/
import Derived.Test.YtmcinehbhgaiaaaOpen
import Derived.Test.YtmcinehbhgaiaaaRefPairs
namespace Go.Proofs.Ytmcinehbhgaiaaa
open Go.RowKit Go.WideShapes Go.ChangeShapes

set_option maxRecDepth 100000 in
theorem rd_pair {H : Type} {enc : TypeId × Value → H} {w : World} {cs : List Value} (h : Rd enc w 59 cs) : ∃ x : Pr, cs = x.cells ∧ x.n.size ≤ maxLen ∧ x.v.size ≤ maxLen := by
  obtain ⟨hl, hf⟩ := rd_struct Try.underlying59 h
  have hl2 : cs.length = 2 := hl.trans (by kernel_rfl)
  match cs, hl2 with
  | [v0, v1], _ =>
    have g0 := hf 0 _ rfl
    have g1 := hf 1 _ rfl
    have cs' : Try.prog.cellsOf 9 = 1 := by kernel_rfl
    simp [cs'] at g0 g1
    obtain ⟨s, e0, hs⟩ := rd_string Try.underlying9 g0
    obtain ⟨t, e1, ht⟩ := rd_string Try.underlying9 g1
    simp at e0 e1
    subst e0 e1
    exact ⟨⟨s, t⟩, rfl, hs, ht⟩
set_option maxRecDepth 100000 in
theorem rd_prs {H : Type} {enc : TypeId × Value → H} {w : World} {cs : List Value} (h : Rd enc w 22 cs) :
    ∃ (ao : Option Addr) (cap : Nat) (l : List Pr), cs = [.slice ao l.length cap] ∧ FitsP l ∧ PrsAt w ao l := by
  obtain ⟨ao, cap, es, h1, h2, h3, h4⟩ := rd_slice Try.underlying22 (by kernel_rfl : Try.prog.cellsOf 59 = 2) (by decide) h
  have hl : ∀ es : List (List Value), (∀ x ∈ es, ∃ f : Pr, x = f.cells ∧ f.n.size ≤ maxLen ∧ f.v.size ≤ maxLen) → ∃ l : List Pr, es = l.map Pr.cells ∧ ∀ f ∈ l, f.n.size ≤ maxLen ∧ f.v.size ≤ maxLen := by
    intro es
    induction es with
    | nil => exact fun _ => ⟨[], rfl, by simp⟩
    | cons x es ih =>
      intro h
      obtain ⟨a, rfl, ha⟩ := h x (by simp)
      obtain ⟨l, rfl, hl⟩ := ih (fun y hy => h y (by simp [hy]))
      exact ⟨a :: l, rfl, by simp; exact ⟨ha, hl⟩⟩
  obtain ⟨l, rfl, hok⟩ := hl es (fun x hx => rd_pair (h4 x hx))
  refine ⟨ao, cap, l, by simpa using h1, ⟨by simpa using h2, hok⟩, fun i hi => ?_⟩
  obtain ⟨b, off, e1, e2, e3⟩ := h3.cell i (by simpa using hi)
  refine ⟨b, off, e1, ?_, ?_⟩
  · simpa [Pr.cells] using e3 0 (by simp [Pr.cells])
  · simpa [Pr.cells] using e3 1 (by simp [Pr.cells])
theorem rd_cap {H : Type} {enc : TypeId × Value → H} {w : World} {t e : TypeId} {ao : Option Addr} {len cap : Nat} (ht : Try.prog.underlying t = some (.slice e)) (h : Rd enc w t [.slice ao len cap]) : len ≤ cap ∧ cap ≤ maxLen := by
  obtain ⟨fuel, x, h⟩ := h
  rcases Go.Deep.open_slice ht h with ⟨e1, _⟩ | ⟨a, l, c, m, n, D, Pl, e1, _, hl, hm, _⟩
  · cases e1
    exact ⟨Nat.le_refl _, Nat.zero_le _⟩
  · cases e1
    exact ⟨hl, hm⟩
set_option maxRecDepth 100000 in
theorem open_prs {H : Type} {enc : TypeId × Value → H} {W : World} {base : Nat} {v : Value} {d : DataW H} {p : List MemPlace}
    (hv : Value.okWide Try.prog W .any base 22 v) (h : DataW.Trod enc Try.prog W 0 (fun _ => true) true 22 v d p) :
    ∃ (ao : Option Addr) (cap : Nat) (l : List Pr), v = .slice ao l.length cap ∧ FitsP l ∧ CapP l cap ∧ PrsAt W ao l := by
  obtain ⟨ao', len', cap', rfl⟩ := okWide_slice Try.underlying22 hv
  have hrd := rd_of_trod h
  obtain ⟨ao, cap, l, h1, h2, h3⟩ := rd_prs hrd
  have e1 : Value.slice ao' len' cap' = .slice ao l.length cap := by simpa [Value.cells] using h1
  obtain ⟨rfl, rfl, rfl⟩ : ao' = ao ∧ len' = l.length ∧ cap' = cap := by cases e1; exact ⟨rfl, rfl, rfl⟩
  exact ⟨_, _, l, rfl, h2, rd_cap Try.underlying22 hrd, h3⟩
end Go.Proofs.Ytmcinehbhgaiaaa
