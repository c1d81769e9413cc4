/-
  How arguments of types '[]api.Entry' and '[][]api.Entry' read: their entries in memory, one by one.
  Conditions: the argument can be read as data.
-/
import Derived.Test.YtfahpnkliecppaaOpen
import Derived.Test.YtfahpnkliecppaaRefVec4
namespace Go.Proofs.Ytfahpnkliecppaa
open Go.RowKit Go.WideShapes Go.ChangeShapes

set_option maxRecDepth 100000 in
theorem rd_entry {H : Type} {enc : TypeId × Value → H} {w : World} {cs : List Value} (h : Rd enc w 25 cs) : ∃ x : En, cs = x.cells ∧ x.a.size ≤ maxLen ∧ x.n < 18446744073709551616 := by
  obtain ⟨hl, hf⟩ := rd_struct Try.underlying25 h
  have hl2 : cs.length = 2 := hl.trans (by kernel_rfl)
  match cs, hl2 with
  | [v0, v1], _ =>
    have g0 := hf 0 _ rfl
    have g1 := hf 1 _ rfl
    have c5 : Try.prog.cellsOf 23 = 1 := by kernel_rfl
    have cs' : Try.prog.cellsOf 9 = 1 := by kernel_rfl
    simp [c5, cs'] at g0 g1
    obtain ⟨s, e0, hs⟩ := rd_string Try.underlying9 g0
    obtain ⟨n1, e1, w1⟩ := rd_int Try.underlying23 g1
    have hb := bounds_u64 w1
    simp at e0 e1
    subst e0 e1
    refine ⟨⟨s, n1.toNat⟩, ?_, hs, by show n1.toNat < _; omega⟩
    show [Value.string s, Value.int .u64 n1] = [Value.string s, Value.int .u64 ((n1.toNat : Nat) : Int)]
    rw [Int.toNat_of_nonneg hb.1]
set_option maxRecDepth 100000 in
theorem rd_ens {H : Type} {enc : TypeId × Value → H} {w : World} {cs : List Value} (h : Rd enc w 22 cs) :
    ∃ (ao : Option Addr) (cap : Nat) (l : List En), cs = [.slice ao l.length cap] ∧ Fits l ∧ EnsAt w ao l := by
  obtain ⟨ao, cap, es, h1, h2, h3, h4⟩ := rd_slice Try.underlying22 (by kernel_rfl : Try.prog.cellsOf 25 = 2) (by decide) h
  have hl : ∀ es : List (List Value), (∀ x ∈ es, ∃ f : En, x = f.cells ∧ f.a.size ≤ maxLen ∧ f.n < 18446744073709551616) → ∃ l : List En, es = l.map En.cells ∧ ∀ f ∈ l, f.a.size ≤ maxLen ∧ f.n < 18446744073709551616 := by
    intro es
    induction es with
    | nil => exact fun _ => ⟨[], rfl, by simp⟩
    | cons x es ih =>
      intro h
      obtain ⟨a, rfl, ha⟩ := h x (by simp)
      obtain ⟨l, rfl, hl⟩ := ih (fun y hy => h y (by simp [hy]))
      exact ⟨a :: l, rfl, by simp; exact ⟨ha, hl⟩⟩
  obtain ⟨l, rfl, hok⟩ := hl es (fun x hx => rd_entry (h4 x hx))
  refine ⟨ao, cap, l, by simpa using h1, ⟨by simpa using h2, hok⟩, fun i hi => ?_⟩
  obtain ⟨b, off, e1, e2, e3⟩ := h3.cell i (by simpa using hi)
  refine ⟨b, off, e1, ?_, ?_⟩
  · simpa [En.cells] using e3 0 (by simp [En.cells])
  · simpa [En.cells] using e3 1 (by simp [En.cells])
set_option maxRecDepth 100000 in
theorem open_ens {H : Type} {enc : TypeId × Value → H} {W : World} {base : Nat} {v : Value} {d : DataW H} {p : List MemPlace}
    (hv : Value.okWide Try.prog W .any base 22 v) (h : DataW.Trod enc Try.prog W 0 (fun _ => true) true 22 v d p) :
    ∃ (ao : Option Addr) (cap : Nat) (l : List En), v = .slice ao l.length cap ∧ Fits l ∧ EnsAt W ao l := by
  obtain ⟨ao', len', cap', rfl⟩ := okWide_slice Try.underlying22 hv
  obtain ⟨ao, cap, l, h1, h2, h3⟩ := rd_ens (rd_of_trod h)
  exact ⟨ao, cap, l, by simpa [Value.cells] using h1, h2, h3⟩
/-- A list in memory, with its place. -/
structure Vec (w : World) where
  ao : Option Addr
  cap : Nat
  l : List En
  fits : Fits l
  at_ : EnsAt w ao l
set_option maxRecDepth 100000 in
theorem open_vecs {H : Type} {enc : TypeId × Value → H} {W : World} {base : Nat} {v : Value} {d : DataW H} {p : List MemPlace}
    (hv : Value.okWide Try.prog W .any base 112 v) (h : DataW.Trod enc Try.prog W 0 (fun _ => true) true 112 v d p) :
    ∃ (ao : Option Addr) (cap : Nat) (ls : List (List En)), v = .slice ao ls.length cap ∧ ls.length ≤ maxLen ∧ (∀ l ∈ ls, Fits l) ∧ VecsAt W ao ls := by
  obtain ⟨ao', len', cap', rfl⟩ := okWide_slice Try.underlying112 hv
  obtain ⟨ao, cap, es, h1, h2, h3, h4⟩ := rd_slice Try.underlying112 (by kernel_rfl : Try.prog.cellsOf 22 = 1) (by decide) (rd_of_trod h)
  obtain ⟨l, l1, _, l2⟩ := ones_of (α := Vec W) (f := fun c => Value.slice c.ao c.l.length c.cap) h3 (fun x hx => by
    obtain ⟨bo, c, m, e, hf, ha⟩ := rd_ens (h4 x hx)
    exact ⟨⟨bo, c, m, hf, ha⟩, e⟩)
  have h1' : Value.slice ao' len' cap' = .slice ao es.length cap := by simpa [Value.cells] using h1
  refine ⟨ao, cap, l.map Vec.l, by rw [h1', List.length_map, l1], by rw [List.length_map]; omega, ?_, fun i hi => ?_⟩
  · intro m hm
    obtain ⟨c, _, rfl⟩ := List.mem_map.1 hm
    exact c.fits
  · have hi' : i < l.length := by simpa using hi
    obtain ⟨b, off, e1, _, e3⟩ := l2 i hi'
    refine ⟨b, off, l[i].ao, l[i].cap, e1, ?_, ?_⟩
    · rw [List.getElem_map]
      exact e3
    · rw [List.getElem_map]
      exact l[i].at_
end Go.Proofs.Ytfahpnkliecppaa
