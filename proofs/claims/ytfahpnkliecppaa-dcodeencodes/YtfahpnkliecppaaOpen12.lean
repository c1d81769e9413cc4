/-
  How arguments of types 'api.Clock' and '[]api.Clock' read: the cells of each clock, and the entries of its vector.
  Conditions: the argument can be read as data.
-/
import Derived.Test.YtfahpnkliecppaaOpen10
import Derived.Test.YtfahpnkliecppaaDotMem
namespace Go.Proofs.Ytfahpnkliecppaa
open Go.RowKit Go.WideShapes Go.ChangeShapes

theorem rd_bool {H : Type} {enc : TypeId × Value → H} {w : World} {t : TypeId} {cs : List Value} (ht : Try.prog.underlying t = some .bool) (h : Rd enc w t cs) : ∃ b, cs = [.bool b] := by
  obtain ⟨fuel, x, h⟩ := h
  obtain ⟨n, h1, _⟩ := DataW.trod_bool ht h
  exact ⟨n, h1⟩
/-- A clock in memory, with its vector's place. -/
structure Clk (w : World) where
  ao : Option Addr
  cap : Nat
  k : Ck
  fits : FitsK k
  at_ : EnsAt w ao k.c
def Clk.cs {w : World} (c : Clk w) : List Value := [.slice c.ao c.k.c.length c.cap, .bool c.k.d, .string c.k.x.a, .int .u64 (c.k.x.n : Int)]
set_option maxRecDepth 100000 in
theorem rd_clock {H : Type} {enc : TypeId × Value → H} {w : World} {cs : List Value} (h : Rd enc w 27 cs) : ∃ c : Clk w, cs = c.cs := by
  obtain ⟨hl, hf⟩ := rd_struct Try.underlying27 h
  have hl4 : cs.length = 4 := hl.trans (by kernel_rfl)
  match cs, hl4 with
  | [v0, v1, v2, v3], _ =>
    have g0 := hf 0 _ rfl
    have g1 := hf 1 _ rfl
    have g2 := hf 2 _ rfl
    have c0 : Try.prog.cellsOf 22 = 1 := by kernel_rfl
    have c1 : Try.prog.cellsOf 4 = 1 := by kernel_rfl
    have c2 : Try.prog.cellsOf 25 = 2 := by kernel_rfl
    simp [c0, c1, c2] at g0 g1 g2
    obtain ⟨ao, cap, l, e0, hfl, ha⟩ := rd_ens g0
    obtain ⟨d, e1⟩ := rd_bool Try.underlying4 g1
    obtain ⟨x, e2, hx, hn⟩ := rd_entry g2
    simp [En.cells] at e0 e1 e2
    refine ⟨⟨ao, cap, ⟨l, d, x⟩, ⟨hfl, hx, hn⟩, ha⟩, ?_⟩
    show [v0, v1, v2, v3] = [Value.slice ao l.length cap, .bool d, .string x.a, .int .u64 (x.n : Int)]
    rw [e0, e1, e2.1, e2.2]
set_option maxRecDepth 100000 in
theorem open_clock {H : Type} {enc : TypeId × Value → H} {W : World} {base : Nat} {v : Value} {d : DataW H} {p : List MemPlace}
    (hv : Value.okWide Try.prog W .any base 27 v) (h : DataW.Trod enc Try.prog W 0 (fun _ => true) true 27 v d p) :
    ∃ (ao : Option Addr) (cap : Nat) (k : Ck), v = .agg #[.slice ao k.c.length cap, .bool k.d, .string k.x.a, .int .u64 (k.x.n : Int)] ∧ FitsK k ∧ EnsAt W ao k.c := by
  unfold Value.okWide at hv
  rw [Try.underlying27] at hv
  obtain ⟨cs, rfl, _, _⟩ := hv
  obtain ⟨c, h1⟩ := rd_clock (rd_of_trod h)
  have h3 : cs.toList = c.cs := h1
  refine ⟨c.ao, c.cap, c.k, ?_, c.fits, c.at_⟩
  have h4 : cs = #[.slice c.ao c.k.c.length c.cap, .bool c.k.d, .string c.k.x.a, .int .u64 (c.k.x.n : Int)] := Array.toList_inj.1 h3
  rw [h4]
set_option maxRecDepth 100000 in
theorem open_clocks {H : Type} {enc : TypeId × Value → H} {W : World} {base : Nat} {v : Value} {d : DataW H} {p : List MemPlace}
    (hv : Value.okWide Try.prog W .any base 45 v) (h : DataW.Trod enc Try.prog W 0 (fun _ => true) true 45 v d p) :
    ∃ (ao : Option Addr) (cap : Nat) (l : List Ck), v = .slice ao l.length cap ∧ l.length ≤ maxLen ∧ (∀ k ∈ l, FitsK k) ∧ ClksAt W ao l := by
  obtain ⟨ao', len', cap', rfl⟩ := okWide_slice Try.underlying45 hv
  obtain ⟨ao, cap, es, h1, h2, h3, h4⟩ := rd_slice Try.underlying45 (by kernel_rfl : Try.prog.cellsOf 27 = 4) (by decide) (rd_of_trod h)
  have hl : ∀ es : List (List Value), (∀ x ∈ es, ∃ c : Clk W, x = c.cs) → ∃ l : List (Clk W), es = l.map Clk.cs := by
    intro es
    induction es with
    | nil => exact fun _ => ⟨[], rfl⟩
    | cons x es ih =>
      intro h
      obtain ⟨a, rfl⟩ := h x (by simp)
      obtain ⟨l, rfl⟩ := ih (fun y hy => h y (by simp [hy]))
      exact ⟨a :: l, rfl⟩
  obtain ⟨l, rfl⟩ := hl es (fun x hx => rd_clock (h4 x hx))
  have h1' : Value.slice ao' len' cap' = .slice ao l.length cap := by simpa [Value.cells] using h1
  refine ⟨ao, cap, l.map Clk.k, by rw [h1', List.length_map], by rw [List.length_map]; simpa using h2, ?_, fun i hi => ?_⟩
  · intro k hk
    obtain ⟨c, _, rfl⟩ := List.mem_map.1 hk
    exact c.fits
  · have hi' : i < l.length := by simpa using hi
    obtain ⟨b, off, e1, e2, e3⟩ := h3.cell i (by simpa using hi')
    refine ⟨b, off, l[i].ao, l[i].cap, e1, ?_, ?_⟩
    · rw [List.getElem_map]
      refine ⟨?_, ?_, ?_, ?_⟩
      · simpa [Clk.cs] using e3 0 (by simp [Clk.cs])
      · simpa [Clk.cs] using e3 1 (by simp [Clk.cs])
      · simpa [Clk.cs] using e3 2 (by simp [Clk.cs])
      · simpa [Clk.cs] using e3 3 (by simp [Clk.cs])
    · rw [List.getElem_map]
      exact l[i].at_
end Go.Proofs.Ytfahpnkliecppaa
