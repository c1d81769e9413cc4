/-
  How an argument of type '[]Act' of the blob's law reads: each act's kind, limit, number, text and flag.
  Conditions: the argument can be read as data.
-/
import Derived.Test.YtfbcifdliofmiaaOpen
namespace Go.Proofs.Ytfbcifdliofmiaa
open Go.RowKit Go.WideShapes Go.ChangeShapes

theorem rd_bool {H : Type} {enc : TypeId × Value → H} {w : World} {t : TypeId} {cs : List Value} (ht : Try.prog.underlying t = some .bool) (h : Rd enc w t cs) : ∃ b : Bool, cs = [.bool b] := by
  obtain ⟨fuel, x, h⟩ := h
  obtain ⟨b, h1, _⟩ := DataW.trod_bool ht h
  exact ⟨b, h1⟩

/-- An act of the blob's law. -/
structure BAct where
  K : Int
  X : Int
  N : Int
  S : ByteArray
  B : Bool
def BAct.cells (a : BAct) : List Value := [.int .i64 a.K, .int .i64 a.X, .int .i64 a.N, .string a.S, .bool a.B]
structure BAct.ok (a : BAct) : Prop where
  x : -9223372036854775808 ≤ a.X ∧ a.X ≤ 9223372036854775807
  n : -9223372036854775808 ≤ a.N ∧ a.N ≤ 9223372036854775807
  size : a.S.size ≤ maxLen

theorem rd_bact {H : Type} {enc : TypeId × Value → H} {w : World} {cs : List Value} (h : Rd enc w 30 cs) : ∃ a : BAct, cs = a.cells ∧ a.ok := by
  obtain ⟨hl, hf⟩ := rd_struct Try.underlying30 h
  have hl4 : cs.length = 5 := hl.trans (by kernel_rfl)
  match cs, hl4 with
  | [v0, v1, v2, v3, v4], _ =>
    have g0 := hf 0 _ rfl
    have g1 := hf 1 _ rfl
    have g2 := hf 2 _ rfl
    have g3 := hf 3 _ rfl
    have g4 := hf 4 _ rfl
    have c3 : Try.prog.cellsOf 3 = 1 := by kernel_rfl
    have cs' : Try.prog.cellsOf 9 = 1 := by kernel_rfl
    have cb : Try.prog.cellsOf 4 = 1 := by kernel_rfl
    simp [c3, cb, cs'] at g0 g1 g2 g3 g4
    obtain ⟨n0, e0, _⟩ := rd_int Try.underlying3 g0
    obtain ⟨n1, e1, w1⟩ := rd_int Try.underlying3 g1
    obtain ⟨n2, e2, w2⟩ := rd_int Try.underlying3 g2
    obtain ⟨s, e3, hs⟩ := rd_string Try.underlying9 g3
    obtain ⟨b, e4⟩ := rd_bool Try.underlying4 g4
    simp at e0 e1 e2 e3 e4
    subst e0 e1 e2 e3 e4
    exact ⟨⟨n0, n1, n2, s, b⟩, rfl, bounds_i64 w1, bounds_i64 w2, hs⟩

/-- The slice ao holds the acts al in w. -/
def BActsAt (w : World) (ao : Option Addr) (al : List BAct) : Prop := ∀ i (hi : i < al.length), al[i].ok ∧ ∃ b off, ao = some ⟨b, off, none⟩ ∧ b < w.heap.size ∧
  w.cell? ⟨b, off + i * 5, none⟩ = some (.int .i64 al[i].K) ∧ w.cell? ⟨b, off + i * 5 + 1, none⟩ = some (.int .i64 al[i].X) ∧
  w.cell? ⟨b, off + i * 5 + 2, none⟩ = some (.int .i64 al[i].N) ∧ w.cell? ⟨b, off + i * 5 + 3, none⟩ = some (.string al[i].S) ∧ w.cell? ⟨b, off + i * 5 + 4, none⟩ = some (.bool al[i].B)

theorem open_bacts {H : Type} {enc : TypeId × Value → H} {W : World} {base : Nat} {v : Value} {d : DataW H} {p : List MemPlace}
    (hv : Value.okWide Try.prog W .any base 22 v) (h : DataW.Trod enc Try.prog W 0 (fun _ => true) true 22 v d p) :
    ∃ (ao : Option Addr) (cap : Nat) (al : List BAct), v = .slice ao al.length cap ∧ al.length ≤ maxLen ∧ BActsAt W ao al := by
  obtain ⟨ao', len', cap', rfl⟩ := okWide_slice Try.underlying22 hv
  obtain ⟨ao, cap, es, h1, h2, h3, h4⟩ := rd_slice Try.underlying22 (by kernel_rfl : Try.prog.cellsOf 30 = 5) (by decide) (rd_of_trod h)
  have hl : ∀ es : List (List Value), (∀ x ∈ es, ∃ a : BAct, x = a.cells ∧ a.ok) → ∃ l : List BAct, es = l.map BAct.cells ∧ ∀ a ∈ l, a.ok := by
    intro es
    induction es with
    | nil => exact fun _ => ⟨[], rfl, by simp⟩
    | cons x es ih =>
      intro h
      obtain ⟨a, rfl, ha⟩ := h x (by simp)
      obtain ⟨l, rfl, hl⟩ := ih (fun y hy => h y (by simp [hy]))
      exact ⟨a :: l, rfl, by simp; exact ⟨ha, hl⟩⟩
  obtain ⟨al, rfl, hok⟩ := hl es (fun x hx => rd_bact (h4 x hx))
  have h1' : Value.slice ao' len' cap' = .slice ao al.length cap := by simpa [Value.cells] using h1
  refine ⟨ao, cap, al, h1', by simpa using h2, fun i hi => ⟨hok _ (List.getElem_mem hi), ?_⟩⟩
  obtain ⟨b, off, e1, e2, e3⟩ := h3.cell i (by simpa using hi)
  refine ⟨b, off, e1, e2, ?_, ?_, ?_, ?_, ?_⟩
  · simpa [BAct.cells] using e3 0 (by simp [BAct.cells])
  · simpa [BAct.cells] using e3 1 (by simp [BAct.cells])
  · simpa [BAct.cells] using e3 2 (by simp [BAct.cells])
  · simpa [BAct.cells] using e3 3 (by simp [BAct.cells])
  · simpa [BAct.cells] using e3 4 (by simp [BAct.cells])
end Go.Proofs.Ytfbcifdliofmiaa
