/-
  How an argument of type '[]Act' of the pen's law reads: each act's kind, number, bytes and texts.
  Conditions: the argument can be read al data.
-/
import Derived.Test.YtidkcojfikckaaaOpen
namespace Go.Proofs.Ytidkcojfikckaaa
open Go.RowKit Go.WideShapes Go.ChangeShapes

/-- An act of the pen's law: its two numbers, its bytes and its texts, and where they lie. -/
structure PAct where
  K : Int
  N : Int
  bo : Option Addr
  bc : Nat
  B : List UInt8
  lo : Option Addr
  lc : Nat
  L : List ByteArray
def PAct.cells (a : PAct) : List Value := [.int .i64 a.K, .int .i64 a.N, .slice a.bo a.B.length a.bc, .slice a.lo a.L.length a.lc]
structure PAct.ok (w : World) (a : PAct) : Prop where
  bytes : BytesAt w a.bo a.B
  strs : StrsAt w a.lo a.L
  size : ∀ s ∈ a.L, s.size ≤ maxLen

theorem rd_pact {H : Type} {enc : TypeId × Value → H} {w : World} {cs : List Value} (h : Rd enc w 31 cs) : ∃ a : PAct, cs = a.cells ∧ a.ok w := by
  obtain ⟨hl, hf⟩ := rd_struct Try.underlying31 h
  have hl4 : cs.length = 4 := hl.trans (by kernel_rfl)
  match cs, hl4 with
  | [v0, v1, v2, v3], _ =>
    have g0 := hf 0 _ rfl
    have g1 := hf 1 _ rfl
    have g2 := hf 2 _ rfl
    have g3 := hf 3 _ rfl
    have c3 : Try.prog.cellsOf 3 = 1 := by kernel_rfl
    have cb : Try.prog.cellsOf 28 = 1 := by kernel_rfl
    have cs' : Try.prog.cellsOf 29 = 1 := by kernel_rfl
    simp [c3, cb, cs'] at g0 g1 g2 g3
    obtain ⟨n0, e0, _⟩ := rd_int Try.underlying3 g0
    obtain ⟨n1, e1, _⟩ := rd_int Try.underlying3 g1
    obtain ⟨bo, bc, B, e2, _, hB⟩ := rd_bytes Try.underlying28 Try.underlying5 (by kernel_rfl) g2
    obtain ⟨lo, lc, L, e3, _, hs, hL⟩ := rd_strs Try.underlying29 Try.underlying9 (by kernel_rfl) g3
    simp at e0 e1 e2 e3
    subst e0 e1 e2 e3
    exact ⟨⟨n0, n1, bo, bc, B, lo, lc, L⟩, rfl, hB, hL, hs⟩

/-- The slice ao holds the acts al in w. -/
def PActsAt (w : World) (ao : Option Addr) (al : List PAct) : Prop := ∀ i (hi : i < al.length), al[i].ok w ∧ ∃ b off, ao = some ⟨b, off, none⟩ ∧ b < w.heap.size ∧
  w.cell? ⟨b, off + i * 4, none⟩ = some (.int .i64 al[i].K) ∧ w.cell? ⟨b, off + i * 4 + 1, none⟩ = some (.int .i64 al[i].N) ∧
  w.cell? ⟨b, off + i * 4 + 2, none⟩ = some (.slice al[i].bo al[i].B.length al[i].bc) ∧ w.cell? ⟨b, off + i * 4 + 3, none⟩ = some (.slice al[i].lo al[i].L.length al[i].lc)

theorem open_pacts {H : Type} {enc : TypeId × Value → H} {W : World} {base : Nat} {v : Value} {d : DataW H} {p : List MemPlace}
    (hv : Value.okWide Try.prog W .any base 22 v) (h : DataW.Trod enc Try.prog W 0 (fun _ => true) true 22 v d p) :
    ∃ (ao : Option Addr) (cap : Nat) (al : List PAct), v = .slice ao al.length cap ∧ al.length ≤ maxLen ∧ PActsAt W ao al := by
  obtain ⟨ao', len', cap', rfl⟩ := okWide_slice Try.underlying22 hv
  obtain ⟨ao, cap, es, h1, h2, h3, h4⟩ := rd_slice Try.underlying22 (by kernel_rfl : Try.prog.cellsOf 31 = 4) (by decide) (rd_of_trod h)
  have hl : ∀ es : List (List Value), (∀ x ∈ es, ∃ a : PAct, x = a.cells ∧ a.ok W) → ∃ l : List PAct, es = l.map PAct.cells ∧ ∀ a ∈ l, a.ok W := by
    intro es
    induction es with
    | nil => exact fun _ => ⟨[], rfl, by simp⟩
    | cons x es ih =>
      intro h
      obtain ⟨a, rfl, ha⟩ := h x (by simp)
      obtain ⟨l, rfl, hl⟩ := ih (fun y hy => h y (by simp [hy]))
      exact ⟨a :: l, rfl, by simp; exact ⟨ha, hl⟩⟩
  obtain ⟨al, rfl, hok⟩ := hl es (fun x hx => rd_pact (h4 x hx))
  have h1' : Value.slice ao' len' cap' = .slice ao al.length cap := by simpa [Value.cells] using h1
  refine ⟨ao, cap, al, h1', by simpa using h2, fun i hi => ⟨hok _ (List.getElem_mem hi), ?_⟩⟩
  obtain ⟨b, off, e1, e2, e3⟩ := h3.cell i (by simpa using hi)
  refine ⟨b, off, e1, e2, ?_, ?_, ?_, ?_⟩
  · simpa [PAct.cells] using e3 0 (by simp [PAct.cells])
  · simpa [PAct.cells] using e3 1 (by simp [PAct.cells])
  · simpa [PAct.cells] using e3 2 (by simp [PAct.cells])
  · simpa [PAct.cells] using e3 3 (by simp [PAct.cells])
end Go.Proofs.Ytidkcojfikckaaa
