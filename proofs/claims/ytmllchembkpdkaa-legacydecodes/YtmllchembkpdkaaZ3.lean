/-
  What this seat's claims lean on of the texts Open.
  Conditions: as each theorem states.
-/
import Derived.Test.YtmllchembkpdkaaChecked
import Derived.WalkKit
import Derived.ProofKit
import Derived.Below
import Derived.Deep.Draws
import Derived.Deep.RegionHeld
import Derived.OpenShut
import Derived.ShutString
import Derived.WalkSpells
import Derived.WalkLawsBesides
import Derived.Deep.QuietTactic
import Derived.BigQuiet
import Derived.Deep.Slices
import Derived.Test.YtmllchembkpdkaaZ1
namespace Go.Proofs.Ytmllchembkpdkaa
open Go.RowKit Go.WideShapes Go.ChangeShapes
def Rd {H : Type} (enc : TypeId × Value → H) (w : World) (t : TypeId) (cs : List Value) : Prop :=
  ∃ fuel x, DataW.trod enc Try.prog w 0 (fun _ => true) true fuel t cs = some x
section
variable {H : Type} {enc : TypeId × Value → H} {w : World} {t : TypeId} {cs : List Value}
set_option maxRecDepth 100000 in
theorem rd_int {k : IntKind} (ht : Try.prog.underlying t = some (.int k)) (h : Rd enc w t cs) : ∃ n, cs = [.int k n] ∧ (Lit.int k n).wf = true := by
  obtain ⟨fuel, x, h⟩ := h
  obtain ⟨n, h1, _, h2⟩ := DataW.trod_int ht h
  exact ⟨n, h1, h2⟩
set_option maxRecDepth 100000 in
theorem rd_string (ht : Try.prog.underlying t = some .string) (h : Rd enc w t cs) : ∃ s : ByteArray, cs = [.string s] ∧ s.size ≤ maxLen := by
  obtain ⟨fuel, x, h⟩ := h
  obtain ⟨n, h1, _, h2⟩ := DataW.trod_string ht h
  exact ⟨n, h1, h2⟩
set_option maxRecDepth 100000 in
theorem rd_struct {fs : Array Field} (ht : Try.prog.underlying t = some (.struct fs)) (h : Rd enc w t cs) :
    cs.length = Try.prog.cellsOf t ∧ ∀ (i : Nat) (f : Field), fs[i]? = some f → Rd enc w f.type ((cs.drop f.offset).take (Try.prog.cellsOf f.type)) := by
  obtain ⟨fuel, x, h⟩ := h
  obtain ⟨xs, n, _, _, hl, hs, hf⟩ := DataW.trod_struct ht h
  refine ⟨hl, fun i f hi => ?_⟩
  have := hf i f hi
  have hlt : i < xs.length := by
    rw [hs]
    exact (Array.getElem?_eq_some_iff.1 hi).1
  rw [List.getElem?_eq_getElem hlt] at this
  exact ⟨_, _, this⟩
structure Elems (w : World) (size : Nat) (ao : Option Addr) (es : List (List Value)) : Prop where
  len : ∀ i (h : i < es.length), es[i].length = size
  cell : ∀ i (h : i < es.length), ∃ b off, ao = some ⟨b, off, none⟩ ∧ b < w.heap.size ∧ ∀ j (hj : j < es[i].length), w.cell? ⟨b, off + i * size + j, none⟩ = some es[i][j]
set_option maxRecDepth 100000 in
theorem rd_slice {e : TypeId} {size : Nat} (ht : Try.prog.underlying t = some (.slice e)) (hsz : Try.prog.cellsOf e = size) (hpos : 0 < size) (h : Rd enc w t cs) :
    ∃ ao cap es, cs = [.slice ao es.length cap] ∧ es.length ≤ maxLen ∧ Elems w size ao es ∧ ∀ x ∈ es, Rd enc w e x := by
  obtain ⟨fuel, x, h⟩ := h
  rcases Go.Deep.open_slice ht h with ⟨rfl, _⟩ | ⟨a, len, cap, m, n, D, Pl, rfl, _, hl, hm, hmm, _, hx⟩
  · exact ⟨none, 0, [], rfl, Nat.zero_le _, ⟨fun i h => absurd h (by simp), fun i h => absurd h (by simp)⟩, fun x hx => absurd hx (by simp)⟩
  · simp only [if_true] at hmm
    subst hmm
    have each : ∀ i, i < len → ∃ q : List Value, q.length = size ∧ (∀ j (hj : j < q.length), w.cell? ((a.add (i * size)).add j) = some q[j]) ∧ Rd enc w e q := by
      intro i hi
      obtain ⟨cs', h1, h2⟩ := hx i (by omega)
      obtain ⟨_, hlen, hcell⟩ := World.cells?_some h1
      rw [hsz] at hlen hcell
      exact ⟨cs', hlen, fun j hj => by rw [hcell j (by omega), List.getElem?_eq_getElem hj], ⟨_, _, h2⟩⟩
    obtain ⟨q, hq⟩ := Go.Deep.choose_lt each
    refine ⟨some a, m, (List.range len).map q, by simp, by simp; omega, ⟨fun i hi => ?_, fun i hi => ?_⟩, fun x hx => ?_⟩
    · simp at hi
      simpa using (hq i hi).1
    · simp at hi
      obtain ⟨b, off, spot⟩ := a
      obtain ⟨hl0, hc0, _⟩ := hq 0 (by omega)
      have hz := hc0 0 (by omega)
      have hspot : spot = none := by simpa [Addr.add] using World.cell?_spot hz
      subst hspot
      obtain ⟨hl1, hc1, _⟩ := hq i hi
      have hblk := World.block_lt_of_cell? w _ hz
      rw [add_plain, add_plain] at hblk
      refine ⟨b, off, rfl, hblk, fun j hj => ?_⟩
      simp at hj
      have := hc1 j hj
      rw [add_plain, add_plain] at this
      simpa using this
    · simp only [List.mem_map, List.mem_range] at hx
      obtain ⟨i, hi, rfl⟩ := hx
      exact (hq i hi).2.2
end
section
variable {H : Type} {enc : TypeId × Value → H} {w : World} {t : TypeId} {cs : List Value}
end
theorem rd_of_trod {H : Type} {enc : TypeId × Value → H} {W : World} {t : TypeId} {v : Value} {d : DataW H} {p : List MemPlace}
    (h : DataW.Trod enc Try.prog W 0 (fun _ => true) true t v d p) : Rd enc W t v.cells.toList := by
  obtain ⟨fuel, hf⟩ := h
  exact ⟨fuel, _, hf⟩
end Go.Proofs.Ytmllchembkpdkaa
