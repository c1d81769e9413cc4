/-
  How arguments read, by type: integers, strings, structs, slices of whatever: their cells in memory, one by one.
  Conditions: the argument can be read as data.
-/
import Derived.Test.YtmcinehbhgaiaaaChecked
import Derived.Test.YtmcinehbhgaiaaaL1
import Derived.Deep.Slices
import Derived.OpenShut
namespace Go.Proofs.Ytmcinehbhgaiaaa
open Go.RowKit Go.WideShapes Go.ChangeShapes

/-- The cells cs can be read as a value of type t. -/
def Rd {H : Type} (enc : TypeId × Value → H) (w : World) (t : TypeId) (cs : List Value) : Prop :=
  ∃ fuel x, DataW.trod enc Try.prog w 0 (fun _ => true) true fuel t cs = some x

section
variable {H : Type} {enc : TypeId × Value → H} {w : World} {t : TypeId} {cs : List Value}

set_option maxRecDepth 100000 in
theorem rd_int {k : IntKind} (ht : Try.prog.underlying t = some (.int k)) (h : Rd enc w t cs) : ∃ n, cs = [.int k n] ∧ (Lit.int k n).wf = true := by
  obtain ⟨fuel, x, h⟩ := h
  obtain ⟨n, h1, _, h2⟩ := DataW.trod_int ht h
  exact ⟨n, h1, h2⟩
set_option maxRecDepth 100000 in
theorem rd_string (ht : Try.prog.underlying t = some .string) (h : Rd enc w t cs) : ∃ s : ByteArray, cs = [.string s] ∧ s.size ≤ maxLen := by
  obtain ⟨fuel, x, h⟩ := h
  obtain ⟨n, h1, _, h2⟩ := DataW.trod_string ht h
  exact ⟨n, h1, h2⟩
set_option maxRecDepth 100000 in
theorem rd_struct {fs : Array Field} (ht : Try.prog.underlying t = some (.struct fs)) (h : Rd enc w t cs) :
    cs.length = Try.prog.cellsOf t ∧ ∀ (i : Nat) (f : Field), fs[i]? = some f → Rd enc w f.type ((cs.drop f.offset).take (Try.prog.cellsOf f.type)) := by
  obtain ⟨fuel, x, h⟩ := h
  obtain ⟨xs, n, _, _, hl, hs, hf⟩ := DataW.trod_struct ht h
  refine ⟨hl, fun i f hi => ?_⟩
  have := hf i f hi
  have hlt : i < xs.length := by
    rw [hs]
    exact (Array.getElem?_eq_some_iff.1 hi).1
  rw [List.getElem?_eq_getElem hlt] at this
  exact ⟨_, _, this⟩

/-- The elements of a slice: their cells lie one behind the other. -/
structure Elems (w : World) (size : Nat) (ao : Option Addr) (es : List (List Value)) : Prop where
  len : ∀ i (h : i < es.length), es[i].length = size
  cell : ∀ i (h : i < es.length), ∃ b off, ao = some ⟨b, off, none⟩ ∧ b < w.heap.size ∧ ∀ j (hj : j < es[i].length), w.cell? ⟨b, off + i * size + j, none⟩ = some es[i][j]

set_option maxRecDepth 100000 in
theorem rd_slice {e : TypeId} {size : Nat} (ht : Try.prog.underlying t = some (.slice e)) (hsz : Try.prog.cellsOf e = size) (hpos : 0 < size) (h : Rd enc w t cs) :
    ∃ ao cap es, cs = [.slice ao es.length cap] ∧ es.length ≤ maxLen ∧ Elems w size ao es ∧ ∀ x ∈ es, Rd enc w e x := by
  obtain ⟨fuel, x, h⟩ := h
  rcases Go.Deep.open_slice ht h with ⟨rfl, _⟩ | ⟨a, len, cap, m, n, D, Pl, rfl, _, hl, hm, hmm, _, hx⟩
  · exact ⟨none, 0, [], rfl, Nat.zero_le _, ⟨fun i h => absurd h (by simp), fun i h => absurd h (by simp)⟩, fun x hx => absurd hx (by simp)⟩
  · simp only [if_true] at hmm
    subst hmm
    have each : ∀ i, i < len → ∃ q : List Value, q.length = size ∧ (∀ j (hj : j < q.length), w.cell? ((a.add (i * size)).add j) = some q[j]) ∧ Rd enc w e q := by
      intro i hi
      obtain ⟨cs', h1, h2⟩ := hx i (by omega)
      obtain ⟨_, hlen, hcell⟩ := World.cells?_some h1
      rw [hsz] at hlen hcell
      exact ⟨cs', hlen, fun j hj => by rw [hcell j (by omega), List.getElem?_eq_getElem hj], ⟨_, _, h2⟩⟩
    obtain ⟨q, hq⟩ := Go.Deep.choose_lt each
    refine ⟨some a, m, (List.range len).map q, by simp, by simp; omega, ⟨fun i hi => ?_, fun i hi => ?_⟩, fun x hx => ?_⟩
    · simp at hi
      simpa using (hq i hi).1
    · simp at hi
      obtain ⟨b, off, spot⟩ := a
      obtain ⟨hl0, hc0, _⟩ := hq 0 (by omega)
      have hz := hc0 0 (by omega)
      have hspot : spot = none := by simpa [Addr.add] using World.cell?_spot hz
      subst hspot
      obtain ⟨hl1, hc1, _⟩ := hq i hi
      have hblk := World.block_lt_of_cell? w _ hz
      rw [add_plain, add_plain] at hblk
      refine ⟨b, off, rfl, hblk, fun j hj => ?_⟩
      simp at hj
      have := hc1 j hj
      rw [add_plain, add_plain] at this
      simpa using this
    · simp only [List.mem_map, List.mem_range] at hx
      obtain ⟨i, hi, rfl⟩ := hx
      exact (hq i hi).2.2
end

/-- The slice ao holds the bytes l in w. -/
def BytesAt (w : World) (ao : Option Addr) (l : List UInt8) : Prop := ∀ k (hk : k < l.length), ∃ b off, ao = some ⟨b, off, none⟩ ∧ b < w.heap.size ∧ w.cell? ⟨b, off + k, none⟩ = some (.int .u8 (l[k].toNat : Int))
/-- The slice ao holds the texts l in w. -/
def StrsAt (w : World) (ao : Option Addr) (l : List ByteArray) : Prop := ∀ k (hk : k < l.length), ∃ b off, ao = some ⟨b, off, none⟩ ∧ b < w.heap.size ∧ w.cell? ⟨b, off + k, none⟩ = some (.string l[k])

theorem ones_of {w : World} {ao : Option Addr} {es : List (List Value)} (he : Elems w 1 ao es) {α : Type} {f : α → Value} (hf : ∀ x ∈ es, ∃ a : α, x = [f a]) :
    ∃ l : List α, l.length = es.length ∧ (∀ a ∈ l, [f a] ∈ es) ∧ ∀ k (hk : k < l.length), ∃ b off, ao = some ⟨b, off, none⟩ ∧ b < w.heap.size ∧ w.cell? ⟨b, off + k, none⟩ = some (f l[k]) := by
  have hl : ∀ es : List (List Value), (∀ x ∈ es, ∃ a : α, x = [f a]) → ∃ l : List α, es = l.map fun a => [f a] := by
    intro es
    induction es with
    | nil => exact fun _ => ⟨[], rfl⟩
    | cons x es ih =>
      intro h
      obtain ⟨a, rfl⟩ := h x (by simp)
      obtain ⟨l, rfl⟩ := ih (fun y hy => h y (by simp [hy]))
      exact ⟨a :: l, rfl⟩
  obtain ⟨l, rfl⟩ := hl es hf
  refine ⟨l, by simp, fun a ha => by simp only [List.mem_map]; exact ⟨a, ha, rfl⟩, fun k hk => ?_⟩
  obtain ⟨b, off, h1, h2, h3⟩ := he.cell k (by simpa using hk)
  refine ⟨b, off, h1, h2, ?_⟩
  have := h3 0 (by simp)
  simpa using this

section
variable {H : Type} {enc : TypeId × Value → H} {w : World} {t : TypeId} {cs : List Value}
set_option maxRecDepth 100000 in
theorem rd_bytes {e : TypeId} (ht : Try.prog.underlying t = some (.slice e)) (he : Try.prog.underlying e = some (.int .u8)) (hsz : Try.prog.cellsOf e = 1) (h : Rd enc w t cs) :
    ∃ (ao : Option Addr) (cap : Nat) (l : List UInt8), cs = [.slice ao l.length cap] ∧ l.length ≤ maxLen ∧ BytesAt w ao l := by
  obtain ⟨ao, cap, es, h1, h2, h3, h4⟩ := rd_slice ht hsz (by decide) h
  obtain ⟨l, l1, _, l2⟩ := ones_of (f := fun c : UInt8 => Value.int .u8 (c.toNat : Int)) h3 (fun x hx => by
    obtain ⟨n, hn, hwf⟩ := rd_int he (h4 x hx)
    have hb := bounds_u8 hwf
    refine ⟨UInt8.ofNat n.toNat, ?_⟩
    rw [hn]
    congr 2
    have : (UInt8.ofNat n.toNat).toNat = n.toNat := by rw [UInt8.toNat_ofNat']; omega
    rw [this]
    omega)
  exact ⟨ao, cap, l, by rw [h1, l1], by omega, l2⟩
set_option maxRecDepth 100000 in
theorem rd_strs {e : TypeId} (ht : Try.prog.underlying t = some (.slice e)) (he : Try.prog.underlying e = some .string) (hsz : Try.prog.cellsOf e = 1) (h : Rd enc w t cs) :
    ∃ (ao : Option Addr) (cap : Nat) (l : List ByteArray), cs = [.slice ao l.length cap] ∧ l.length ≤ maxLen ∧ (∀ s ∈ l, s.size ≤ maxLen) ∧ StrsAt w ao l := by
  obtain ⟨ao, cap, es, h1, h2, h3, h4⟩ := rd_slice ht hsz (by decide) h
  obtain ⟨l, l1, l3, l2⟩ := ones_of (f := fun s : ByteArray => Value.string s) h3 (fun x hx => by
    obtain ⟨s, hs, _⟩ := rd_string he (h4 x hx)
    exact ⟨s, hs⟩)
  refine ⟨ao, cap, l, by rw [h1, l1], by omega, fun s hs => ?_, l2⟩
  obtain ⟨s', hs', hb⟩ := rd_string he (h4 _ (l3 s hs))
  simp at hs'
  subst hs'
  exact hb
end

theorem rd_of_trod {H : Type} {enc : TypeId × Value → H} {W : World} {t : TypeId} {v : Value} {d : DataW H} {p : List MemPlace}
    (h : DataW.Trod enc Try.prog W 0 (fun _ => true) true t v d p) : Rd enc W t v.cells.toList := by
  obtain ⟨fuel, hf⟩ := h
  exact ⟨fuel, _, hf⟩
end Go.Proofs.Ytmcinehbhgaiaaa
