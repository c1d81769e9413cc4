/-
  Lists of entries in memory: as they are read, and as the call makes them.
  Conditions: none beyond what each lemma states.
-/
import Derived.Test.YtmcinehbhgaiaaaVector
import Derived.Laws.AppendOwn
import Derived.Deep.DeepAppendWide
import Derived.Deep.Upon
namespace Go.Proofs.Ytmcinehbhgaiaaa
open Go.RowKit

def En.cells (x : En) : List Value := [.string x.a, .int .u64 (x.n : Int)]
def En.val (x : En) : Value := .agg #[.string x.a, .int .u64 (x.n : Int)]
/-- The slice ao holds the entries l in w. -/
def EnsAt (w : World) (ao : Option Addr) (l : List En) : Prop := ∀ i (_ : i < l.length), ∃ b off, ao = some ⟨b, off, none⟩ ∧
  w.cell? ⟨b, off + i * 2, none⟩ = some (.string l[i].a) ∧ w.cell? ⟨b, off + i * 2 + 1, none⟩ = some (.int .u64 (l[i].n : Int))
/-- No block of R is the slice's. -/
def ApartE (R : Nat → Prop) (ao : Option Addr) : Prop := ∀ b off m, ao = some ⟨b, off, m⟩ → ¬ R b
theorem EnsAt.keep {R : Nat → Prop} {w w' : World} {ao : Option Addr} {l : List En} (h : EnsAt w ao l) (K : Keep R w w') (hn : ApartE R ao) : EnsAt w' ao l := by
  intro i hi
  obtain ⟨b, off, e, h1, h2⟩ := h i hi
  have hb := hn _ _ _ e
  exact ⟨b, off, e, K.cell h1 hb, K.cell h2 hb⟩
theorem EnsAt.keep0 {w w' : World} {ao : Option Addr} {l : List En} (h : EnsAt w ao l) (K : Keep0 w w') : EnsAt w' ao l := h.keep K (fun _ _ _ _ f => f)
/-- What was there ahead of B stays, whatever is done from B on. -/
theorem EnsAt.keepFrom {w w' : World} {B : Nat} {ao : Option Addr} {l : List En} (h : EnsAt w ao l) (K : KeepFrom B w w') (hB : w.heap.size ≤ B) : EnsAt w' ao l := by
  intro i hi
  obtain ⟨b, off, e, h1, h2⟩ := h i hi
  have hb : ¬ B ≤ b := by have := World.block_lt_of_cell? w _ h1; simp only at this; omega
  exact ⟨b, off, e, K.cell h1 hb, K.cell h2 hb⟩
theorem ens_nil (w : World) (ao : Option Addr) : EnsAt w ao [] := fun i hi => absurd hi (Nat.not_lt_zero i)

/-! ### rows -/
def enCells (l : List En) : List Value := l.flatMap En.cells
theorem enCells_len (l : List En) : (enCells l).length = l.length * 2 := by
  induction l with
  | nil => rfl
  | cons f l ih =>
    show (f.cells ++ enCells l).length = _
    rw [List.length_append, ih, List.length_cons]
    show 2 + _ = _
    omega
theorem enCells_app (l r : List En) : enCells (l ++ r) = enCells l ++ enCells r := List.flatMap_append
theorem enCells_get : ∀ (l : List En) (i : Nat) (hi : i < l.length) (j : Nat), j < 2 → (enCells l)[i * 2 + j]? = l[i].cells[j]?
  | f :: l, 0, _, j, hj => by
    show (f.cells ++ enCells l)[0 * 2 + j]? = f.cells[j]?
    rw [Nat.zero_mul, Nat.zero_add, List.getElem?_append_left (by show j < 2; exact hj)]
  | f :: l, i + 1, hi, j, hj => by
    have hi' : i < l.length := by simpa using hi
    have ih := enCells_get l i hi' j hj
    show (f.cells ++ enCells l)[(i + 1) * 2 + j]? = l[i].cells[j]?
    have e : f.cells.length = 2 := rfl
    rw [List.getElem?_append_right (by rw [e]; omega), e, show (i + 1) * 2 + j - 2 = i * 2 + j from by omega, ih]
theorem enCells_one (l : List En) : ∀ u ∈ enCells l, u.oneCell' = true := by
  intro u hu
  unfold enCells at hu
  obtain ⟨f, _, hf⟩ := List.mem_flatMap.1 hu
  simp only [En.cells, List.mem_cons, List.mem_nil_iff, or_false] at hf
  rcases hf with rfl | rfl <;> rfl
theorem ens_of_row {w : World} {B : Nat} {e : TypeId} {v : Value} {n : Nat} {l : List En} (h : w.ownsRow B e 2 v n (enCells l)) :
    ∃ ao cap, v = .slice ao l.length cap ∧ EnsAt w ao l ∧ (∀ b off m, ao = some ⟨b, off, m⟩ → B ≤ b) ∧ l.length ≤ cap := by
  have hn : n = l.length := by have := h.1; rw [enCells_len] at this; omega
  subst hn
  rcases h.2 with ⟨rfl, h0⟩ | ⟨g, cap, cur, rfl, hb, hg, hcap, hrest⟩
  · exact ⟨none, 0, by rw [h0], fun i hi => by omega, (fun b off m e => by cases e), by omega⟩
  · refine ⟨some ⟨g, 0, none⟩, cap, rfl, fun i hi => ⟨g, 0, rfl, ?_⟩, (fun b off m e => by cases e; exact hb), hcap⟩
    have hc := h.cells (g := g) rfl
    have k : ∀ j u, j < 2 → l[i].cells[j]? = some u → w.cell? ⟨g, 0 + i * 2 + j, none⟩ = some u := by
      intro j u hj hu
      have := hc (i * 2 + j) u ((enCells_get l i hi j hj).trans hu)
      rwa [add_plain, ← Nat.add_assoc] at this
    exact ⟨k 0 _ (by decide) rfl, k 1 _ (by decide) rfl⟩
theorem ens_cells {w : World} {ao : Option Addr} {l : List En} (h : EnsAt w ao l) (hne : 0 < l.length) : ∃ b off, ao = some ⟨b, off, none⟩ ∧ ∀ j u, (enCells l)[j]? = some u → w.cell? ((⟨b, off, none⟩ : Addr).add j) = some u := by
  obtain ⟨b, off, rfl, _⟩ := h 0 hne
  refine ⟨b, off, rfl, fun j u hu => ?_⟩
  have hj : j < (enCells l).length := (List.getElem?_eq_some_iff.1 hu).1
  rw [enCells_len] at hj
  have hi : j / 2 < l.length := by omega
  have hr : j % 2 < 2 := Nat.mod_lt _ (by decide)
  have ej : j / 2 * 2 + j % 2 = j := by omega
  obtain ⟨b', off', e, h0, h1⟩ := h (j / 2) hi
  cases e
  have hu' := enCells_get l (j / 2) hi (j % 2) hr
  rw [ej, hu] at hu'
  rw [add_plain]
  have hc : j % 2 = 0 ∨ j % 2 = 1 := by omega
  rcases hc with hc | hc
  · rw [hc] at hu'
    have : u = .string l[j / 2].a := by simpa [En.cells] using hu'
    rw [this, ← h0]
    congr 2
    omega
  · rw [hc] at hu'
    have : u = .int .u64 (l[j / 2].n : Int) := by simpa [En.cells] using hu'
    rw [this, ← h1]
    congr 2
    omega
/-- One entry in a new block. -/
theorem en_new (w : World) (t : TypeId) (x : En) : EnsAt (w.alloc (.cells #[.string x.a, .int .u64 (x.n : Int)] t)) (some ⟨w.heap.size, 0, none⟩) [x] := by
  intro i hi
  obtain rfl : i = 0 := by simpa using hi
  exact ⟨w.heap.size, 0, rfl, cell_alloc w t rfl, cell_alloc w t rfl⟩
theorem rowE_keep {R : Nat → Prop} {w w' : World} {B : Nat} {e : TypeId} {sz : Nat} {v : Value} {n : Nat} {xs : List Value} (h : w.ownsRow B e sz v n xs) (K : Keep R w w') (hn : ∀ k, B ≤ k → ¬ R k) : w'.ownsRow B e sz v n xs := by
  refine ⟨h.1, ?_⟩
  rcases h.2 with h0 | ⟨g, cap, cur, e1, hb, hg, rest⟩
  · exact .inl h0
  · exact .inr ⟨g, cap, cur, e1, hb, (K.block g (Array.getElem?_eq_some_iff.1 hg).1 (hn g hb)).trans hg, rest⟩
theorem Keep.ownGrown {w w1 w2 : World} {row : Option Nat} (K : Keep0 w w1) (g : w1.grownBy w2 row) (h : ∀ k, row = some k → w.heap.size ≤ k) : Keep0 w w2 :=
  K.step (⟨g.os, g.tape, g.output, g.size, fun k hk hn => g.block k hk (fun e => hn (h k e.symm))⟩ : KeepFrom w.heap.size w1 w2) (fun i hi hh => by have hh : w.heap.size ≤ i := hh; omega)
theorem sliceE_of_own {w : World} {B : Nat} {e : TypeId} {sz n : Nat} {v : Value} {xs : List Value} (h : w.ownsRow B e sz v n xs) : ∃ ao n' cap, v = .slice ao n' cap := by
  rcases h.2 with ⟨e, _⟩ | ⟨_, _, _, e, _⟩
  · exact ⟨_, _, _, e⟩
  · exact ⟨_, _, _, e⟩
end Go.Proofs.Ytmcinehbhgaiaaa
