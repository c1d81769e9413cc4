/-
  Lists of frames, and of places, in memory; and the document's comparison of two of them.
  Conditions: none beyond what each lemma states.
-/
import Derived.Test.YtaleennijfefnaaGreatSplit
import Derived.Laws.AppendOwn
namespace Go.Proofs.YtaleennijfefnaaGreat
open Go.RowKit

def FramesAt (w : World) (ao : Option Addr) (l : List Fr) : Prop := ∀ i (hi : i < l.length), ∃ b off, ao = some ⟨b, off, none⟩ ∧
  w.cell? ⟨b, off + i * 3, none⟩ = some (.int .u8 (l[i].v.toNat : Int)) ∧ w.cell? ⟨b, off + i * 3 + 1, none⟩ = some (.int .u8 (l[i].k.toNat : Int)) ∧ w.cell? ⟨b, off + i * 3 + 2, none⟩ = some (.string l[i].p)
def NatsAt (w : World) (ao : Option Addr) (l : List Nat) : Prop := ∀ i (hi : i < l.length), ∃ b off, ao = some ⟨b, off, none⟩ ∧ w.cell? ⟨b, off + i, none⟩ = some (.int .i64 (l[i] : Int))
/-- No block of R is the slice's. -/
def Apart (R : Nat → Prop) (ao : Option Addr) : Prop := ∀ b off m, ao = some ⟨b, off, m⟩ → ¬ R b
theorem FramesAt.keep {R : Nat → Prop} {w w' : World} {ao : Option Addr} {l : List Fr} (h : FramesAt w ao l) (K : Keep R w w') (hn : Apart R ao) : FramesAt w' ao l := by
  intro i hi
  obtain ⟨b, off, e, h1, h2, h3⟩ := h i hi
  have hb := hn _ _ _ e
  exact ⟨b, off, e, K.cell h1 hb, K.cell h2 hb, K.cell h3 hb⟩
theorem NatsAt.keep {R : Nat → Prop} {w w' : World} {ao : Option Addr} {l : List Nat} (h : NatsAt w ao l) (K : Keep R w w') (hn : Apart R ao) : NatsAt w' ao l := by
  intro i hi
  obtain ⟨b, off, e, h1⟩ := h i hi
  exact ⟨b, off, e, K.cell h1 (hn _ _ _ e)⟩
theorem FramesAt.keep0 {w w' : World} {ao : Option Addr} {l : List Fr} (h : FramesAt w ao l) (K : Keep0 w w') : FramesAt w' ao l := h.keep K (fun _ _ _ _ f => f)
theorem NatsAt.keep0 {w w' : World} {ao : Option Addr} {l : List Nat} (h : NatsAt w ao l) (K : Keep0 w w') : NatsAt w' ao l := h.keep K (fun _ _ _ _ f => f)

/-! ### rows -/
def frCells (l : List Fr) : List Value := l.flatMap Fr.cells
def natCells (l : List Nat) : List Value := l.map fun (n : Nat) => .int .i64 (n : Int)
theorem frCells_len (l : List Fr) : (frCells l).length = l.length * 3 := by
  induction l with
  | nil => rfl
  | cons f l ih =>
    show (f.cells ++ frCells l).length = _
    rw [List.length_append, ih, List.length_cons]
    show 3 + _ = _
    omega
theorem frCells_app (l r : List Fr) : frCells (l ++ r) = frCells l ++ frCells r := List.flatMap_append
theorem frCells_get : ∀ (l : List Fr) (i : Nat) (hi : i < l.length) (j : Nat), j < 3 → (frCells l)[i * 3 + j]? = l[i].cells[j]?
  | f :: l, 0, _, j, hj => by
    show (f.cells ++ frCells l)[0 * 3 + j]? = f.cells[j]?
    rw [Nat.zero_mul, Nat.zero_add, List.getElem?_append_left (by show j < 3; exact hj)]
  | f :: l, i + 1, hi, j, hj => by
    have hi' : i < l.length := by simpa using hi
    have ih := frCells_get l i hi' j hj
    show (f.cells ++ frCells l)[(i + 1) * 3 + j]? = l[i].cells[j]?
    have e : f.cells.length = 3 := rfl
    rw [List.getElem?_append_right (by rw [e]; omega), e, show (i + 1) * 3 + j - 3 = i * 3 + j from by omega, ih]
theorem frames_of_row {w : World} {B : Nat} {e : TypeId} {v : Value} {n : Nat} {l : List Fr} (h : w.ownsRow B e 3 v n (frCells l)) :
    ∃ ao cap, v = .slice ao l.length cap ∧ FramesAt w ao l ∧ (∀ b off m, ao = some ⟨b, off, m⟩ → B ≤ b) := by
  have hn : n = l.length := by have := h.1; rw [frCells_len] at this; omega
  subst hn
  rcases h.2 with ⟨rfl, h0⟩ | ⟨g, cap, cur, rfl, hb, hrest⟩
  · refine ⟨none, 0, by rw [h0], fun i hi => by omega, fun b off m e => by cases e⟩
  · refine ⟨some ⟨g, 0, none⟩, cap, rfl, fun i hi => ⟨g, 0, rfl, ?_⟩, fun b off m e => by cases e; exact hb⟩
    have hc := h.cells (g := g) rfl
    have k : ∀ j u, j < 3 → l[i].cells[j]? = some u → w.cell? ⟨g, 0 + i * 3 + j, none⟩ = some u := by
      intro j u hj hu
      have := hc (i * 3 + j) u ((frCells_get l i hi j hj).trans hu)
      rwa [add_plain, ← Nat.add_assoc] at this
    exact ⟨k 0 _ (by decide) rfl, k 1 _ (by decide) rfl, k 2 _ (by decide) rfl⟩
theorem nats_of_row {w : World} {B : Nat} {e : TypeId} {v : Value} {n : Nat} {l : List Nat} (h : w.ownsRow B e 1 v n (natCells l)) :
    ∃ ao cap, v = .slice ao l.length cap ∧ NatsAt w ao l ∧ (∀ b off m, ao = some ⟨b, off, m⟩ → B ≤ b) := by
  have hn : n = l.length := by have := h.1; unfold natCells at this; rw [List.length_map] at this; omega
  subst hn
  rcases h.2 with ⟨rfl, h0⟩ | ⟨g, cap, cur, rfl, hb, hrest⟩
  · refine ⟨none, 0, by rw [h0], fun i hi => by omega, fun b off m e => by cases e⟩
  · refine ⟨some ⟨g, 0, none⟩, cap, rfl, fun i hi => ⟨g, 0, rfl, ?_⟩, fun b off m e => by cases e; exact hb⟩
    have hc := h.cells (g := g) rfl i (.int .i64 (l[i] : Int)) (by unfold natCells; rw [List.getElem?_map, List.getElem?_eq_getElem hi]; rfl)
    rwa [add_plain] at hc
/-- A row that the call owns stays so. -/
theorem row_keep {R : Nat → Prop} {w w' : World} {B : Nat} {e : TypeId} {sz : Nat} {v : Value} {n : Nat} {xs : List Value} (h : w.ownsRow B e sz v n xs) (K : Keep R w w') (hn : ∀ k, B ≤ k → ¬ R k) : w'.ownsRow B e sz v n xs := by
  refine ⟨h.1, ?_⟩
  rcases h.2 with h0 | ⟨g, cap, cur, e1, hb, hg, rest⟩
  · exact .inl h0
  · exact .inr ⟨g, cap, cur, e1, hb, (K.block g (Array.getElem?_eq_some_iff.1 hg).1 (hn g hb)).trans hg, rest⟩

/-! ### the document's comparisons -/
set_option maxRecDepth 100000 in
theorem same_yes (w : World) (ao bo : Option Addr) (ca cb : Nat) (l : List Fr) (hl : l.length ≤ maxLen) (ha : FramesAt w ao l) (hb : FramesAt w bo l) :
    Calls Tryz.prog 10 #[.slice ao l.length ca, .slice bo l.length cb] w fun e w' => e = .returned (.bool true) ∧ ∃ n, w' = w.drewN n := by
  have hl' : (l.length : Int) ≤ 9223372036854775807 := by unfold maxLen at hl; omega
  have HA : Hid (FramesAt w ao l) := ha
  have HB : Hid (FramesAt w bo l) := hb
  clear ha hb
  go_enter Tryz.func10, Tryz.ntmps10
  go_wp2_with fail
  go_loopw [5] (fun i wr => ∃ (k : Nat), k ≤ l.length ∧ i = .int .i64 k ∧ ∃ n, wr = w.drewN n) (fun i _ => l.length - (intOf i).toNat)
  case atStart => exact ⟨0, by omega, rfl, 0, rfl⟩
  case round =>
    obtain ⟨k, hk, rfl, hWr⟩ := hrel
    have kr := keepN hWr
    have HW : Hid (∃ n, wr = w.drewN n) := hWr
    clear hWr
    by_cases hlt : k < l.length
    · obtain ⟨b1, o1, rfl, x0, x1, x2⟩ := HA.out k hlt
      obtain ⟨b2, o2, rfl, y0, y1, y2⟩ := HB.out k hlt
      have x0 := kr.cell x0 (fun f => f)
      have x1 := kr.cell x1 (fun f => f)
      have x2 := kr.cell x2 (fun f => f)
      have y0 := kr.cell y0 (fun f => f)
      have y1 := kr.cell y1 (fun f => f)
      have y2 := kr.cell y2 (fun f => f)
      have i1 : (k : Int) < l.length := by omega
      generalize (l[k].v.toNat : Int) = V at *
      generalize (l[k].k.toNat : Int) = KD at *
      generalize l[k].p = T at *
      clear HA HB kr
      go_wp2_with fail
      go_quiet (fail)
      go_wp2
      go_roundw
      case rel => exact ⟨k + 1, by omega, by go_num, drewN_on HW.out _⟩
      case measure => simp [intOf]; omega
    · have i1 : ¬ (k : Int) < l.length := by omega
      go_wp2
      go_ret
      exact ⟨rfl, HW.out⟩
set_option maxRecDepth 100000 in
theorem ints_yes (w : World) (ao bo : Option Addr) (ca cb : Nat) (l : List Nat) (hl : l.length ≤ maxLen) (ha : NatsAt w ao l) (hb : NatsAt w bo l) :
    Calls Tryz.prog 11 #[.slice ao l.length ca, .slice bo l.length cb] w fun e w' => e = .returned (.bool true) ∧ ∃ n, w' = w.drewN n := by
  have hl' : (l.length : Int) ≤ 9223372036854775807 := by unfold maxLen at hl; omega
  have HA : Hid (NatsAt w ao l) := ha
  have HB : Hid (NatsAt w bo l) := hb
  clear ha hb
  go_enter Tryz.func11, Tryz.ntmps11
  go_wp2_with fail
  go_loopw [5] (fun i wr => ∃ (k : Nat), k ≤ l.length ∧ i = .int .i64 k ∧ ∃ n, wr = w.drewN n) (fun i _ => l.length - (intOf i).toNat)
  case atStart => exact ⟨0, by omega, rfl, 0, rfl⟩
  case round =>
    obtain ⟨k, hk, rfl, hWr⟩ := hrel
    have kr := keepN hWr
    have HW : Hid (∃ n, wr = w.drewN n) := hWr
    clear hWr
    by_cases hlt : k < l.length
    · obtain ⟨b1, o1, rfl, x0⟩ := HA.out k hlt
      obtain ⟨b2, o2, rfl, y0⟩ := HB.out k hlt
      have x0 := kr.cell x0 (fun f => f)
      have y0 := kr.cell y0 (fun f => f)
      have i1 : (k : Int) < l.length := by omega
      generalize (l[k] : Int) = V at *
      clear HA HB kr
      go_wp2_with fail
      go_quiet (fail)
      go_wp2
      go_roundw
      case rel => exact ⟨k + 1, by omega, by go_num, drewN_on HW.out _⟩
      case measure => simp [intOf]; omega
    · have i1 : ¬ (k : Int) < l.length := by omega
      go_wp2
      go_ret
      exact ⟨rfl, HW.out⟩
end Go.Proofs.YtaleennijfefnaaGreat
