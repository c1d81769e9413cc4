/-
  What this seat's claims lean on of the texts VecMem.
  Conditions: as each theorem states.
-/
import Derived.WalkKit
import Derived.ProofKit
import Derived.Below
import Derived.Deep.Draws
import Derived.Deep.RegionHeld
import Derived.Test.YtmllchembkpdkaaChecked
import Derived.OpenShut
import Derived.ShutString
import Derived.WalkSpells
import Derived.WalkLawsBesides
import Derived.Deep.QuietTactic
import Derived.BigQuiet
import Derived.Laws.Bits64b
import Derived.PlainAid
import Derived.Lib.AppendStr
import Derived.Deep.AppendLies
import Derived.Laws.IdiomStrings
import Derived.Laws.BytesArg
import Derived.Deep.RegionWith
import Derived.Laws.AppendOwn
import Derived.Deep.DeepAppendWide
import Derived.Deep.Upon
import Derived.Test.YtmllchembkpdkaaZ7
namespace Go.Proofs.Ytmllchembkpdkaa
open Go.RowKit
def En.cells (x : En) : List Value := [.string x.a, .int .u64 (x.n : Int)]
def En.val (x : En) : Value := .agg #[.string x.a, .int .u64 (x.n : Int)]
def EnsAt (w : World) (ao : Option Addr) (l : List En) : Prop := ∀ i (_ : i < l.length), ∃ b off, ao = some ⟨b, off, none⟩ ∧
  w.cell? ⟨b, off + i * 2, none⟩ = some (.string l[i].a) ∧ w.cell? ⟨b, off + i * 2 + 1, none⟩ = some (.int .u64 (l[i].n : Int))
def ApartE (R : Nat → Prop) (ao : Option Addr) : Prop := ∀ b off m, ao = some ⟨b, off, m⟩ → ¬ R b
theorem EnsAt.keep {R : Nat → Prop} {w w' : World} {ao : Option Addr} {l : List En} (h : EnsAt w ao l) (K : Keep R w w') (hn : ApartE R ao) : EnsAt w' ao l := by
  intro i hi
  obtain ⟨b, off, e, h1, h2⟩ := h i hi
  have hb := hn _ _ _ e
  exact ⟨b, off, e, K.cell h1 hb, K.cell h2 hb⟩
theorem EnsAt.keep0 {w w' : World} {ao : Option Addr} {l : List En} (h : EnsAt w ao l) (K : Keep0 w w') : EnsAt w' ao l := h.keep K (fun _ _ _ _ f => f)
theorem ens_nil (w : World) (ao : Option Addr) : EnsAt w ao [] := fun i hi => absurd hi (Nat.not_lt_zero i)
def enCells (l : List En) : List Value := l.flatMap En.cells
theorem enCells_len (l : List En) : (enCells l).length = l.length * 2 := by
  induction l with
  | nil => rfl
  | cons f l ih =>
    show (f.cells ++ enCells l).length = _
    rw [List.length_append, ih, List.length_cons]
    show 2 + _ = _
    omega
theorem enCells_app (l r : List En) : enCells (l ++ r) = enCells l ++ enCells r := List.flatMap_append
theorem enCells_get : ∀ (l : List En) (i : Nat) (hi : i < l.length) (j : Nat), j < 2 → (enCells l)[i * 2 + j]? = l[i].cells[j]?
  | f :: l, 0, _, j, hj => by
    show (f.cells ++ enCells l)[0 * 2 + j]? = f.cells[j]?
    rw [Nat.zero_mul, Nat.zero_add, List.getElem?_append_left (by show j < 2; exact hj)]
  | f :: l, i + 1, hi, j, hj => by
    have hi' : i < l.length := by simpa using hi
    have ih := enCells_get l i hi' j hj
    show (f.cells ++ enCells l)[(i + 1) * 2 + j]? = l[i].cells[j]?
    have e : f.cells.length = 2 := rfl
    rw [List.getElem?_append_right (by rw [e]; omega), e, show (i + 1) * 2 + j - 2 = i * 2 + j from by omega, ih]
theorem enCells_one (l : List En) : ∀ u ∈ enCells l, u.oneCell' = true := by
  intro u hu
  unfold enCells at hu
  obtain ⟨f, _, hf⟩ := List.mem_flatMap.1 hu
  simp only [En.cells, List.mem_cons, List.mem_nil_iff, or_false] at hf
  rcases hf with rfl | rfl <;> rfl
theorem ens_of_row {w : World} {B : Nat} {e : TypeId} {v : Value} {n : Nat} {l : List En} (h : w.ownsRow B e 2 v n (enCells l)) :
    ∃ ao cap, v = .slice ao l.length cap ∧ EnsAt w ao l ∧ (∀ b off m, ao = some ⟨b, off, m⟩ → B ≤ b) ∧ l.length ≤ cap := by
  have hn : n = l.length := by have := h.1; rw [enCells_len] at this; omega
  subst hn
  rcases h.2 with ⟨rfl, h0⟩ | ⟨g, cap, cur, rfl, hb, hg, hcap, hrest⟩
  · exact ⟨none, 0, by rw [h0], fun i hi => by omega, (fun b off m e => by cases e), by omega⟩
  · refine ⟨some ⟨g, 0, none⟩, cap, rfl, fun i hi => ⟨g, 0, rfl, ?_⟩, (fun b off m e => by cases e; exact hb), hcap⟩
    have hc := h.cells (g := g) rfl
    have k : ∀ j u, j < 2 → l[i].cells[j]? = some u → w.cell? ⟨g, 0 + i * 2 + j, none⟩ = some u := by
      intro j u hj hu
      have := hc (i * 2 + j) u ((enCells_get l i hi j hj).trans hu)
      rwa [add_plain, ← Nat.add_assoc] at this
    exact ⟨k 0 _ (by decide) rfl, k 1 _ (by decide) rfl⟩
theorem ens_cells {w : World} {ao : Option Addr} {l : List En} (h : EnsAt w ao l) (hne : 0 < l.length) : ∃ b off, ao = some ⟨b, off, none⟩ ∧ ∀ j u, (enCells l)[j]? = some u → w.cell? ((⟨b, off, none⟩ : Addr).add j) = some u := by
  obtain ⟨b, off, rfl, _⟩ := h 0 hne
  refine ⟨b, off, rfl, fun j u hu => ?_⟩
  have hj : j < (enCells l).length := (List.getElem?_eq_some_iff.1 hu).1
  rw [enCells_len] at hj
  have hi : j / 2 < l.length := by omega
  have hr : j % 2 < 2 := Nat.mod_lt _ (by decide)
  have ej : j / 2 * 2 + j % 2 = j := by omega
  obtain ⟨b', off', e, h0, h1⟩ := h (j / 2) hi
  cases e
  have hu' := enCells_get l (j / 2) hi (j % 2) hr
  rw [ej, hu] at hu'
  rw [add_plain]
  have hc : j % 2 = 0 ∨ j % 2 = 1 := by omega
  rcases hc with hc | hc
  · rw [hc] at hu'
    have : u = .string l[j / 2].a := by simpa [En.cells] using hu'
    rw [this, ← h0]
    congr 2
    omega
  · rw [hc] at hu'
    have : u = .int .u64 (l[j / 2].n : Int) := by simpa [En.cells] using hu'
    rw [this, ← h1]
    congr 2
    omega
theorem entry_info : (Try.prog.info? 44).map (fun i => (i.zero, i.size, i.bytes)) = some (some (.agg #[.string ⟨#[]⟩, .int .u64 0]), 2, 24) := by kernel_rfl
theorem run_append_ens {w : World} {B : Nat} {v : Value} {l m : List En} {ao : Option Addr} {c : Nat} (ty : TypeId) (ho : w.ownsRow B 44 2 v l.length (enCells l)) (hs : EnsAt w ao m) (hB : B ≤ w.heap.size) (hlen : l.length + m.length ≤ 1000000) :
    ∃ v' w', (Builtin.append_ #[45, 45] ty #[v, .slice ao m.length c]).run Try.prog w = .ok v' w' ∧ w'.ownsRow B 44 2 v' (l ++ m).length (enCells (l ++ m)) ∧ w.grownBy w' v.ownBlock := by
  obtain ⟨i0, hi, z0, z1, z2⟩ := info_parts entry_info
  have big : ∀ a, (∀ j u, (enCells m)[j]? = some u → w.cell? (Addr.add a j) = some u) → ∃ v' w', (Builtin.append_ #[45, 45] ty #[v, .slice (some a) m.length c]).run Try.prog w = .ok v' w' ∧ w'.ownsRow B 44 2 v' (l ++ m).length (enCells (l ++ m)) ∧ w.grownBy w' v.ownBlock := by
    intro a ha
    obtain ⟨v', w', h1, h2, h3, _⟩ := run_append_own_wide (P := Try.prog) w B 45 ty 44 i0 _ 2 24 Try.underlying45 hi z0 z1 z2 rfl (by decide) v l.length (enCells l) ho a m.length c (enCells m) (enCells_len m) ha (enCells_one m) (by unfold maxLen; omega) (by omega) hB
    exact ⟨v', w', h1, by rw [enCells_app, List.length_append]; exact h2, h3⟩
  by_cases hm : 0 < m.length
  · obtain ⟨b, off, rfl, hc⟩ := ens_cells hs hm
    exact big _ hc
  · have hm' : m = [] := List.eq_nil_of_length_eq_zero (by omega)
    subst hm'
    cases ao with
    | some a => exact big a (fun j u hu => by cases hu)
    | none =>
      have hsrc : Src Try.prog i0.size 45 (.slice none 0 c) 0 [] w := Src.ofNil w Try.underlying45 c
      have hv : ∃ base n cap, v = .slice base n cap ∧ n ≤ cap := by
        rcases ho.2 with ⟨e, _⟩ | ⟨g, cp, cur, e, _, _, hc, _⟩
        · exact ⟨_, _, _, e, Nat.le_refl _⟩
        · exact ⟨_, _, _, e, hc⟩
      obtain ⟨base, n, cap, rfl, hle⟩ := hv
      refine ⟨_, w, run_append_nothing w 45 45 ty 44 i0 Try.underlying45 hi base n cap hle _ hsrc, ?_, ⟨rfl, rfl, rfl, Nat.le_refl _, fun _ _ _ => rfl⟩⟩
      rw [List.append_nil]
      exact ho
theorem wpList_append_ens {w : World} {ops : Array Oper} {rest : List Oper} {o : Oper} {a : Act} {Q : Exit → Act → World → Prop} (hgd : o.guard = none) (s x : Operand)
    (ho : o.op = .call { callee := .builtin .append, args := #[s, x], argTypes := #[45, 45] }) {B : Nat} {v : Value} {l m : List En} {ao : Option Addr} {c : Nat}
    (hs : a.eval s = v) (hx : a.eval x = .slice ao m.length c) (hown : w.ownsRow B 44 2 v l.length (enCells l)) (hsrc : EnsAt w ao m) (hB : B ≤ w.heap.size) (hlen : l.length + m.length ≤ 1000000)
    (h : ∀ v' w', w'.ownsRow B 44 2 v' (l ++ m).length (enCells (l ++ m)) → w.grownBy w' v.ownBlock → wpList Try.prog ops Q rest (a.put o.dst v') w') : wpList Try.prog ops Q (o :: rest) a w :=
  wpList_plain hgd fun _ hK => by
    obtain ⟨v', w', hr, h2, h3⟩ := run_append_ens (c := c) o.type hown hsrc hB hlen
    unfold Oper.wp execOp
    simp only [ho, resolve, invoke, builtin, Sem.run_bind, Sem.run_pure, Result.andThen_ok, List.map_toArray, List.map_cons, List.map_nil, hs, hx, hr]
    exact hK _ _ (h v' w' h2 h3)
theorem en_new (w : World) (t : TypeId) (x : En) : EnsAt (w.alloc (.cells #[.string x.a, .int .u64 (x.n : Int)] t)) (some ⟨w.heap.size, 0, none⟩) [x] := by
  intro i hi
  obtain rfl : i = 0 := by simpa using hi
  exact ⟨w.heap.size, 0, rfl, cell_alloc w t rfl, cell_alloc w t rfl⟩
theorem rowE_keep {R : Nat → Prop} {w w' : World} {B : Nat} {e : TypeId} {sz : Nat} {v : Value} {n : Nat} {xs : List Value} (h : w.ownsRow B e sz v n xs) (K : Keep R w w') (hn : ∀ k, B ≤ k → ¬ R k) : w'.ownsRow B e sz v n xs := by
  refine ⟨h.1, ?_⟩
  rcases h.2 with h0 | ⟨g, cap, cur, e1, hb, hg, rest⟩
  · exact .inl h0
  · exact .inr ⟨g, cap, cur, e1, hb, (K.block g (Array.getElem?_eq_some_iff.1 hg).1 (hn g hb)).trans hg, rest⟩
theorem sliceE_of_own {w : World} {B : Nat} {e : TypeId} {sz n : Nat} {v : Value} {xs : List Value} (h : w.ownsRow B e sz v n xs) : ∃ ao n' cap, v = .slice ao n' cap := by
  rcases h.2 with ⟨e, _⟩ | ⟨_, _, _, e, _⟩
  · exact ⟨_, _, _, e⟩
  · exact ⟨_, _, _, e⟩
end Go.Proofs.Ytmllchembkpdkaa
