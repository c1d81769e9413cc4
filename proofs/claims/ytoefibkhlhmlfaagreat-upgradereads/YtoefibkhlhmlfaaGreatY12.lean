/-
  What this seat's claims lean on of the texts DotMem, PairMem.
  Conditions: as each theorem states.
-/
import Derived.WalkKit
import Derived.ProofKit
import Derived.Below
import Derived.Deep.Draws
import Derived.Deep.RegionHeld
import Derived.Test.YtoefibkhlhmlfaaGreatChecked
import Derived.OpenShut
import Derived.ShutString
import Derived.WalkSpells
import Derived.WalkLawsBesides
import Derived.Deep.QuietTactic
import Derived.BigQuiet
import Derived.Laws.Bits64b
import Derived.PlainAid
import Derived.Lib.AppendStr
import Derived.Deep.AppendLies
import Derived.Laws.IdiomStrings
import Derived.Laws.BytesArg
import Derived.Deep.RegionWith
import Derived.Laws.AppendOwn
import Derived.Deep.DeepAppendWide
import Derived.Deep.Upon
import Derived.Test.YtoefibkhlhmlfaaGreatY8
import Derived.Test.YtoefibkhlhmlfaaGreatY10
import Derived.Test.YtoefibkhlhmlfaaGreatY9
namespace Go.Proofs.YtoefibkhlhmlfaaGreat
open Go.RowKit
def Ck.cells (k : Ck) (ao : Option Addr) (cap : Nat) : List Value := [.slice ao k.c.length cap, .bool k.d, .string k.x.a, .int .u64 (k.x.n : Int)]
structure FitsK (k : Ck) : Prop where
  vec : Fits k.c
  dot : k.x.a.size ≤ maxLen
  num : k.x.n < 18446744073709551616
def ClkAt (w : World) (b off : Nat) (k : Ck) (ao : Option Addr) (cap : Nat) : Prop := w.cell? ⟨b, off, none⟩ = some (.slice ao k.c.length cap) ∧ w.cell? ⟨b, off + 1, none⟩ = some (.bool k.d) ∧ w.cell? ⟨b, off + 2, none⟩ = some (.string k.x.a) ∧ w.cell? ⟨b, off + 3, none⟩ = some (.int .u64 (k.x.n : Int))
theorem ClkAt.keep0 {w w' : World} {b off : Nat} {k : Ck} {ao : Option Addr} {cap : Nat} (h : ClkAt w b off k ao cap) (K : Keep0 w w') : ClkAt w' b off k ao cap :=
  ⟨K.cell h.1 (fun f => f), K.cell h.2.1 (fun f => f), K.cell h.2.2.1 (fun f => f), K.cell h.2.2.2 (fun f => f)⟩
theorem clk_new (w : World) (t : TypeId) (k : Ck) (ao : Option Addr) (cap : Nat) : ClkAt (w.alloc (.cells #[.slice ao k.c.length cap, .bool k.d, .string k.x.a, .int .u64 (k.x.n : Int)] t)) w.heap.size 0 k ao cap :=
  ⟨cell_alloc w t rfl, cell_alloc w t rfl, cell_alloc w t rfl, cell_alloc w t rfl⟩
def ClksAt (w : World) (ao : Option Addr) (l : List Ck) : Prop := ∀ i (_ : i < l.length), ∃ b off vo c, ao = some ⟨b, off, none⟩ ∧ ClkAt w b (off + i * 4) l[i] vo c ∧ EnsAt w vo l[i].c
theorem ClksAt.keep0 {w w' : World} {ao : Option Addr} {l : List Ck} (h : ClksAt w ao l) (K : Keep0 w w') : ClksAt w' ao l := by
  intro i hi
  obtain ⟨b, off, vo, c, e, h1, h2⟩ := h i hi
  exact ⟨b, off, vo, c, e, h1.keep0 K, h2.keep0 K⟩
theorem empty_ne12 {a : ByteArray} (h : a.size ≠ 0) : a.toList.isEmpty = false := by
  rw [ByteArray.toList_eq]
  cases hb : a.data.toList with
  | nil => exact absurd (by show a.data.size = 0; rw [← Array.length_toList, hb]; rfl) h
  | cons x l => rfl
theorem empty_eq12 {a : ByteArray} (h : a.size = 0) : a = ⟨#[]⟩ := ByteArray.ext (Array.eq_empty_of_size_eq_zero h)
theorem check_bad {k : Ck} (h : vCheck k.c ≠ 0) : kCheck k = vCheck k.c := if_neg h
theorem check_dot {k : Ck} (h : vCheck k.c = 0) : kCheck k = kDot k := if_pos h
theorem dot_p0 {k : Ck} (hd : k.d = false) (h : k.x.a.size = 0) (h1 : k.x.n = 0) : kDot k = 0 := by unfold kDot; rw [hd, if_neg (by decide), if_pos ⟨h, h1⟩]
theorem dot_p1 {k : Ck} (hd : k.d = false) (h : ¬ (k.x.a.size = 0 ∧ k.x.n = 0)) : kDot k = 1 := by unfold kDot; rw [hd, if_neg (by decide), if_neg h]
theorem dot_3 {k : Ck} (hd : k.d = true) (h : 32 < k.x.a.size) : kDot k = 3 := by unfold kDot; rw [hd, if_pos rfl, if_pos h]
theorem dot_14 {k : Ck} (hd : k.d = true) (h : k.x.a.size = 0) : kDot k = 14 := by unfold kDot; rw [hd, if_pos rfl, if_neg (by omega), if_pos h]
theorem dot_7 {k : Ck} (hd : k.d = true) (h : ¬ 32 < k.x.a.size) (h1 : k.x.a.size ≠ 0) (h2 : k.x.n = 0) : kDot k = 7 := by unfold kDot; rw [hd, if_pos rfl, if_neg h, if_neg h1, if_pos h2]
theorem dot_15 {k : Ck} (hd : k.d = true) (h : ¬ 32 < k.x.a.size) (h1 : k.x.a.size ≠ 0) (h2 : k.x.n ≠ 0) (h3 : k.x.n ≤ vCount k.c k.x.a) : kDot k = 15 := by unfold kDot; rw [hd, if_pos rfl, if_neg h, if_neg h1, if_neg h2, if_pos h3]
theorem dot_0 {k : Ck} (hd : k.d = true) (h : ¬ 32 < k.x.a.size) (h1 : k.x.a.size ≠ 0) (h2 : k.x.n ≠ 0) (h3 : ¬ k.x.n ≤ vCount k.c k.x.a) : kDot k = 0 := by unfold kDot; rw [hd, if_pos rfl, if_neg h, if_neg h1, if_neg h2, if_neg h3]
end Go.Proofs.YtoefibkhlhmlfaaGreat
namespace Go.Proofs.YtoefibkhlhmlfaaGreat
open Go.RowKit
def Pr.cells (x : Pr) : List Value := [.string x.n, .string x.v]
def Pr.val (x : Pr) : Value := .agg #[.string x.n, .string x.v]
def PrsAt (w : World) (ao : Option Addr) (l : List Pr) : Prop := ∀ i (_ : i < l.length), ∃ b off, ao = some ⟨b, off, none⟩ ∧
  w.cell? ⟨b, off + i * 2, none⟩ = some (.string l[i].n) ∧ w.cell? ⟨b, off + i * 2 + 1, none⟩ = some (.string l[i].v)
theorem PrsAt.keep {R : Nat → Prop} {w w' : World} {ao : Option Addr} {l : List Pr} (h : PrsAt w ao l) (K : Keep R w w') (hn : ApartE R ao) : PrsAt w' ao l := by
  intro i hi
  obtain ⟨b, off, e, h1, h2⟩ := h i hi
  have hb := hn _ _ _ e
  exact ⟨b, off, e, K.cell h1 hb, K.cell h2 hb⟩
theorem PrsAt.keep0 {w w' : World} {ao : Option Addr} {l : List Pr} (h : PrsAt w ao l) (K : Keep0 w w') : PrsAt w' ao l := h.keep K (fun _ _ _ _ f => f)
theorem prs_nil (w : World) (ao : Option Addr) : PrsAt w ao [] := fun i hi => absurd hi (Nat.not_lt_zero i)
def prCells (l : List Pr) : List Value := l.flatMap Pr.cells
theorem prCells_len (l : List Pr) : (prCells l).length = l.length * 2 := by
  induction l with
  | nil => rfl
  | cons f l ih =>
    show (f.cells ++ prCells l).length = _
    rw [List.length_append, ih, List.length_cons]
    show 2 + _ = _
    omega
theorem prCells_app (l r : List Pr) : prCells (l ++ r) = prCells l ++ prCells r := List.flatMap_append
theorem prCells_get : ∀ (l : List Pr) (i : Nat) (hi : i < l.length) (j : Nat), j < 2 → (prCells l)[i * 2 + j]? = l[i].cells[j]?
  | f :: l, 0, _, j, hj => by
    show (f.cells ++ prCells l)[0 * 2 + j]? = f.cells[j]?
    rw [Nat.zero_mul, Nat.zero_add, List.getElem?_append_left (by show j < 2; exact hj)]
  | f :: l, i + 1, hi, j, hj => by
    have hi' : i < l.length := by simpa using hi
    have ih := prCells_get l i hi' j hj
    show (f.cells ++ prCells l)[(i + 1) * 2 + j]? = l[i].cells[j]?
    have e : f.cells.length = 2 := rfl
    rw [List.getElem?_append_right (by rw [e]; omega), e, show (i + 1) * 2 + j - 2 = i * 2 + j from by omega, ih]
theorem prCells_one (l : List Pr) : ∀ u ∈ prCells l, u.oneCell' = true := by
  intro u hu
  unfold prCells at hu
  obtain ⟨f, _, hf⟩ := List.mem_flatMap.1 hu
  simp only [Pr.cells, List.mem_cons, List.mem_nil_iff, or_false] at hf
  rcases hf with rfl | rfl <;> rfl
theorem prs_of_row {w : World} {B : Nat} {e : TypeId} {v : Value} {n : Nat} {l : List Pr} (h : w.ownsRow B e 2 v n (prCells l)) :
    ∃ ao cap, v = .slice ao l.length cap ∧ PrsAt w ao l ∧ (∀ b off m, ao = some ⟨b, off, m⟩ → B ≤ b) ∧ l.length ≤ cap := by
  have hn : n = l.length := by have := h.1; rw [prCells_len] at this; omega
  subst hn
  rcases h.2 with ⟨rfl, h0⟩ | ⟨g, cap, cur, rfl, hb, hg, hcap, hrest⟩
  · exact ⟨none, 0, by rw [h0], fun i hi => by omega, (fun b off m e => by cases e), by omega⟩
  · refine ⟨some ⟨g, 0, none⟩, cap, rfl, fun i hi => ⟨g, 0, rfl, ?_⟩, (fun b off m e => by cases e; exact hb), hcap⟩
    have hc := h.cells (g := g) rfl
    have k : ∀ j u, j < 2 → l[i].cells[j]? = some u → w.cell? ⟨g, 0 + i * 2 + j, none⟩ = some u := by
      intro j u hj hu
      have := hc (i * 2 + j) u ((prCells_get l i hi j hj).trans hu)
      rwa [add_plain, ← Nat.add_assoc] at this
    exact ⟨k 0 _ (by decide) rfl, k 1 _ (by decide) rfl⟩
theorem prs_cells {w : World} {ao : Option Addr} {l : List Pr} (h : PrsAt w ao l) (hne : 0 < l.length) : ∃ b off, ao = some ⟨b, off, none⟩ ∧ ∀ j u, (prCells l)[j]? = some u → w.cell? ((⟨b, off, none⟩ : Addr).add j) = some u := by
  obtain ⟨b, off, rfl, _⟩ := h 0 hne
  refine ⟨b, off, rfl, fun j u hu => ?_⟩
  have hj : j < (prCells l).length := (List.getElem?_eq_some_iff.1 hu).1
  rw [prCells_len] at hj
  have hi : j / 2 < l.length := by omega
  have hr : j % 2 < 2 := Nat.mod_lt _ (by decide)
  have ej : j / 2 * 2 + j % 2 = j := by omega
  obtain ⟨b', off', e, h0, h1⟩ := h (j / 2) hi
  cases e
  have hu' := prCells_get l (j / 2) hi (j % 2) hr
  rw [ej, hu] at hu'
  rw [add_plain]
  have hc : j % 2 = 0 ∨ j % 2 = 1 := by omega
  rcases hc with hc | hc
  · rw [hc] at hu'
    have : u = .string l[j / 2].n := by simpa [Pr.cells] using hu'
    rw [this, ← h0]
    congr 2
    omega
  · rw [hc] at hu'
    have : u = .string l[j / 2].v := by simpa [Pr.cells] using hu'
    rw [this, ← h1]
    congr 2
    omega
theorem pair_info : (Tryz.prog.info? 135).map (fun i => (i.zero, i.size, i.bytes)) = some (some (.agg #[.string ⟨#[]⟩, .string ⟨#[]⟩]), 2, 32) := by kernel_rfl
theorem run_append_prs {w : World} {B : Nat} {v : Value} {l m : List Pr} {ao : Option Addr} {c : Nat} (ty : TypeId) (ho : w.ownsRow B 135 2 v l.length (prCells l)) (hs : PrsAt w ao m) (hB : B ≤ w.heap.size) (hlen : l.length + m.length ≤ 1000000) :
    ∃ v' w', (Builtin.append_ #[59, 59] ty #[v, .slice ao m.length c]).run Tryz.prog w = .ok v' w' ∧ w'.ownsRow B 135 2 v' (l ++ m).length (prCells (l ++ m)) ∧ w.grownBy w' v.ownBlock := by
  obtain ⟨i0, hi, z0, z1, z2⟩ := info_parts pair_info
  have big : ∀ a, (∀ j u, (prCells m)[j]? = some u → w.cell? (Addr.add a j) = some u) → ∃ v' w', (Builtin.append_ #[59, 59] ty #[v, .slice (some a) m.length c]).run Tryz.prog w = .ok v' w' ∧ w'.ownsRow B 135 2 v' (l ++ m).length (prCells (l ++ m)) ∧ w.grownBy w' v.ownBlock := by
    intro a ha
    obtain ⟨v', w', h1, h2, h3, _⟩ := run_append_own_wide (P := Tryz.prog) w B 59 ty 135 i0 _ 2 32 Tryz.underlying59 hi z0 z1 z2 rfl (by decide) v l.length (prCells l) ho a m.length c (prCells m) (prCells_len m) ha (prCells_one m) (by unfold maxLen; omega) (by omega) hB
    exact ⟨v', w', h1, by rw [prCells_app, List.length_append]; exact h2, h3⟩
  by_cases hm : 0 < m.length
  · obtain ⟨b, off, rfl, hc⟩ := prs_cells hs hm
    exact big _ hc
  · have hm' : m = [] := List.eq_nil_of_length_eq_zero (by omega)
    subst hm'
    cases ao with
    | some a => exact big a (fun j u hu => by cases hu)
    | none =>
      have hsrc : Src Tryz.prog i0.size 59 (.slice none 0 c) 0 [] w := Src.ofNil w Tryz.underlying59 c
      have hv : ∃ base n cap, v = .slice base n cap ∧ n ≤ cap := by
        rcases ho.2 with ⟨e, _⟩ | ⟨g, cp, cur, e, _, _, hc, _⟩
        · exact ⟨_, _, _, e, Nat.le_refl _⟩
        · exact ⟨_, _, _, e, hc⟩
      obtain ⟨base, n, cap, rfl, hle⟩ := hv
      refine ⟨_, w, run_append_nothing w 59 59 ty 135 i0 Tryz.underlying59 hi base n cap hle _ hsrc, ?_, ⟨rfl, rfl, rfl, Nat.le_refl _, fun _ _ _ => rfl⟩⟩
      rw [List.append_nil]
      exact ho
theorem wpList_append_prs {w : World} {ops : Array Oper} {rest : List Oper} {o : Oper} {a : Act} {Q : Exit → Act → World → Prop} (hgd : o.guard = none) (s x : Operand)
    (ho : o.op = .call { callee := .builtin .append, args := #[s, x], argTypes := #[59, 59] }) {B : Nat} {v : Value} {l m : List Pr} {ao : Option Addr} {c : Nat}
    (hs : a.eval s = v) (hx : a.eval x = .slice ao m.length c) (hown : w.ownsRow B 135 2 v l.length (prCells l)) (hsrc : PrsAt w ao m) (hB : B ≤ w.heap.size) (hlen : l.length + m.length ≤ 1000000)
    (h : ∀ v' w', w'.ownsRow B 135 2 v' (l ++ m).length (prCells (l ++ m)) → w.grownBy w' v.ownBlock → wpList Tryz.prog ops Q rest (a.put o.dst v') w') : wpList Tryz.prog ops Q (o :: rest) a w :=
  wpList_plain hgd fun _ hK => by
    obtain ⟨v', w', hr, h2, h3⟩ := run_append_prs (c := c) o.type hown hsrc hB hlen
    unfold Oper.wp execOp
    simp only [ho, resolve, invoke, builtin, Sem.run_bind, Sem.run_pure, Result.andThen_ok, List.map_toArray, List.map_cons, List.map_nil, hs, hx, hr]
    exact hK _ _ (h v' w' h2 h3)
theorem pr_new (w : World) (t : TypeId) (x : Pr) : PrsAt (w.alloc (.cells #[.string x.n, .string x.v] t)) (some ⟨w.heap.size, 0, none⟩) [x] := by
  intro i hi
  obtain rfl : i = 0 := by simpa using hi
  exact ⟨w.heap.size, 0, rfl, cell_alloc w t rfl, cell_alloc w t rfl⟩
theorem rowP_mono {w : World} {B B' : Nat} {e : TypeId} {sz n : Nat} {v : Value} {xs : List Value} (h : w.ownsRow B e sz v n xs) (hb : B' ≤ B) : w.ownsRow B' e sz v n xs := by
  refine ⟨h.1, ?_⟩
  rcases h.2 with h0 | ⟨g, cap, cur, e1, h2, rest⟩
  · exact .inl h0
  · exact .inr ⟨g, cap, cur, e1, Nat.le_trans hb h2, rest⟩
theorem rowP_cap {w : World} {B : Nat} {e : TypeId} {sz n n' : Nat} {ao : Option Addr} {cap : Nat} {xs : List Value} (h : w.ownsRow B e sz (.slice ao n' cap) n xs) : n ≤ cap ∧ cap ≤ maxLen := by
  rcases h.2 with ⟨e1, e2⟩ | ⟨g, c, cur, e1, _, _, h3, h4, _⟩
  · cases e1
    exact ⟨by omega, Nat.zero_le _⟩
  · cases e1
    exact ⟨h3, h4⟩
end Go.Proofs.YtoefibkhlhmlfaaGreat
