/-
  What this seat's claims lean on of the texts RowG.
  Conditions: as each theorem states.
-/
import Derived.WalkKit
import Derived.ProofKit
import Derived.Below
import Derived.Deep.Draws
import Derived.Deep.RegionHeld
import Derived.Test.YtmllchembkpdkaaChecked
import Derived.OpenShut
import Derived.ShutString
import Derived.WalkSpells
import Derived.WalkLawsBesides
import Derived.Deep.QuietTactic
import Derived.BigQuiet
import Derived.Laws.Bits64b
import Derived.PlainAid
import Derived.Lib.AppendStr
import Derived.Deep.AppendLies
import Derived.Laws.IdiomStrings
import Derived.Laws.BytesArg
import Derived.Deep.RegionWith
import Derived.Laws.AppendOwn
import Derived.Deep.DeepAppendWide
import Derived.Deep.Upon
import Derived.Maps.AppendAt
import Derived.Test.YtmllchembkpdkaaZ11
namespace Go.Proofs.Ytmllchembkpdkaa
open Go.RowKit
section
variable {α : Type} {f : α → List Value} {k : Nat}
def rowOf (f : α → List Value) (l : List α) : List Value := l.flatMap f
theorem rowOf_len (hf : ∀ x, (f x).length = k) : ∀ l : List α, (rowOf f l).length = l.length * k
  | [] => by rw [List.length_nil, Nat.zero_mul]; rfl
  | x :: l => by
    show (f x ++ rowOf f l).length = _
    rw [List.length_append, rowOf_len hf l, hf, List.length_cons, Nat.add_mul, Nat.one_mul, Nat.add_comm]
theorem rowOf_app (l r : List α) : rowOf f (l ++ r) = rowOf f l ++ rowOf f r := List.flatMap_append
theorem rowOf_get (hf : ∀ x, (f x).length = k) : ∀ (l : List α) (i : Nat) (hi : i < l.length) (j : Nat), j < k → (rowOf f l)[i * k + j]? = (f l[i])[j]?
  | x :: l, 0, _, j, hj => by
    show (f x ++ rowOf f l)[0 * k + j]? = (f x)[j]?
    rw [Nat.zero_mul, Nat.zero_add, List.getElem?_append_left (by rw [hf]; exact hj)]
  | x :: l, i + 1, hi, j, hj => by
    have hi' : i < l.length := by simpa using hi
    have ih := rowOf_get hf l i hi' j hj
    show (f x ++ rowOf f l)[(i + 1) * k + j]? = (f l[i])[j]?
    have e : (i + 1) * k + j - k = i * k + j := by rw [Nat.add_mul, Nat.one_mul]; omega
    rw [List.getElem?_append_right (by rw [hf, Nat.add_mul, Nat.one_mul]; omega), hf, e, ih]
theorem rowOf_one (hu : ∀ x, ∀ u ∈ f x, u.oneCell' = true) (l : List α) : ∀ u ∈ rowOf f l, u.oneCell' = true := by
  intro u h
  obtain ⟨x, _, hx⟩ := List.mem_flatMap.1 h
  exact hu x u hx
def RowAt (f : α → List Value) (k : Nat) (w : World) (ao : Option Addr) (l : List α) : Prop := ∀ i (_ : i < l.length), ∃ b off, ao = some ⟨b, off, none⟩ ∧ ∀ j u, (f l[i])[j]? = some u → w.cell? ⟨b, off + i * k + j, none⟩ = some u
theorem RowAt.keep {R : Nat → Prop} {w w' : World} {ao : Option Addr} {l : List α} (h : RowAt f k w ao l) (K : Keep R w w') (hn : ApartE R ao) : RowAt f k w' ao l := by
  intro i hi
  obtain ⟨b, off, e, h1⟩ := h i hi
  have hb := hn _ _ _ e
  exact ⟨b, off, e, fun j u hu => K.cell (h1 j u hu) hb⟩
theorem RowAt.keep0 {w w' : World} {ao : Option Addr} {l : List α} (h : RowAt f k w ao l) (K : Keep0 w w') : RowAt f k w' ao l := h.keep K (fun _ _ _ _ f => f)
theorem rowAt_nil (w : World) (ao : Option Addr) : RowAt f k w ao ([] : List α) := fun i hi => absurd hi (Nat.not_lt_zero i)
theorem row_of_own (hf : ∀ x, (f x).length = k) (hk : 0 < k) {w : World} {B : Nat} {e : TypeId} {v : Value} {n : Nat} {l : List α} (h : w.ownsRow B e k v n (rowOf f l)) :
    ∃ ao cap, v = .slice ao l.length cap ∧ RowAt f k w ao l ∧ (∀ b off m, ao = some ⟨b, off, m⟩ → B ≤ b) ∧ l.length ≤ cap ∧ cap ≤ maxLen := by
  have hn : n = l.length := by
    have := h.1
    rw [rowOf_len hf] at this
    exact (Nat.eq_of_mul_eq_mul_right hk this).symm
  subst hn
  rcases h.2 with ⟨rfl, h0⟩ | ⟨g, cap, cur, rfl, hb, hg, hcap, hmax, hrest⟩
  · exact ⟨none, 0, by rw [h0], fun i hi => by omega, (fun b off m e => by cases e), by omega, Nat.zero_le _⟩
  · refine ⟨some ⟨g, 0, none⟩, cap, rfl, fun i hi => ⟨g, 0, rfl, fun j u hu => ?_⟩, (fun b off m e => by cases e; exact hb), hcap, hmax⟩
    have hj : j < k := by rw [← hf l[i]]; exact (List.getElem?_eq_some_iff.1 hu).1
    have := h.cells (g := g) rfl (i * k + j) u ((rowOf_get hf l i hi j hj).trans hu)
    rwa [add_plain, ← Nat.add_assoc] at this
theorem row_cells (hf : ∀ x, (f x).length = k) (hk : 0 < k) {w : World} {ao : Option Addr} {l : List α} (h : RowAt f k w ao l) (hne : 0 < l.length) : ∃ b off, ao = some ⟨b, off, none⟩ ∧ ∀ j u, (rowOf f l)[j]? = some u → w.cell? ((⟨b, off, none⟩ : Addr).add j) = some u := by
  obtain ⟨b, off, rfl, _⟩ := h 0 hne
  refine ⟨b, off, rfl, fun j u hu => ?_⟩
  have hj : j < (rowOf f l).length := (List.getElem?_eq_some_iff.1 hu).1
  rw [rowOf_len hf] at hj
  have hi : j / k < l.length := Nat.div_lt_of_lt_mul (by rw [Nat.mul_comm]; exact hj)
  have hr : j % k < k := Nat.mod_lt _ hk
  have ej : j / k * k + j % k = j := by rw [Nat.mul_comm]; exact Nat.div_add_mod j k
  obtain ⟨b', off', e, h0⟩ := h (j / k) hi
  cases e
  have hu' := rowOf_get hf l (j / k) hi (j % k) hr
  rw [ej, hu] at hu'
  rw [add_plain]
  have := h0 (j % k) u hu'.symm
  rw [Nat.add_assoc, ej] at this
  exact this
structure ElemT (f : α → List Value) (k : Nat) (T E : TypeId) : Prop where
  len : ∀ x, (f x).length = k
  pos : 0 < k
  one : ∀ x, ∀ u ∈ f x, u.oneCell' = true
  slice : Try.prog.underlying T = some (.slice E)
  info : ∃ (i0 : TypeInfo) (z : Value) (bytes : Nat), Try.prog.info? E = some i0 ∧ i0.zero = some z ∧ i0.size = k ∧ i0.bytes = bytes ∧ z.cells.size = k ∧ bytes ≤ 200
theorem keep_grown {w w' : World} {row : Option Nat} (h : w.grownBy w' row) : Keep (fun k => row = some k) w w' := by
  obtain ⟨h1, h2, h3, h4, h5⟩ := h
  exact ⟨h1, h2, h3, h4, fun k hk hn => h5 k hk (fun e => hn e.symm)⟩
theorem run_append_row_at {T E : TypeId} (t : ElemT f k T E) {w : World} {B : Nat} {v : Value} {l m : List α} {ao : Option Addr} {c : Nat} (ty : TypeId) (ho : w.ownsRow B E k v l.length (rowOf f l)) (hs : RowAt f k w ao m) (hB : B ≤ w.heap.size) (hlen : l.length + m.length ≤ 1000000) :
    ∃ v' w', (Builtin.append_ #[T, T] ty #[v, .slice ao m.length c]).run Try.prog w = .ok v' w' ∧ w'.ownsRow B E k v' (l ++ m).length (rowOf f (l ++ m)) ∧ w.grownBy w' v.ownBlock ∧ (v'.ownBlock = v.ownBlock ∨ v'.ownBlock = some w.heap.size) := by
  obtain ⟨i0, z, bytes, hi, z0, z1, z2, z3, z4⟩ := t.info
  have hb : (l.length + m.length) * bytes ≤ 140737488355328 := Nat.le_trans (Nat.mul_le_mul hlen z4) (by decide)
  have big : ∀ a, (∀ j u, (rowOf f m)[j]? = some u → w.cell? (Addr.add a j) = some u) → ∃ v' w', (Builtin.append_ #[T, T] ty #[v, .slice (some a) m.length c]).run Try.prog w = .ok v' w' ∧ w'.ownsRow B E k v' (l ++ m).length (rowOf f (l ++ m)) ∧ w.grownBy w' v.ownBlock ∧ (v'.ownBlock = v.ownBlock ∨ v'.ownBlock = some w.heap.size) := by
    intro a ha
    obtain ⟨v', w', h1, h2, h3, _, h5⟩ := run_append_own_at (P := Try.prog) w B T ty E i0 z k bytes t.slice hi z0 z1 z2 z3 t.pos v l.length (rowOf f l) ho a m.length c (rowOf f m) (rowOf_len t.len m) ha (rowOf_one t.one m) (by unfold maxLen; omega) hb hB
    exact ⟨v', w', h1, by rw [rowOf_app, List.length_append]; exact h2, h3, h5⟩
  by_cases hm : 0 < m.length
  · obtain ⟨b, off, rfl, hc⟩ := row_cells t.len t.pos hs hm
    exact big _ hc
  · have hm' : m = [] := List.eq_nil_of_length_eq_zero (by omega)
    subst hm'
    cases ao with
    | some a => exact big a (fun j u hu => by cases hu)
    | none =>
      have hsrc : Src Try.prog i0.size T (.slice none 0 c) 0 [] w := Src.ofNil w t.slice c
      have hv : ∃ base n cap, v = .slice base n cap ∧ n ≤ cap := by
        rcases ho.2 with ⟨e, _⟩ | ⟨g, cp, cur, e, _, _, hc, _⟩
        · exact ⟨_, _, _, e, Nat.le_refl _⟩
        · exact ⟨_, _, _, e, hc⟩
      obtain ⟨base, n, cap, rfl, hle⟩ := hv
      refine ⟨_, w, run_append_nothing w T T ty E i0 t.slice hi base n cap hle _ hsrc, ?_, ⟨rfl, rfl, rfl, Nat.le_refl _, fun _ _ _ => rfl⟩, .inl rfl⟩
      rw [List.append_nil]
      exact ho
theorem wpList_append_row_at {T E : TypeId} (t : ElemT f k T E) {w : World} {ops : Array Oper} {rest : List Oper} {o : Oper} {a : Act} {Q : Exit → Act → World → Prop} (hgd : o.guard = none) (s x : Operand)
    (ho : o.op = .call { callee := .builtin .append, args := #[s, x], argTypes := #[T, T] }) {B : Nat} {v : Value} {l m : List α} {ao : Option Addr} {c : Nat}
    (hs : a.eval s = v) (hx : a.eval x = .slice ao m.length c) (hown : w.ownsRow B E k v l.length (rowOf f l)) (hsrc : RowAt f k w ao m) (hB : B ≤ w.heap.size) (hlen : l.length + m.length ≤ 1000000)
    (h : ∀ v' w', w'.ownsRow B E k v' (l ++ m).length (rowOf f (l ++ m)) → w.grownBy w' v.ownBlock → (v'.ownBlock = v.ownBlock ∨ v'.ownBlock = some w.heap.size) → wpList Try.prog ops Q rest (a.put o.dst v') w') : wpList Try.prog ops Q (o :: rest) a w :=
  wpList_plain hgd fun _ hK => by
    obtain ⟨v', w', hr, h2, h3, h4⟩ := run_append_row_at t (c := c) o.type hown hsrc hB hlen
    unfold Oper.wp execOp
    simp only [ho, resolve, invoke, builtin, Sem.run_bind, Sem.run_pure, Result.andThen_ok, List.map_toArray, List.map_cons, List.map_nil, hs, hx, hr]
    exact hK _ _ (h v' w' h2 h3 h4)
theorem step_append_row {T E : TypeId} (t : ElemT f k T E) {w : World} {ops : Array Oper} {o : Oper} {a : Act} {K : Act → World → Prop} {Q : Exit → Act → World → Prop} {X : Prop} (hgd : o.guard = none) (s x : Operand)
    (ho : o.op = .call { callee := .builtin .append, args := #[s, x], argTypes := #[T, T] }) {B : Nat} {v : Value} {l m : List α} {ao : Option Addr} {c n : Nat}
    (hs : a.eval s = v) (hx : a.eval x = .slice ao n c) (hn : n = m.length) (hown : w.ownsRow B E k v l.length (rowOf f l)) (hsrc : RowAt f k w ao m) (hB : B ≤ w.heap.size) (hlen : l.length + m.length ≤ 1000000)
    (h : ∀ v' w', w'.ownsRow B E k v' (l ++ m).length (rowOf f (l ++ m)) → w.grownBy w' v.ownBlock → (v'.ownBlock = v.ownBlock ∨ v'.ownBlock = some w.heap.size) → K (a.put o.dst v') w') :
    if Region.wanted o (yielded ops a.tmps) = true then Oper.wp Try.prog o a w K Q else X := by
  have hw : Region.wanted o (yielded ops a.tmps) = true := by simp [Region.wanted, hgd]
  rw [if_pos hw]
  subst hn
  obtain ⟨v', w', hr, h2, h3, h4⟩ := run_append_row_at t (c := c) o.type hown hsrc hB hlen
  unfold Oper.wp execOp
  simp only [ho, resolve, invoke, builtin, Sem.run_bind, Sem.run_pure, Result.andThen_ok, List.map_toArray, List.map_cons, List.map_nil, hs, hx, hr]
  exact h v' w' h2 h3 h4
theorem RowAt.take {w : World} {ao : Option Addr} {l : List α} (h : RowAt f k w ao l) (n : Nat) : RowAt f k w ao (l.take n) := by
  intro i hi
  have hi' : i < l.length := by rw [List.length_take] at hi; omega
  obtain ⟨b, off, e, h1⟩ := h i hi'
  rw [List.getElem_take]
  exact ⟨b, off, e, h1⟩
theorem RowAt.drop {w : World} {b off : Nat} {l : List α} (h : RowAt f k w (some ⟨b, off, none⟩) l) (n : Nat) : RowAt f k w (some ⟨b, off + n * k, none⟩) (l.drop n) := by
  intro i hi
  have hi' : n + i < l.length := by rw [List.length_drop] at hi; omega
  obtain ⟨b', off', e, h1⟩ := h (n + i) hi'
  cases e
  refine ⟨b, off + n * k, rfl, fun j u hu => ?_⟩
  rw [List.getElem_drop] at hu
  have := h1 j u hu
  rw [Nat.add_mul, ← Nat.add_assoc] at this
  exact this
theorem row_made (w : World) (e : TypeId) : (w.alloc (.cells #[] e)).ownsRow w.heap.size e k (.slice (some ⟨w.heap.size, 0, none⟩) 0 0) ([] : List α).length (rowOf f []) :=
  ⟨by show 0 = 0 * k; rw [Nat.zero_mul], .inr ⟨w.heap.size, 0, #[], rfl, Nat.le_refl _, (MapKept.heap_alloc w (.cells #[] e)).1, Nat.le_refl _, Nat.zero_le _, by rw [Nat.zero_mul]; rfl, by show List.take (0 * k) [] = []; simp⟩⟩
end
end Go.Proofs.Ytmllchembkpdkaa
