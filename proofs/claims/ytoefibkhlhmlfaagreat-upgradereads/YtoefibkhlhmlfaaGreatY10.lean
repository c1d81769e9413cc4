/-
  What this seat's claims lean on of the texts RowG, RefVec, QBlk.
  Conditions: as each theorem states.
-/
import Derived.WalkKit
import Derived.ProofKit
import Derived.Below
import Derived.Deep.Draws
import Derived.Deep.RegionHeld
import Derived.Test.YtoefibkhlhmlfaaGreatChecked
import Derived.OpenShut
import Derived.ShutString
import Derived.WalkSpells
import Derived.WalkLawsBesides
import Derived.Deep.QuietTactic
import Derived.BigQuiet
import Derived.Laws.Bits64b
import Derived.PlainAid
import Derived.Lib.AppendStr
import Derived.Deep.AppendLies
import Derived.Laws.IdiomStrings
import Derived.Laws.BytesArg
import Derived.Deep.RegionWith
import Derived.Laws.AppendOwn
import Derived.Deep.DeepAppendWide
import Derived.Deep.Upon
import Derived.Maps.AppendAt
import Derived.Test.YtoefibkhlhmlfaaGreatY8
import Derived.Test.YtoefibkhlhmlfaaGreatY6
import Derived.Laws.Rows
namespace Go.Proofs.YtoefibkhlhmlfaaGreat
open Go.RowKit
section
variable {α : Type} {f : α → List Value} {k : Nat}
def rowOf (f : α → List Value) (l : List α) : List Value := l.flatMap f
theorem rowOf_len (hf : ∀ x, (f x).length = k) : ∀ l : List α, (rowOf f l).length = l.length * k
  | [] => by rw [List.length_nil, Nat.zero_mul]; rfl
  | x :: l => by
    show (f x ++ rowOf f l).length = _
    rw [List.length_append, rowOf_len hf l, hf, List.length_cons, Nat.add_mul, Nat.one_mul, Nat.add_comm]
theorem rowOf_app (l r : List α) : rowOf f (l ++ r) = rowOf f l ++ rowOf f r := List.flatMap_append
theorem rowOf_get (hf : ∀ x, (f x).length = k) : ∀ (l : List α) (i : Nat) (hi : i < l.length) (j : Nat), j < k → (rowOf f l)[i * k + j]? = (f l[i])[j]?
  | x :: l, 0, _, j, hj => by
    show (f x ++ rowOf f l)[0 * k + j]? = (f x)[j]?
    rw [Nat.zero_mul, Nat.zero_add, List.getElem?_append_left (by rw [hf]; exact hj)]
  | x :: l, i + 1, hi, j, hj => by
    have hi' : i < l.length := by simpa using hi
    have ih := rowOf_get hf l i hi' j hj
    show (f x ++ rowOf f l)[(i + 1) * k + j]? = (f l[i])[j]?
    have e : (i + 1) * k + j - k = i * k + j := by rw [Nat.add_mul, Nat.one_mul]; omega
    rw [List.getElem?_append_right (by rw [hf, Nat.add_mul, Nat.one_mul]; omega), hf, e, ih]
theorem rowOf_one (hu : ∀ x, ∀ u ∈ f x, u.oneCell' = true) (l : List α) : ∀ u ∈ rowOf f l, u.oneCell' = true := by
  intro u h
  obtain ⟨x, _, hx⟩ := List.mem_flatMap.1 h
  exact hu x u hx
def RowAt (f : α → List Value) (k : Nat) (w : World) (ao : Option Addr) (l : List α) : Prop := ∀ i (_ : i < l.length), ∃ b off, ao = some ⟨b, off, none⟩ ∧ ∀ j u, (f l[i])[j]? = some u → w.cell? ⟨b, off + i * k + j, none⟩ = some u
theorem RowAt.keep {R : Nat → Prop} {w w' : World} {ao : Option Addr} {l : List α} (h : RowAt f k w ao l) (K : Keep R w w') (hn : ApartE R ao) : RowAt f k w' ao l := by
  intro i hi
  obtain ⟨b, off, e, h1⟩ := h i hi
  have hb := hn _ _ _ e
  exact ⟨b, off, e, fun j u hu => K.cell (h1 j u hu) hb⟩
theorem RowAt.keep0 {w w' : World} {ao : Option Addr} {l : List α} (h : RowAt f k w ao l) (K : Keep0 w w') : RowAt f k w' ao l := h.keep K (fun _ _ _ _ f => f)
theorem rowAt_nil (w : World) (ao : Option Addr) : RowAt f k w ao ([] : List α) := fun i hi => absurd hi (Nat.not_lt_zero i)
theorem RowAt.old (hf : ∀ x, (f x).length = k) (hk : 0 < k) {w : World} {ao : Option Addr} {l : List α} (h : RowAt f k w ao l) (hl : 0 < l.length) : ∀ g off m, ao = some ⟨g, off, m⟩ → g < w.heap.size := by
  intro g off m e
  obtain ⟨b, o, e', h1⟩ := h 0 hl
  rw [e] at e'
  cases e'
  have hx : 0 < (f l[0]).length := by rw [hf]; exact hk
  exact World.block_lt_of_cell? w _ (h1 0 _ (List.getElem?_eq_getElem hx))
theorem row_of_own (hf : ∀ x, (f x).length = k) (hk : 0 < k) {w : World} {B : Nat} {e : TypeId} {v : Value} {n : Nat} {l : List α} (h : w.ownsRow B e k v n (rowOf f l)) :
    ∃ ao cap, v = .slice ao l.length cap ∧ RowAt f k w ao l ∧ (∀ b off m, ao = some ⟨b, off, m⟩ → B ≤ b) ∧ l.length ≤ cap ∧ cap ≤ maxLen := by
  have hn : n = l.length := by
    have := h.1
    rw [rowOf_len hf] at this
    exact (Nat.eq_of_mul_eq_mul_right hk this).symm
  subst hn
  rcases h.2 with ⟨rfl, h0⟩ | ⟨g, cap, cur, rfl, hb, hg, hcap, hmax, hrest⟩
  · exact ⟨none, 0, by rw [h0], fun i hi => by omega, (fun b off m e => by cases e), by omega, Nat.zero_le _⟩
  · refine ⟨some ⟨g, 0, none⟩, cap, rfl, fun i hi => ⟨g, 0, rfl, fun j u hu => ?_⟩, (fun b off m e => by cases e; exact hb), hcap, hmax⟩
    have hj : j < k := by rw [← hf l[i]]; exact (List.getElem?_eq_some_iff.1 hu).1
    have := h.cells (g := g) rfl (i * k + j) u ((rowOf_get hf l i hi j hj).trans hu)
    rwa [add_plain, ← Nat.add_assoc] at this
theorem row_cells (hf : ∀ x, (f x).length = k) (hk : 0 < k) {w : World} {ao : Option Addr} {l : List α} (h : RowAt f k w ao l) (hne : 0 < l.length) : ∃ b off, ao = some ⟨b, off, none⟩ ∧ ∀ j u, (rowOf f l)[j]? = some u → w.cell? ((⟨b, off, none⟩ : Addr).add j) = some u := by
  obtain ⟨b, off, rfl, _⟩ := h 0 hne
  refine ⟨b, off, rfl, fun j u hu => ?_⟩
  have hj : j < (rowOf f l).length := (List.getElem?_eq_some_iff.1 hu).1
  rw [rowOf_len hf] at hj
  have hi : j / k < l.length := Nat.div_lt_of_lt_mul (by rw [Nat.mul_comm]; exact hj)
  have hr : j % k < k := Nat.mod_lt _ hk
  have ej : j / k * k + j % k = j := by rw [Nat.mul_comm]; exact Nat.div_add_mod j k
  obtain ⟨b', off', e, h0⟩ := h (j / k) hi
  cases e
  have hu' := rowOf_get hf l (j / k) hi (j % k) hr
  rw [ej, hu] at hu'
  rw [add_plain]
  have := h0 (j % k) u hu'.symm
  rw [Nat.add_assoc, ej] at this
  exact this
structure ElemT (f : α → List Value) (k : Nat) (T E : TypeId) : Prop where
  len : ∀ x, (f x).length = k
  pos : 0 < k
  one : ∀ x, ∀ u ∈ f x, u.oneCell' = true
  slice : Tryz.prog.underlying T = some (.slice E)
  info : ∃ (i0 : TypeInfo) (z : Value) (bytes : Nat), Tryz.prog.info? E = some i0 ∧ i0.zero = some z ∧ i0.size = k ∧ i0.bytes = bytes ∧ z.cells.size = k ∧ bytes ≤ 200
theorem keep_grown {w w' : World} {row : Option Nat} (h : w.grownBy w' row) : Keep (fun k => row = some k) w w' := by
  obtain ⟨h1, h2, h3, h4, h5⟩ := h
  exact ⟨h1, h2, h3, h4, fun k hk hn => h5 k hk (fun e => hn e.symm)⟩
theorem run_append_row_at {T E : TypeId} (t : ElemT f k T E) {w : World} {B : Nat} {v : Value} {l m : List α} {ao : Option Addr} {c : Nat} (ty : TypeId) (ho : w.ownsRow B E k v l.length (rowOf f l)) (hs : RowAt f k w ao m) (hB : B ≤ w.heap.size) (hlen : l.length + m.length ≤ 1000000) :
    ∃ v' w', (Builtin.append_ #[T, T] ty #[v, .slice ao m.length c]).run Tryz.prog w = .ok v' w' ∧ w'.ownsRow B E k v' (l ++ m).length (rowOf f (l ++ m)) ∧ w.grownBy w' v.ownBlock ∧ (v'.ownBlock = v.ownBlock ∨ v'.ownBlock = some w.heap.size) := by
  obtain ⟨i0, z, bytes, hi, z0, z1, z2, z3, z4⟩ := t.info
  have hb : (l.length + m.length) * bytes ≤ 140737488355328 := Nat.le_trans (Nat.mul_le_mul hlen z4) (by decide)
  have big : ∀ a, (∀ j u, (rowOf f m)[j]? = some u → w.cell? (Addr.add a j) = some u) → ∃ v' w', (Builtin.append_ #[T, T] ty #[v, .slice (some a) m.length c]).run Tryz.prog w = .ok v' w' ∧ w'.ownsRow B E k v' (l ++ m).length (rowOf f (l ++ m)) ∧ w.grownBy w' v.ownBlock ∧ (v'.ownBlock = v.ownBlock ∨ v'.ownBlock = some w.heap.size) := by
    intro a ha
    obtain ⟨v', w', h1, h2, h3, _, h5⟩ := run_append_own_at (P := Tryz.prog) w B T ty E i0 z k bytes t.slice hi z0 z1 z2 z3 t.pos v l.length (rowOf f l) ho a m.length c (rowOf f m) (rowOf_len t.len m) ha (rowOf_one t.one m) (by unfold maxLen; omega) hb hB
    exact ⟨v', w', h1, by rw [rowOf_app, List.length_append]; exact h2, h3, h5⟩
  by_cases hm : 0 < m.length
  · obtain ⟨b, off, rfl, hc⟩ := row_cells t.len t.pos hs hm
    exact big _ hc
  · have hm' : m = [] := List.eq_nil_of_length_eq_zero (by omega)
    subst hm'
    cases ao with
    | some a => exact big a (fun j u hu => by cases hu)
    | none =>
      have hsrc : Src Tryz.prog i0.size T (.slice none 0 c) 0 [] w := Src.ofNil w t.slice c
      have hv : ∃ base n cap, v = .slice base n cap ∧ n ≤ cap := by
        rcases ho.2 with ⟨e, _⟩ | ⟨g, cp, cur, e, _, _, hc, _⟩
        · exact ⟨_, _, _, e, Nat.le_refl _⟩
        · exact ⟨_, _, _, e, hc⟩
      obtain ⟨base, n, cap, rfl, hle⟩ := hv
      refine ⟨_, w, run_append_nothing w T T ty E i0 t.slice hi base n cap hle _ hsrc, ?_, ⟨rfl, rfl, rfl, Nat.le_refl _, fun _ _ _ => rfl⟩, .inl rfl⟩
      rw [List.append_nil]
      exact ho
theorem wpList_append_row_at {T E : TypeId} (t : ElemT f k T E) {w : World} {ops : Array Oper} {rest : List Oper} {o : Oper} {a : Act} {Q : Exit → Act → World → Prop} (hgd : o.guard = none) (s x : Operand)
    (ho : o.op = .call { callee := .builtin .append, args := #[s, x], argTypes := #[T, T] }) {B : Nat} {v : Value} {l m : List α} {ao : Option Addr} {c : Nat}
    (hs : a.eval s = v) (hx : a.eval x = .slice ao m.length c) (hown : w.ownsRow B E k v l.length (rowOf f l)) (hsrc : RowAt f k w ao m) (hB : B ≤ w.heap.size) (hlen : l.length + m.length ≤ 1000000)
    (h : ∀ v' w', w'.ownsRow B E k v' (l ++ m).length (rowOf f (l ++ m)) → w.grownBy w' v.ownBlock → (v'.ownBlock = v.ownBlock ∨ v'.ownBlock = some w.heap.size) → wpList Tryz.prog ops Q rest (a.put o.dst v') w') : wpList Tryz.prog ops Q (o :: rest) a w :=
  wpList_plain hgd fun _ hK => by
    obtain ⟨v', w', hr, h2, h3, h4⟩ := run_append_row_at t (c := c) o.type hown hsrc hB hlen
    unfold Oper.wp execOp
    simp only [ho, resolve, invoke, builtin, Sem.run_bind, Sem.run_pure, Result.andThen_ok, List.map_toArray, List.map_cons, List.map_nil, hs, hx, hr]
    exact hK _ _ (h v' w' h2 h3 h4)
theorem step_append_row {T E : TypeId} (t : ElemT f k T E) {w : World} {ops : Array Oper} {o : Oper} {a : Act} {K : Act → World → Prop} {Q : Exit → Act → World → Prop} {X : Prop} (hgd : o.guard = none) (s x : Operand)
    (ho : o.op = .call { callee := .builtin .append, args := #[s, x], argTypes := #[T, T] }) {B : Nat} {v : Value} {l m : List α} {ao : Option Addr} {c n : Nat}
    (hs : a.eval s = v) (hx : a.eval x = .slice ao n c) (hn : n = m.length) (hown : w.ownsRow B E k v l.length (rowOf f l)) (hsrc : RowAt f k w ao m) (hB : B ≤ w.heap.size) (hlen : l.length + m.length ≤ 1000000)
    (h : ∀ v' w', w'.ownsRow B E k v' (l ++ m).length (rowOf f (l ++ m)) → w.grownBy w' v.ownBlock → (v'.ownBlock = v.ownBlock ∨ v'.ownBlock = some w.heap.size) → K (a.put o.dst v') w') :
    if Region.wanted o (yielded ops a.tmps) = true then Oper.wp Tryz.prog o a w K Q else X := by
  have hw : Region.wanted o (yielded ops a.tmps) = true := by simp [Region.wanted, hgd]
  rw [if_pos hw]
  subst hn
  obtain ⟨v', w', hr, h2, h3, h4⟩ := run_append_row_at t (c := c) o.type hown hsrc hB hlen
  unfold Oper.wp execOp
  simp only [ho, resolve, invoke, builtin, Sem.run_bind, Sem.run_pure, Result.andThen_ok, List.map_toArray, List.map_cons, List.map_nil, hs, hx, hr]
  exact h v' w' h2 h3 h4
theorem RowAt.take {w : World} {ao : Option Addr} {l : List α} (h : RowAt f k w ao l) (n : Nat) : RowAt f k w ao (l.take n) := by
  intro i hi
  have hi' : i < l.length := by rw [List.length_take] at hi; omega
  obtain ⟨b, off, e, h1⟩ := h i hi'
  rw [List.getElem_take]
  exact ⟨b, off, e, h1⟩
theorem RowAt.drop {w : World} {b off : Nat} {l : List α} (h : RowAt f k w (some ⟨b, off, none⟩) l) (n : Nat) : RowAt f k w (some ⟨b, off + n * k, none⟩) (l.drop n) := by
  intro i hi
  have hi' : n + i < l.length := by rw [List.length_drop] at hi; omega
  obtain ⟨b', off', e, h1⟩ := h (n + i) hi'
  cases e
  refine ⟨b, off + n * k, rfl, fun j u hu => ?_⟩
  rw [List.getElem_drop] at hu
  have := h1 j u hu
  rw [Nat.add_mul, ← Nat.add_assoc] at this
  exact this
theorem row_made (w : World) (e : TypeId) : (w.alloc (.cells #[] e)).ownsRow w.heap.size e k (.slice (some ⟨w.heap.size, 0, none⟩) 0 0) ([] : List α).length (rowOf f []) :=
  ⟨by show 0 = 0 * k; rw [Nat.zero_mul], .inr ⟨w.heap.size, 0, #[], rfl, Nat.le_refl _, (MapKept.heap_alloc w (.cells #[] e)).1, Nat.le_refl _, Nat.zero_le _, by rw [Nat.zero_mul]; rfl, by show List.take (0 * k) [] = []; simp⟩⟩
end
theorem rowE_own {R : Nat → Prop} {w w' : World} {B : Nat} {e : TypeId} {k : Nat} {v : Value} {n : Nat} {xs : List Value} (h : w.ownsRow B e k v n xs) (K : Keep R w w') (hn : ∀ g, v.ownBlock = some g → ¬ R g) : w'.ownsRow B e k v n xs := by
  refine ⟨h.1, ?_⟩
  rcases h.2 with h0 | ⟨g, cap, cur, rfl, hb, hg, rest⟩
  · exact .inl h0
  · exact .inr ⟨g, cap, cur, rfl, hb, by rw [K.block g (Array.getElem?_eq_some_iff.mp hg).1 (hn g rfl)]; exact hg, rest⟩
end Go.Proofs.YtoefibkhlhmlfaaGreat
namespace Go.Proofs.YtoefibkhlhmlfaaGreat
open Go.RowKit
def Fits (l : List En) : Prop := l.length ≤ maxLen ∧ ∀ x ∈ l, x.a.size ≤ maxLen ∧ x.n < 18446744073709551616
def vSame : List En → List En → Bool
  | [], [] => true
  | x :: l, y :: m => if x.a = y.a ∧ x.n = y.n then vSame l m else false
  | _, _ => false
theorem vSame_iff : ∀ {l m : List En}, vSame l m = true ↔ l = m
  | [], [] => ⟨fun _ => rfl, fun _ => rfl⟩
  | [], _ :: _ => ⟨fun h => (by cases h), fun h => (by cases h)⟩
  | _ :: _, [] => ⟨fun h => (by cases h), fun h => (by cases h)⟩
  | x :: l, y :: m => by
    rw [vSame]
    by_cases h : x.a = y.a ∧ x.n = y.n
    · rw [if_pos h, vSame_iff, En.eq h.1 h.2]
      exact ⟨fun e => by rw [e], fun e => by cases e; rfl⟩
    · rw [if_neg h]
      exact ⟨fun e => (by cases e), fun e => absurd (by cases e; exact ⟨rfl, rfl⟩) h⟩
theorem vSame_len {l m : List En} (h : l.length ≠ m.length) : vSame l m = false := by
  cases hb : vSame l m with
  | false => rfl
  | true => exact absurd (by rw [vSame_iff.1 hb]) h
theorem txt_ne {a b : ByteArray} (h : a ≠ b) : (a.toList == b.toList) = false ∧ (a.data.toList == b.data.toList) = false ∧ ¬ a = b := by
  have e : a.data.toList ≠ b.data.toList := fun e => h (ByteArray.ext (Array.toList_inj.1 e))
  refine ⟨?_, beq_eq_false_iff_ne.2 e, h⟩
  rw [ByteArray.toList_eq, ByteArray.toList_eq]
  exact beq_eq_false_iff_ne.2 e
theorem count_drop {l : List En} {k : Nat} (hk : k < l.length) (s : ByteArray) : vCount (l.drop k) s = if l[k].a = s then l[k].n else vCount (l.drop (k + 1)) s := by
  rw [List.drop_eq_getElem_cons hk, count_cons]
set_option maxRecDepth 100000 in
theorem rcount10 (w : World) (ao : Option Addr) (cap : Nat) (l : List En) (hl : l.length ≤ maxLen) (hc : EnsAt w ao l) (s : ByteArray) :
    Calls Tryz.prog 116 #[.slice ao l.length cap, .string s] w fun e w' => e = .returned (.int .u64 (vCount l s : Int)) ∧ w = w' := by
  have HC : Hid (EnsAt w ao l) := hc
  have hl' : (l.length : Int) ≤ 9223372036854775807 := by unfold maxLen at hl; omega
  obtain ⟨r, hr⟩ : ∃ r, vCount l s = r := ⟨_, rfl⟩
  rw [hr]
  have HR : Hid (vCount (l.drop 0) s = r) := hr
  clear hc hr
  go_enter Tryz.func116, Tryz.ntmps116
  go_wp2_with fail
  go_loopw [5] (fun i wr => ∃ (k : Nat), i = .int .i64 (k : Int) ∧ k ≤ l.length ∧ Hid (vCount (l.drop k) s = r) ∧ wr = w) (fun i _ => l.length - (intOf i).toNat)
  case atStart => exact ⟨0, rfl, by omega, HR, rfl⟩
  case round =>
    obtain ⟨k, rfl, hk, HK, rfl⟩ := hrel
    by_cases hlt : k < l.length
    · have i1 : (k : Int) < l.length := by omega
      obtain ⟨b, off, rfl, x0, x1⟩ := HC.out k hlt
      have hd := HK.out
      rw [count_drop hlt] at hd
      by_cases h1 : l[k].a = s
      · rw [if_pos h1] at hd
        have HD : Hid (l[k].n = r) := hd
        rw [h1] at x0
        clear hd HK h1
        generalize l[k].n = N at *
        go_wp2
        go_ret
        exact ⟨by rw [HD.out]; rfl, rfl⟩
      · rw [if_neg h1] at hd
        have HD : Hid (vCount (l.drop (k + 1)) s = r) := hd
        obtain ⟨e1, e2, e3⟩ := txt_ne h1
        clear hd HK x1
        generalize l[k].a = A at *
        go_wp2
        go_roundw
        case rel => exact ⟨k + 1, by go_num, by omega, HD, by first | rfl | trivial⟩
        case measure => simp [intOf]; omega
    · have i1 : ¬ (k : Int) < l.length := by omega
      have hd := HK.out
      rw [List.drop_eq_nil_of_le (by omega), count_nil] at hd
      have HD : Hid (0 = r) := hd
      clear hd HK
      go_wp2
      go_ret
      exact ⟨by rw [← HD.out]; rfl, rfl⟩
theorem same_drop {l m : List En} {k : Nat} (hk : k < l.length) (hm : k < m.length) : vSame (l.drop k) (m.drop k) = if l[k].a = m[k].a ∧ l[k].n = m[k].n then vSame (l.drop (k + 1)) (m.drop (k + 1)) else false := by
  rw [List.drop_eq_getElem_cons hk, List.drop_eq_getElem_cons hm, vSame]
set_option maxRecDepth 100000 in
theorem rsame10 (w : World) (ao bo : Option Addr) (ca cb : Nat) (l m : List En) (hl : l.length ≤ maxLen) (hm : m.length ≤ maxLen) (ha : EnsAt w ao l) (hb : EnsAt w bo m) :
    Calls Tryz.prog 41 #[.slice ao l.length ca, .slice bo m.length cb] w fun e w' => e = .returned (.bool (vSame l m)) ∧ ∃ n, w' = w.drewN n := by
  have HA : Hid (EnsAt w ao l) := ha
  have HB : Hid (EnsAt w bo m) := hb
  have hl' : (l.length : Int) ≤ 9223372036854775807 := by unfold maxLen at hl; omega
  have hm' : (m.length : Int) ≤ 9223372036854775807 := by unfold maxLen at hm; omega
  clear ha hb
  by_cases he : l.length = m.length
  · obtain ⟨r, hr⟩ : ∃ r, vSame l m = r := ⟨_, rfl⟩
    rw [hr]
    have HR : Hid (vSame (l.drop 0) (m.drop 0) = r) := hr
    have HE : Hid (l.length = m.length) := he
    have i0 : ((l.length : Int) != (m.length : Int)) = false := by simp [he]
    clear hr he
    go_enter Tryz.func41, Tryz.ntmps41
    go_wp2_with fail
    go_loopw [5] (fun i wr => ∃ (k : Nat), i = .int .i64 (k : Int) ∧ k ≤ l.length ∧ Hid (vSame (l.drop k) (m.drop k) = r) ∧ ∃ n, wr = w.drewN n) (fun i _ => l.length - (intOf i).toNat)
    case atStart => exact ⟨0, rfl, by omega, HR, 0, rfl⟩
    case round =>
      obtain ⟨k, rfl, hk, HK, hWr⟩ := hrel
      have kr := keepN hWr
      have HW : Hid (∃ n, wr = w.drewN n) := hWr
      have he := HE.out
      clear hWr
      by_cases hlt : k < l.length
      · have i1 : (k : Int) < l.length := by omega
        have i2 : (k : Int) < m.length := by omega
        have hkm : k < m.length := by omega
        obtain ⟨b1, o1, rfl, p0, p1⟩ := HA.out k hlt
        obtain ⟨b2, o2, rfl, q0, q1⟩ := HB.out k hkm
        have x0 := kr.cell p0 (fun f => f)
        have x1 := kr.cell p1 (fun f => f)
        have y0 := kr.cell q0 (fun f => f)
        have y1 := kr.cell q1 (fun f => f)
        clear p0 p1 q0 q1
        have hd := HK.out
        rw [same_drop hlt hkm] at hd
        by_cases h1 : l[k].a = m[k].a
        · by_cases h2 : l[k].n = m[k].n
          · rw [if_pos ⟨h1, h2⟩] at hd
            have HD : Hid (vSame (l.drop (k + 1)) (m.drop (k + 1)) = r) := hd
            rw [← h1] at y0
            rw [← h2] at y1
            generalize l[k].a = A at *
            generalize l[k].n = N at *
            clear hd HK kr he h1 h2 HA HB
            go_wp2_with fail
            go_quiet (fail)
            go_wp2
            go_roundw
            case rel => exact ⟨k + 1, by go_num, by omega, HD, drewN_on HW.out _⟩
            case measure => simp [intOf]; omega
          · rw [if_neg (fun h => h2 h.2)] at hd
            have HD : Hid (false = r) := hd
            rw [← h1] at y0
            have e2 : ((l[k].n : Int) == (m[k].n : Int)) = false := by simp; omega
            have e3 : ¬ ((l[k].n : Int) = (m[k].n : Int)) := by omega
            generalize l[k].a = A at *
            generalize (l[k].n : Int) = N at *
            generalize (m[k].n : Int) = M at *
            clear hd HK kr he h1 h2 HA HB
            go_wp2_with fail
            go_quiet (fail)
            go_wp2
            go_ret
            exact ⟨by rw [← HD.out]; rfl, drewN_on HW.out _⟩
        · rw [if_neg (fun h => h1 h.1)] at hd
          have HD : Hid (false = r) := hd
          obtain ⟨e2, e3, e4⟩ := txt_ne h1
          generalize l[k].a = A at *
          generalize m[k].a = A2 at *
          generalize (l[k].n : Int) = N at *
          generalize (m[k].n : Int) = M at *
          clear hd HK kr he HA HB
          go_wp2_with fail
          go_quiet (fail)
          go_wp2
          go_ret
          exact ⟨by rw [← HD.out]; rfl, drewN_on HW.out _⟩
      · have i1 : ¬ (k : Int) < l.length := by omega
        have hd := HK.out
        rw [List.drop_eq_nil_of_le (by omega), List.drop_eq_nil_of_le (by omega)] at hd
        have HD : Hid (true = r) := hd
        clear hd HK kr he
        go_wp2
        go_ret
        exact ⟨by rw [← HD.out]; rfl, HW.out⟩
  · rw [vSame_len he]
    have i0 : ((l.length : Int) != (m.length : Int)) = true := by simp; omega
    go_enter Tryz.func41, Tryz.ntmps41
    go_wp2
    go_ret
    exact ⟨rfl, 0, rfl⟩
end Go.Proofs.YtoefibkhlhmlfaaGreat
namespace Go.Proofs.YtoefibkhlhmlfaaGreat
open Go.RowKit
structure QAt (w : World) (g : Nat) (v0 v1 v2 v3 : Value) : Prop where
  blk : ∃ ty, w.heap[g]? = some (.cells #[v0, v1, v2, v3] ty)
section
variable {w : World} {g : Nat} {v0 v1 v2 v3 : Value}
theorem QAt.lt (h : QAt w g v0 v1 v2 v3) : g < w.heap.size := by
  obtain ⟨ty, hk⟩ := h.blk
  exact (Array.getElem?_eq_some_iff.mp hk).1
theorem QAt.cells (h : QAt w g v0 v1 v2 v3) : w.cell? ⟨g, 0, none⟩ = some v0 ∧ w.cell? ⟨g, 1, none⟩ = some v1 ∧ w.cell? ⟨g, 2, none⟩ = some v2 ∧ w.cell? ⟨g, 3, none⟩ = some v3 ∧ w.frozen? ⟨g, 0, none⟩ = false ∧ w.frozen? ⟨g, 1, none⟩ = false ∧ w.frozen? ⟨g, 2, none⟩ = false ∧ w.frozen? ⟨g, 3, none⟩ = false := by
  obtain ⟨ty, hk⟩ := h.blk
  simp [World.cell?, World.frozen?, hk]
theorem QAt.keep {R : Nat → Prop} {w' : World} (h : QAt w g v0 v1 v2 v3) (K : Keep R w w') (hn : ¬ R g) : QAt w' g v0 v1 v2 v3 := by
  obtain ⟨ty, hk⟩ := h.blk
  exact ⟨ty, by rw [K.block g h.lt hn]; exact hk⟩
theorem QAt.keep0 {w' : World} (h : QAt w g v0 v1 v2 v3) (K : Keep0 w w') : QAt w' g v0 v1 v2 v3 := h.keep K (fun f => f)
theorem QAt.new (w : World) (ty : TypeId) (v0 v1 v2 v3 : Value) : QAt (w.alloc (.cells #[v0, v1, v2, v3] ty)) w.heap.size v0 v1 v2 v3 := ⟨ty, (MapKept.heap_alloc w _).1⟩
theorem QAt.set0 (h : QAt w g v0 v1 v2 v3) (u : Value) : QAt (w.setCell ⟨g, 0, none⟩ u) g u v1 v2 v3 := by
  obtain ⟨ty, hk⟩ := h.blk
  exact ⟨ty, by rw [heap_setCell_at hk]; rfl⟩
theorem QAt.set1 (h : QAt w g v0 v1 v2 v3) (u : Value) : QAt (w.setCell ⟨g, 1, none⟩ u) g v0 u v2 v3 := by
  obtain ⟨ty, hk⟩ := h.blk
  exact ⟨ty, by rw [heap_setCell_at hk]; rfl⟩
theorem QAt.set2 (h : QAt w g v0 v1 v2 v3) (u : Value) : QAt (w.setCell ⟨g, 2, none⟩ u) g v0 v1 u v3 := by
  obtain ⟨ty, hk⟩ := h.blk
  exact ⟨ty, by rw [heap_setCell_at hk]; rfl⟩
theorem QAt.set3 (h : QAt w g v0 v1 v2 v3) (u : Value) : QAt (w.setCell ⟨g, 3, none⟩ u) g v0 v1 v2 u := by
  obtain ⟨ty, hk⟩ := h.blk
  exact ⟨ty, by rw [heap_setCell_at hk]; rfl⟩
theorem QAt.put (h : QAt w g v0 v1 v2 v3) (u0 u1 u2 u3 : Value) : QAt ((((w.setCell ⟨g, 0, none⟩ u0).setCell ⟨g, 1, none⟩ u1).setCell ⟨g, 2, none⟩ u2).setCell ⟨g, 3, none⟩ u3) g u0 u1 u2 u3 := (((h.set0 u0).set1 u1).set2 u2).set3 u3
end
theorem put4_keep (w : World) (g : Nat) (u0 u1 u2 u3 : Value) : Keep1 g w ((((w.setCell ⟨g, 0, none⟩ u0).setCell ⟨g, 1, none⟩ u1).setCell ⟨g, 2, none⟩ u2).setCell ⟨g, 3, none⟩ u3) :=
  ((((Keep.refl _ w).set1 _ _).set1 _ _).set1 _ _).set1 _ _
theorem set_keep1 (w : World) (g i : Nat) (u : Value) : Keep1 g w (w.setCell ⟨g, i, none⟩ u) := (Keep.refl _ w).set1 _ _
end Go.Proofs.YtoefibkhlhmlfaaGreat
