/-
  What this seat's claims lean on of the texts DotMem, PairMem, RefPairs.
  Conditions: as each theorem states.
-/
import Derived.WalkKit
import Derived.ProofKit
import Derived.Below
import Derived.Deep.Draws
import Derived.Deep.RegionHeld
import Derived.Test.YteonkfedgopdiaaGreatChecked
import Derived.OpenShut
import Derived.ShutString
import Derived.WalkSpells
import Derived.WalkLawsBesides
import Derived.Deep.QuietTactic
import Derived.BigQuiet
import Derived.Laws.Bits64b
import Derived.PlainAid
import Derived.Lib.AppendStr
import Derived.Deep.AppendLies
import Derived.Laws.IdiomStrings
import Derived.Laws.BytesArg
import Derived.Deep.RegionWith
import Derived.Laws.AppendOwn
import Derived.Deep.DeepAppendWide
import Derived.Deep.Upon
import Derived.Test.YteonkfedgopdiaaGreatZ7
import Derived.Test.YteonkfedgopdiaaGreatZ10
import Derived.Test.YteonkfedgopdiaaGreatZ11
import Derived.Test.YteonkfedgopdiaaGreatZ8
namespace Go.Proofs.YteonkfedgopdiaaGreat
open Go.RowKit
def Ck.cells (k : Ck) (ao : Option Addr) (cap : Nat) : List Value := [.slice ao k.c.length cap, .bool k.d, .string k.x.a, .int .u64 (k.x.n : Int)]
structure FitsK (k : Ck) : Prop where
  vec : Fits k.c
  dot : k.x.a.size ≤ maxLen
  num : k.x.n < 18446744073709551616
def ClkAt (w : World) (b off : Nat) (k : Ck) (ao : Option Addr) (cap : Nat) : Prop := w.cell? ⟨b, off, none⟩ = some (.slice ao k.c.length cap) ∧ w.cell? ⟨b, off + 1, none⟩ = some (.bool k.d) ∧ w.cell? ⟨b, off + 2, none⟩ = some (.string k.x.a) ∧ w.cell? ⟨b, off + 3, none⟩ = some (.int .u64 (k.x.n : Int))
theorem ClkAt.keep0 {w w' : World} {b off : Nat} {k : Ck} {ao : Option Addr} {cap : Nat} (h : ClkAt w b off k ao cap) (K : Keep0 w w') : ClkAt w' b off k ao cap :=
  ⟨K.cell h.1 (fun f => f), K.cell h.2.1 (fun f => f), K.cell h.2.2.1 (fun f => f), K.cell h.2.2.2 (fun f => f)⟩
theorem clk_new (w : World) (t : TypeId) (k : Ck) (ao : Option Addr) (cap : Nat) : ClkAt (w.alloc (.cells #[.slice ao k.c.length cap, .bool k.d, .string k.x.a, .int .u64 (k.x.n : Int)] t)) w.heap.size 0 k ao cap :=
  ⟨cell_alloc w t rfl, cell_alloc w t rfl, cell_alloc w t rfl, cell_alloc w t rfl⟩
def ClksAt (w : World) (ao : Option Addr) (l : List Ck) : Prop := ∀ i (_ : i < l.length), ∃ b off vo c, ao = some ⟨b, off, none⟩ ∧ ClkAt w b (off + i * 4) l[i] vo c ∧ EnsAt w vo l[i].c
theorem ClksAt.keep0 {w w' : World} {ao : Option Addr} {l : List Ck} (h : ClksAt w ao l) (K : Keep0 w w') : ClksAt w' ao l := by
  intro i hi
  obtain ⟨b, off, vo, c, e, h1, h2⟩ := h i hi
  exact ⟨b, off, vo, c, e, h1.keep0 K, h2.keep0 K⟩
theorem empty_ne12 {a : ByteArray} (h : a.size ≠ 0) : a.toList.isEmpty = false := by
  rw [ByteArray.toList_eq]
  cases hb : a.data.toList with
  | nil => exact absurd (by show a.data.size = 0; rw [← Array.length_toList, hb]; rfl) h
  | cons x l => rfl
theorem empty_eq12 {a : ByteArray} (h : a.size = 0) : a = ⟨#[]⟩ := ByteArray.ext (Array.eq_empty_of_size_eq_zero h)
theorem check_bad {k : Ck} (h : vCheck k.c ≠ 0) : kCheck k = vCheck k.c := if_neg h
theorem check_dot {k : Ck} (h : vCheck k.c = 0) : kCheck k = kDot k := if_pos h
theorem dot_p0 {k : Ck} (hd : k.d = false) (h : k.x.a.size = 0) (h1 : k.x.n = 0) : kDot k = 0 := by unfold kDot; rw [hd, if_neg (by decide), if_pos ⟨h, h1⟩]
theorem dot_p1 {k : Ck} (hd : k.d = false) (h : ¬ (k.x.a.size = 0 ∧ k.x.n = 0)) : kDot k = 1 := by unfold kDot; rw [hd, if_neg (by decide), if_neg h]
theorem dot_3 {k : Ck} (hd : k.d = true) (h : 32 < k.x.a.size) : kDot k = 3 := by unfold kDot; rw [hd, if_pos rfl, if_pos h]
theorem dot_14 {k : Ck} (hd : k.d = true) (h : k.x.a.size = 0) : kDot k = 14 := by unfold kDot; rw [hd, if_pos rfl, if_neg (by omega), if_pos h]
theorem dot_7 {k : Ck} (hd : k.d = true) (h : ¬ 32 < k.x.a.size) (h1 : k.x.a.size ≠ 0) (h2 : k.x.n = 0) : kDot k = 7 := by unfold kDot; rw [hd, if_pos rfl, if_neg h, if_neg h1, if_pos h2]
theorem dot_15 {k : Ck} (hd : k.d = true) (h : ¬ 32 < k.x.a.size) (h1 : k.x.a.size ≠ 0) (h2 : k.x.n ≠ 0) (h3 : k.x.n ≤ vCount k.c k.x.a) : kDot k = 15 := by unfold kDot; rw [hd, if_pos rfl, if_neg h, if_neg h1, if_neg h2, if_pos h3]
theorem dot_0 {k : Ck} (hd : k.d = true) (h : ¬ 32 < k.x.a.size) (h1 : k.x.a.size ≠ 0) (h2 : k.x.n ≠ 0) (h3 : ¬ k.x.n ≤ vCount k.c k.x.a) : kDot k = 0 := by unfold kDot; rw [hd, if_pos rfl, if_neg h, if_neg h1, if_neg h2, if_neg h3]
end Go.Proofs.YteonkfedgopdiaaGreat
namespace Go.Proofs.YteonkfedgopdiaaGreat
open Go.RowKit
def Pr.cells (x : Pr) : List Value := [.string x.n, .string x.v]
def Pr.val (x : Pr) : Value := .agg #[.string x.n, .string x.v]
def PrsAt (w : World) (ao : Option Addr) (l : List Pr) : Prop := ∀ i (_ : i < l.length), ∃ b off, ao = some ⟨b, off, none⟩ ∧
  w.cell? ⟨b, off + i * 2, none⟩ = some (.string l[i].n) ∧ w.cell? ⟨b, off + i * 2 + 1, none⟩ = some (.string l[i].v)
theorem PrsAt.keep {R : Nat → Prop} {w w' : World} {ao : Option Addr} {l : List Pr} (h : PrsAt w ao l) (K : Keep R w w') (hn : ApartE R ao) : PrsAt w' ao l := by
  intro i hi
  obtain ⟨b, off, e, h1, h2⟩ := h i hi
  have hb := hn _ _ _ e
  exact ⟨b, off, e, K.cell h1 hb, K.cell h2 hb⟩
theorem PrsAt.keep0 {w w' : World} {ao : Option Addr} {l : List Pr} (h : PrsAt w ao l) (K : Keep0 w w') : PrsAt w' ao l := h.keep K (fun _ _ _ _ f => f)
theorem prs_nil (w : World) (ao : Option Addr) : PrsAt w ao [] := fun i hi => absurd hi (Nat.not_lt_zero i)
def prCells (l : List Pr) : List Value := l.flatMap Pr.cells
theorem prCells_len (l : List Pr) : (prCells l).length = l.length * 2 := by
  induction l with
  | nil => rfl
  | cons f l ih =>
    show (f.cells ++ prCells l).length = _
    rw [List.length_append, ih, List.length_cons]
    show 2 + _ = _
    omega
theorem prCells_app (l r : List Pr) : prCells (l ++ r) = prCells l ++ prCells r := List.flatMap_append
theorem prCells_get : ∀ (l : List Pr) (i : Nat) (hi : i < l.length) (j : Nat), j < 2 → (prCells l)[i * 2 + j]? = l[i].cells[j]?
  | f :: l, 0, _, j, hj => by
    show (f.cells ++ prCells l)[0 * 2 + j]? = f.cells[j]?
    rw [Nat.zero_mul, Nat.zero_add, List.getElem?_append_left (by show j < 2; exact hj)]
  | f :: l, i + 1, hi, j, hj => by
    have hi' : i < l.length := by simpa using hi
    have ih := prCells_get l i hi' j hj
    show (f.cells ++ prCells l)[(i + 1) * 2 + j]? = l[i].cells[j]?
    have e : f.cells.length = 2 := rfl
    rw [List.getElem?_append_right (by rw [e]; omega), e, show (i + 1) * 2 + j - 2 = i * 2 + j from by omega, ih]
theorem prCells_one (l : List Pr) : ∀ u ∈ prCells l, u.oneCell' = true := by
  intro u hu
  unfold prCells at hu
  obtain ⟨f, _, hf⟩ := List.mem_flatMap.1 hu
  simp only [Pr.cells, List.mem_cons, List.mem_nil_iff, or_false] at hf
  rcases hf with rfl | rfl <;> rfl
theorem prs_of_row {w : World} {B : Nat} {e : TypeId} {v : Value} {n : Nat} {l : List Pr} (h : w.ownsRow B e 2 v n (prCells l)) :
    ∃ ao cap, v = .slice ao l.length cap ∧ PrsAt w ao l ∧ (∀ b off m, ao = some ⟨b, off, m⟩ → B ≤ b) ∧ l.length ≤ cap := by
  have hn : n = l.length := by have := h.1; rw [prCells_len] at this; omega
  subst hn
  rcases h.2 with ⟨rfl, h0⟩ | ⟨g, cap, cur, rfl, hb, hg, hcap, hrest⟩
  · exact ⟨none, 0, by rw [h0], fun i hi => by omega, (fun b off m e => by cases e), by omega⟩
  · refine ⟨some ⟨g, 0, none⟩, cap, rfl, fun i hi => ⟨g, 0, rfl, ?_⟩, (fun b off m e => by cases e; exact hb), hcap⟩
    have hc := h.cells (g := g) rfl
    have k : ∀ j u, j < 2 → l[i].cells[j]? = some u → w.cell? ⟨g, 0 + i * 2 + j, none⟩ = some u := by
      intro j u hj hu
      have := hc (i * 2 + j) u ((prCells_get l i hi j hj).trans hu)
      rwa [add_plain, ← Nat.add_assoc] at this
    exact ⟨k 0 _ (by decide) rfl, k 1 _ (by decide) rfl⟩
theorem prs_cells {w : World} {ao : Option Addr} {l : List Pr} (h : PrsAt w ao l) (hne : 0 < l.length) : ∃ b off, ao = some ⟨b, off, none⟩ ∧ ∀ j u, (prCells l)[j]? = some u → w.cell? ((⟨b, off, none⟩ : Addr).add j) = some u := by
  obtain ⟨b, off, rfl, _⟩ := h 0 hne
  refine ⟨b, off, rfl, fun j u hu => ?_⟩
  have hj : j < (prCells l).length := (List.getElem?_eq_some_iff.1 hu).1
  rw [prCells_len] at hj
  have hi : j / 2 < l.length := by omega
  have hr : j % 2 < 2 := Nat.mod_lt _ (by decide)
  have ej : j / 2 * 2 + j % 2 = j := by omega
  obtain ⟨b', off', e, h0, h1⟩ := h (j / 2) hi
  cases e
  have hu' := prCells_get l (j / 2) hi (j % 2) hr
  rw [ej, hu] at hu'
  rw [add_plain]
  have hc : j % 2 = 0 ∨ j % 2 = 1 := by omega
  rcases hc with hc | hc
  · rw [hc] at hu'
    have : u = .string l[j / 2].n := by simpa [Pr.cells] using hu'
    rw [this, ← h0]
    congr 2
    omega
  · rw [hc] at hu'
    have : u = .string l[j / 2].v := by simpa [Pr.cells] using hu'
    rw [this, ← h1]
    congr 2
    omega
theorem pair_info : (Tryz.prog.info? 46).map (fun i => (i.zero, i.size, i.bytes)) = some (some (.agg #[.string ⟨#[]⟩, .string ⟨#[]⟩]), 2, 32) := by kernel_rfl
theorem run_append_prs {w : World} {B : Nat} {v : Value} {l m : List Pr} {ao : Option Addr} {c : Nat} (ty : TypeId) (ho : w.ownsRow B 46 2 v l.length (prCells l)) (hs : PrsAt w ao m) (hB : B ≤ w.heap.size) (hlen : l.length + m.length ≤ 1000000) :
    ∃ v' w', (Builtin.append_ #[42, 42] ty #[v, .slice ao m.length c]).run Tryz.prog w = .ok v' w' ∧ w'.ownsRow B 46 2 v' (l ++ m).length (prCells (l ++ m)) ∧ w.grownBy w' v.ownBlock := by
  obtain ⟨i0, hi, z0, z1, z2⟩ := info_parts pair_info
  have big : ∀ a, (∀ j u, (prCells m)[j]? = some u → w.cell? (Addr.add a j) = some u) → ∃ v' w', (Builtin.append_ #[42, 42] ty #[v, .slice (some a) m.length c]).run Tryz.prog w = .ok v' w' ∧ w'.ownsRow B 46 2 v' (l ++ m).length (prCells (l ++ m)) ∧ w.grownBy w' v.ownBlock := by
    intro a ha
    obtain ⟨v', w', h1, h2, h3, _⟩ := run_append_own_wide (P := Tryz.prog) w B 42 ty 46 i0 _ 2 32 Tryz.underlying42 hi z0 z1 z2 rfl (by decide) v l.length (prCells l) ho a m.length c (prCells m) (prCells_len m) ha (prCells_one m) (by unfold maxLen; omega) (by omega) hB
    exact ⟨v', w', h1, by rw [prCells_app, List.length_append]; exact h2, h3⟩
  by_cases hm : 0 < m.length
  · obtain ⟨b, off, rfl, hc⟩ := prs_cells hs hm
    exact big _ hc
  · have hm' : m = [] := List.eq_nil_of_length_eq_zero (by omega)
    subst hm'
    cases ao with
    | some a => exact big a (fun j u hu => by cases hu)
    | none =>
      have hsrc : Src Tryz.prog i0.size 42 (.slice none 0 c) 0 [] w := Src.ofNil w Tryz.underlying42 c
      have hv : ∃ base n cap, v = .slice base n cap ∧ n ≤ cap := by
        rcases ho.2 with ⟨e, _⟩ | ⟨g, cp, cur, e, _, _, hc, _⟩
        · exact ⟨_, _, _, e, Nat.le_refl _⟩
        · exact ⟨_, _, _, e, hc⟩
      obtain ⟨base, n, cap, rfl, hle⟩ := hv
      refine ⟨_, w, run_append_nothing w 42 42 ty 46 i0 Tryz.underlying42 hi base n cap hle _ hsrc, ?_, ⟨rfl, rfl, rfl, Nat.le_refl _, fun _ _ _ => rfl⟩⟩
      rw [List.append_nil]
      exact ho
theorem wpList_append_prs {w : World} {ops : Array Oper} {rest : List Oper} {o : Oper} {a : Act} {Q : Exit → Act → World → Prop} (hgd : o.guard = none) (s x : Operand)
    (ho : o.op = .call { callee := .builtin .append, args := #[s, x], argTypes := #[42, 42] }) {B : Nat} {v : Value} {l m : List Pr} {ao : Option Addr} {c : Nat}
    (hs : a.eval s = v) (hx : a.eval x = .slice ao m.length c) (hown : w.ownsRow B 46 2 v l.length (prCells l)) (hsrc : PrsAt w ao m) (hB : B ≤ w.heap.size) (hlen : l.length + m.length ≤ 1000000)
    (h : ∀ v' w', w'.ownsRow B 46 2 v' (l ++ m).length (prCells (l ++ m)) → w.grownBy w' v.ownBlock → wpList Tryz.prog ops Q rest (a.put o.dst v') w') : wpList Tryz.prog ops Q (o :: rest) a w :=
  wpList_plain hgd fun _ hK => by
    obtain ⟨v', w', hr, h2, h3⟩ := run_append_prs (c := c) o.type hown hsrc hB hlen
    unfold Oper.wp execOp
    simp only [ho, resolve, invoke, builtin, Sem.run_bind, Sem.run_pure, Result.andThen_ok, List.map_toArray, List.map_cons, List.map_nil, hs, hx, hr]
    exact hK _ _ (h v' w' h2 h3)
theorem pr_new (w : World) (t : TypeId) (x : Pr) : PrsAt (w.alloc (.cells #[.string x.n, .string x.v] t)) (some ⟨w.heap.size, 0, none⟩) [x] := by
  intro i hi
  obtain rfl : i = 0 := by simpa using hi
  exact ⟨w.heap.size, 0, rfl, cell_alloc w t rfl, cell_alloc w t rfl⟩
theorem rowP_mono {w : World} {B B' : Nat} {e : TypeId} {sz n : Nat} {v : Value} {xs : List Value} (h : w.ownsRow B e sz v n xs) (hb : B' ≤ B) : w.ownsRow B' e sz v n xs := by
  refine ⟨h.1, ?_⟩
  rcases h.2 with h0 | ⟨g, cap, cur, e1, h2, rest⟩
  · exact .inl h0
  · exact .inr ⟨g, cap, cur, e1, Nat.le_trans hb h2, rest⟩
theorem rowP_cap {w : World} {B : Nat} {e : TypeId} {sz n n' : Nat} {ao : Option Addr} {cap : Nat} {xs : List Value} (h : w.ownsRow B e sz (.slice ao n' cap) n xs) : n ≤ cap ∧ cap ≤ maxLen := by
  rcases h.2 with ⟨e1, e2⟩ | ⟨g, c, cur, e1, _, _, h3, h4, _⟩
  · cases e1
    exact ⟨by omega, Nat.zero_le _⟩
  · cases e1
    exact ⟨h3, h4⟩
end Go.Proofs.YteonkfedgopdiaaGreat
namespace Go.Proofs.YteonkfedgopdiaaGreat
open Go.RowKit
def FitsP (l : List Pr) : Prop := l.length ≤ maxLen ∧ ∀ x ∈ l, x.n.size ≤ maxLen ∧ x.v.size ≤ maxLen
def CapP (l : List Pr) (cap : Nat) : Prop := l.length ≤ cap ∧ cap ≤ maxLen
def qSame : List Pr → List Pr → Bool
  | [], [] => true
  | x :: l, y :: m => if x.n = y.n ∧ x.v = y.v then qSame l m else false
  | _, _ => false
theorem qSame_iff : ∀ {l m : List Pr}, qSame l m = true ↔ l = m
  | [], [] => ⟨fun _ => rfl, fun _ => rfl⟩
  | [], _ :: _ => ⟨fun h => (by cases h), fun h => (by cases h)⟩
  | _ :: _, [] => ⟨fun h => (by cases h), fun h => (by cases h)⟩
  | x :: l, y :: m => by
    rw [qSame]
    by_cases h : x.n = y.n ∧ x.v = y.v
    · rw [if_pos h, qSame_iff, Pr.eq h.1 h.2]
      exact ⟨fun e => by rw [e], fun e => by cases e; rfl⟩
    · rw [if_neg h]
      exact ⟨fun e => (by cases e), fun e => absurd (by cases e; exact ⟨rfl, rfl⟩) h⟩
theorem qSame_len {l m : List Pr} (h : l.length ≠ m.length) : qSame l m = false := by
  cases hb : qSame l m with
  | false => rfl
  | true => exact absurd (by rw [qSame_iff.1 hb]) h
def big1 (x : Pr) : Bool := decide (100 < x.n.size) || decide (100 < x.v.size)
def qGreat (l : List Pr) : Bool := decide (20 < l.length) || l.any big1
theorem greatq_no {l : List Pr} (h : qGreat l = false) : l.length ≤ 20 ∧ ∀ x ∈ l, x.n.size ≤ 100 ∧ x.v.size ≤ 100 := by
  unfold qGreat at h
  rw [Bool.or_eq_false_iff] at h
  have h1 := of_decide_eq_false h.1
  refine ⟨by omega, fun x hx => ?_⟩
  have h2 : big1 x = false := by simpa using List.any_eq_false.1 h.2 x hx
  unfold big1 at h2
  rw [Bool.or_eq_false_iff] at h2
  have h3 := of_decide_eq_false h2.1
  have h4 := of_decide_eq_false h2.2
  omega
theorem greatq_drop {l : List Pr} {k : Nat} (hk : k < l.length) : (l.drop k).any big1 = (big1 l[k] || (l.drop (k + 1)).any big1) := by
  rw [List.drop_eq_getElem_cons hk, List.any_cons]
theorem big1_n {x : Pr} (h : 100 < x.n.size) : big1 x = true := by unfold big1; rw [decide_eq_true h, Bool.true_or]
theorem big1_v {x : Pr} (h : 100 < x.v.size) : big1 x = true := by unfold big1; rw [decide_eq_true h, Bool.or_true]
theorem big1_no {x : Pr} (h : ¬ 100 < x.n.size) (h2 : ¬ 100 < x.v.size) : big1 x = false := by unfold big1; rw [decide_eq_false h, decide_eq_false h2]; rfl
set_option maxRecDepth 100000 in
theorem rgreat14 (w : World) (ao : Option Addr) (cap : Nat) (l : List Pr) (hf : FitsP l) (hc : PrsAt w ao l) :
    Calls Tryz.prog 69 #[.slice ao l.length cap] w fun e w' => e = .returned (.bool (qGreat l)) ∧ w = w' := by
  have HC : Hid (PrsAt w ao l) := hc
  have HF : Hid (∀ x ∈ l, x.n.size ≤ maxLen ∧ x.v.size ≤ maxLen) := hf.2
  have hl' : (l.length : Int) ≤ 9223372036854775807 := by have := hf.1; unfold maxLen at this; omega
  clear hc hf
  obtain ⟨r, hr⟩ : ∃ r, qGreat l = r := ⟨_, rfl⟩
  rw [hr]
  unfold qGreat at hr
  by_cases h100 : l.length ≤ 20
  · have i0 : ¬ (20 : Int) < l.length := by omega
    rw [decide_eq_false (by omega), Bool.false_or] at hr
    have HR : Hid ((l.drop 0).any big1 = r) := hr
    clear hr
    go_enter Tryz.func69, Tryz.ntmps69
    go_wp2_with fail
    go_loopw [3] (fun i wr => ∃ (k : Nat), i = .int .i64 (k : Int) ∧ k ≤ l.length ∧ Hid ((l.drop k).any big1 = r) ∧ wr = w) (fun i _ => l.length - (intOf i).toNat)
    case atStart => exact ⟨0, rfl, by omega, HR, rfl⟩
    case round =>
      obtain ⟨k, rfl, hk, HK, rfl⟩ := hrel
      by_cases hlt : k < l.length
      · have i1 : (k : Int) < l.length := by omega
        obtain ⟨b, off, rfl, x0, x1⟩ := HC.out k hlt
        have hm := HF.out l[k] (List.getElem_mem hlt)
        have i2 : (l[k].n.size : Int) ≤ 9223372036854775807 := by unfold maxLen at hm; omega
        have i2v : (l[k].v.size : Int) ≤ 9223372036854775807 := by unfold maxLen at hm; omega
        have hd := HK.out
        rw [greatq_drop hlt] at hd
        by_cases h1 : 100 < l[k].n.size
        · rw [big1_n h1, Bool.true_or] at hd
          have HD : Hid (true = r) := hd
          have i3 : (100 : Int) < l[k].n.size := by omega
          clear hm h1 x1 hd HK i2v
          generalize l[k].n = A at *
          go_wp2
          go_ret
          exact ⟨by rw [← HD.out]; rfl, rfl⟩
        by_cases h2 : 100 < l[k].v.size
        · rw [big1_v h2, Bool.true_or] at hd
          have HD : Hid (true = r) := hd
          have i3 : ¬ (100 : Int) < l[k].n.size := by omega
          have i4 : (100 : Int) < l[k].v.size := by omega
          clear hm h1 h2 hd HK
          generalize l[k].n = A at *
          generalize l[k].v = B at *
          go_wp2
          go_ret
          exact ⟨by rw [← HD.out]; rfl, rfl⟩
        · rw [big1_no h1 h2, Bool.false_or] at hd
          have HD : Hid ((l.drop (k + 1)).any big1 = r) := hd
          have i3 : ¬ (100 : Int) < l[k].n.size := by omega
          have i4 : ¬ (100 : Int) < l[k].v.size := by omega
          clear hm h1 h2 hd HK
          generalize l[k].n = A at *
          generalize l[k].v = B at *
          go_wp2
          go_roundw
          case rel => exact ⟨k + 1, by go_num, by omega, HD, by first | rfl | trivial⟩
          case measure => simp [intOf]; omega
      · have i1 : ¬ (k : Int) < l.length := by omega
        have hd := HK.out
        rw [List.drop_eq_nil_of_le (by omega), List.any_nil] at hd
        have HD : Hid (false = r) := hd
        clear hd HK
        go_wp2
        go_ret
        exact ⟨by rw [← HD.out]; rfl, rfl⟩
  · have i0 : (20 : Int) < l.length := by omega
    rw [decide_eq_true (by omega), Bool.true_or] at hr
    have HD : Hid (true = r) := hr
    clear hr
    go_enter Tryz.func69, Tryz.ntmps69
    go_wp2
    go_ret
    exact ⟨by rw [← HD.out]; rfl, rfl⟩
theorem sameq_drop {l m : List Pr} {k : Nat} (hk : k < l.length) (hm : k < m.length) : qSame (l.drop k) (m.drop k) = if l[k].n = m[k].n ∧ l[k].v = m[k].v then qSame (l.drop (k + 1)) (m.drop (k + 1)) else false := by
  rw [List.drop_eq_getElem_cons hk, List.drop_eq_getElem_cons hm, qSame]
set_option maxRecDepth 100000 in
theorem rsame14 (w : World) (ao bo : Option Addr) (ca cb : Nat) (l m : List Pr) (hl : l.length ≤ maxLen) (hm : m.length ≤ maxLen) (ha : PrsAt w ao l) (hb : PrsAt w bo m) :
    Calls Tryz.prog 67 #[.slice ao l.length ca, .slice bo m.length cb] w fun e w' => e = .returned (.bool (qSame l m)) ∧ ∃ n, w' = w.drewN n := by
  have HA : Hid (PrsAt w ao l) := ha
  have HB : Hid (PrsAt w bo m) := hb
  have hl' : (l.length : Int) ≤ 9223372036854775807 := by unfold maxLen at hl; omega
  have hm' : (m.length : Int) ≤ 9223372036854775807 := by unfold maxLen at hm; omega
  clear ha hb
  by_cases he : l.length = m.length
  · obtain ⟨r, hr⟩ : ∃ r, qSame l m = r := ⟨_, rfl⟩
    rw [hr]
    have HR : Hid (qSame (l.drop 0) (m.drop 0) = r) := hr
    have HE : Hid (l.length = m.length) := he
    have i0 : ((l.length : Int) != (m.length : Int)) = false := by simp [he]
    clear hr he
    go_enter Tryz.func67, Tryz.ntmps67
    go_wp2_with fail
    go_loopw [5] (fun i wr => ∃ (k : Nat), i = .int .i64 (k : Int) ∧ k ≤ l.length ∧ Hid (qSame (l.drop k) (m.drop k) = r) ∧ ∃ n, wr = w.drewN n) (fun i _ => l.length - (intOf i).toNat)
    case atStart => exact ⟨0, rfl, by omega, HR, 0, rfl⟩
    case round =>
      obtain ⟨k, rfl, hk, HK, hWr⟩ := hrel
      have kr := keepN hWr
      have HW : Hid (∃ n, wr = w.drewN n) := hWr
      have he := HE.out
      clear hWr
      by_cases hlt : k < l.length
      · have i1 : (k : Int) < l.length := by omega
        have i2 : (k : Int) < m.length := by omega
        have hkm : k < m.length := by omega
        obtain ⟨b1, o1, rfl, p0, p1⟩ := HA.out k hlt
        obtain ⟨b2, o2, rfl, q0, q1⟩ := HB.out k hkm
        have x0 := kr.cell p0 (fun f => f)
        have x1 := kr.cell p1 (fun f => f)
        have y0 := kr.cell q0 (fun f => f)
        have y1 := kr.cell q1 (fun f => f)
        clear p0 p1 q0 q1
        have hd := HK.out
        rw [sameq_drop hlt hkm] at hd
        by_cases h1 : l[k].n = m[k].n
        · by_cases h2 : l[k].v = m[k].v
          · rw [if_pos ⟨h1, h2⟩] at hd
            have HD : Hid (qSame (l.drop (k + 1)) (m.drop (k + 1)) = r) := hd
            rw [← h1] at y0
            rw [← h2] at y1
            generalize l[k].n = A at *
            generalize l[k].v = N at *
            clear hd HK kr he h1 h2 HA HB
            go_wp2_with fail
            go_quiet (fail)
            go_wp2
            go_roundw
            case rel => exact ⟨k + 1, by go_num, by omega, HD, drewN_on HW.out _⟩
            case measure => simp [intOf]; omega
          · rw [if_neg (fun h => h2 h.2)] at hd
            have HD : Hid (false = r) := hd
            rw [← h1] at y0
            obtain ⟨e2, e3, e4⟩ := txt_ne h2
            generalize l[k].n = A at *
            generalize l[k].v = N at *
            generalize m[k].v = M at *
            clear hd HK kr he h1 HA HB
            go_wp2_with fail
            go_quiet (fail)
            go_wp2
            go_ret
            exact ⟨by rw [← HD.out]; rfl, drewN_on HW.out _⟩
        · rw [if_neg (fun h => h1 h.1)] at hd
          have HD : Hid (false = r) := hd
          obtain ⟨e2, e3, e4⟩ := txt_ne h1
          generalize l[k].n = A at *
          generalize m[k].n = A2 at *
          generalize l[k].v = N at *
          generalize m[k].v = M at *
          clear hd HK kr he HA HB
          go_wp2_with fail
          go_quiet (fail)
          go_wp2
          go_ret
          exact ⟨by rw [← HD.out]; rfl, drewN_on HW.out _⟩
      · have i1 : ¬ (k : Int) < l.length := by omega
        have hd := HK.out
        rw [List.drop_eq_nil_of_le (by omega), List.drop_eq_nil_of_le (by omega)] at hd
        have HD : Hid (true = r) := hd
        clear hd HK kr he
        go_wp2
        go_ret
        exact ⟨by rw [← HD.out]; rfl, HW.out⟩
  · rw [qSame_len he]
    have i0 : ((l.length : Int) != (m.length : Int)) = true := by simp; omega
    go_enter Tryz.func67, Tryz.ntmps67
    go_wp2
    go_ret
    exact ⟨rfl, 0, rfl⟩
def prq (l : List Pr) : Nat → Option ByteArray
  | 0 => none
  | k + 1 => (l[k]?).map (·.n)
theorem prq_zero (l : List Pr) : prq l 0 = none := rfl
theorem prq_succ {l : List Pr} {k : Nat} (h : k < l.length) : prq l (k + 1) = some l[k].n := by
  show (l[k]?).map (·.n) = _
  rw [List.getElem?_eq_getElem h]
  rfl
theorem goq_drop {l : List Pr} {k : Nat} (hk : k < l.length) : qGo (prq l k) (l.drop k) = if qOne (prq l k) l[k] = 0 then qGo (prq l (k + 1)) (l.drop (k + 1)) else qOne (prq l k) l[k] := by
  rw [List.drop_eq_getElem_cons hk, qGo, prq_succ hk]
theorem qOne_a {p : Option ByteArray} {x : Pr} (h : 32 < x.n.size) : qOne p x = 3 := if_pos h
theorem qOne_b {p : Option ByteArray} {x : Pr} (h : x.n.size = 0) : qOne p x = 14 := by unfold qOne; rw [if_neg (by omega), if_pos h]
theorem qOne_c {p : Option ByteArray} {x : Pr} (h1 : ¬ 32 < x.n.size) (h2 : x.n.size ≠ 0) (h3 : falls p x.n = true) : qOne p x = 6 := by unfold qOne; rw [if_neg h1, if_neg h2, if_pos h3]
theorem qOne_d {p : Option ByteArray} {x : Pr} (h1 : ¬ 32 < x.n.size) (h2 : x.n.size ≠ 0) (h3 : falls p x.n = false) (h4 : 32768 < x.v.size) : qOne p x = 3 := by unfold qOne; rw [if_neg h1, if_neg h2, h3, if_neg (by decide), if_pos h4]
theorem qOne_e {p : Option ByteArray} {x : Pr} (h1 : ¬ 32 < x.n.size) (h2 : x.n.size ≠ 0) (h3 : falls p x.n = false) (h4 : ¬ 32768 < x.v.size) : qOne p x = 0 := by unfold qOne; rw [if_neg h1, if_neg h2, h3, if_neg (by decide), if_neg h4]
set_option maxRecDepth 100000 in
set_option maxHeartbeats 4000000 in
theorem rcheck14 (w : World) (ao : Option Addr) (cap : Nat) (l : List Pr) (hf : FitsP l) (hc : PrsAt w ao l) :
    Calls Tryz.prog 73 #[.slice ao l.length cap] w fun e w' => e = .returned (.int .i64 (qCheck l)) ∧ ∃ n, w' = w.drewN n := by
  have HC : Hid (PrsAt w ao l) := hc
  have HF : Hid (∀ x ∈ l, x.n.size ≤ maxLen ∧ x.v.size ≤ maxLen) := hf.2
  have hl' : (l.length : Int) ≤ 9223372036854775807 := by have := hf.1; unfold maxLen at this; omega
  clear hc hf
  by_cases h8 : 8 < l.length
  · have i0 : (8 : Int) < l.length := by omega
    have e : qCheck l = 3 := if_pos h8
    rw [e]
    go_enter Tryz.func73, Tryz.ntmps73
    go_wp2
    go_ret
    exact ⟨rfl, 0, rfl⟩
  · have i0 : ¬ (8 : Int) < l.length := by omega
    have e : qCheck l = qGo (prq l 0) (l.drop 0) := if_neg h8
    obtain ⟨r, hr⟩ : ∃ r, qCheck l = r := ⟨_, rfl⟩
    rw [hr]
    rw [e] at hr
    have HR : Hid (qGo (prq l 0) (l.drop 0) = r) := hr
    clear hr e
    go_enter Tryz.func73, Tryz.ntmps73
    go_wp2_with fail
    go_loopw [3] (fun i wr => ∃ (k : Nat), i = .int .i64 (k : Int) ∧ k ≤ l.length ∧ Hid (qGo (prq l k) (l.drop k) = r) ∧ ∃ n, wr = w.drewN n) (fun i _ => l.length - (intOf i).toNat)
    case atStart => exact ⟨0, rfl, by omega, HR, 0, rfl⟩
    case round =>
      obtain ⟨k, rfl, hk, HK, hWr⟩ := hrel
      have kr := keepN hWr
      have HW : Hid (∃ n, wr = w.drewN n) := hWr
      clear hWr
      by_cases hlt : k < l.length
      · have i1 : (k : Int) < l.length := by omega
        obtain ⟨b, off, rfl, p0, p1⟩ := HC.out k hlt
        have x0 := kr.cell p0 (fun f => f)
        have x1 := kr.cell p1 (fun f => f)
        clear p0 p1
        have hm := (HF.out l[k] (List.getElem_mem hlt)).1
        have i2v : (l[k].v.size : Int) ≤ 9223372036854775807 := by have := (HF.out l[k] (List.getElem_mem hlt)).2; unfold maxLen at this; omega
        have i2 : (l[k].n.size : Int) ≤ 9223372036854775807 := by unfold maxLen at hm; omega
        have hd := HK.out
        rw [goq_drop hlt] at hd
        by_cases h1 : 32 < l[k].n.size
        · rw [qOne_a h1, if_neg (by decide)] at hd
          have HD : Hid ((3 : Int) = r) := hd
          have i3 : (32 : Int) < l[k].n.size := by omega
          clear hd HK kr hm h1 x1 i2v
          generalize l[k].n = A at *
          go_wp2
          go_ret
          exact ⟨by rw [← HD.out]; rfl, HW.out⟩
        by_cases h2 : l[k].n.size = 0
        · rw [qOne_b h2, if_neg (by decide)] at hd
          have HD : Hid ((14 : Int) = r) := hd
          have i3 : ¬ (32 : Int) < l[k].n.size := by omega
          have i4 : (l[k].n.size : Int) = 0 := by omega
          clear hd HK kr hm h1 x1 i2v
          generalize l[k].n = A at *
          go_wp2
          go_ret
          exact ⟨by rw [← HD.out]; rfl, HW.out⟩
        have i3 : ¬ (32 : Int) < l[k].n.size := by omega
        have i4 : ((l[k].n.size : Int) == 0) = false := beq_eq_false_iff_ne.2 (by omega)
        have i5 : ¬ (l[k].n.size : Int) = 0 := by omega
        cases k with
        | zero =>
          have hp : falls (prq l 0) l[0].n = false := rfl
          have v0 : wr.cell? ⟨b, off, none⟩ = some (.string l[0].n) := x0
          have v1 : wr.cell? ⟨b, off + 1, none⟩ = some (.string l[0].v) := x1
          clear x0 x1
          have HZ : Hid (qGo (prq l 1) (l.drop 1) = r ∨ (32768 < l[0].v.size ∧ (3 : Int) = r)) := by
            by_cases h4 : 32768 < l[0].v.size
            · rw [qOne_d h1 h2 hp h4, if_neg (by decide)] at hd
              exact Or.inr ⟨h4, hd⟩
            · rw [qOne_e h1 h2 hp h4, if_pos rfl] at hd
              exact Or.inl hd
          have HN : Hid (¬ 32768 < l[0].v.size → qGo (prq l 1) (l.drop 1) = r) := fun h => HZ.out.elim (fun e => e) (fun e => absurd e.1 h)
          have HN' : Hid (32768 < l[0].v.size → (3 : Int) = r) := by
            intro h4
            rw [qOne_d h1 h2 hp h4, if_neg (by decide)] at hd
            exact hd
          clear hd HK kr hm h1 h2 hp HZ HC HF HR
          by_cases h4 : 32768 < l[0].v.size
          · have HD : Hid ((3 : Int) = r) := HN'.out h4
            have i6 : (32768 : Int) < l[0].v.size := by omega
            clear HN HN' h4
            generalize l[0].n = A at *
            go_wp2_with fail
            go_quiet (fail)
            go_wp2
            go_ret
            exact ⟨by rw [← HD.out]; rfl, drewN_on HW.out _⟩
          · have i6 : ¬ (32768 : Int) < l[0].v.size := by omega
            have i7 : (l[0].v.size : Int) ≤ 9223372036854775807 := by omega
            have HD : Hid (qGo (prq l 1) (l.drop 1) = r) := HN.out h4
            clear HN HN' h4
            generalize l[0].n = A at *
            generalize l[0].v = N at *
            go_wp2_with fail
            go_quiet (fail)
            go_wp2
            go_roundw
            case rel => exact ⟨1, by go_num, by omega, HD, drewN_on HW.out _⟩
            case measure => simp [intOf]; omega
        | succ j =>
          have hj : j < l.length := by omega
          obtain ⟨b', off', e', p0, _⟩ := HC.out j hj
          cases e'
          have y0 := kr.cell p0 (fun f => f)
          clear p0
          have hmj := (HF.out l[j] (List.getElem_mem hj)).1
          have HQ : Hid (∀ n, Calls Tryz.prog 39 #[.string l[j].n, .string l[j + 1].n] (wr.drewN n) fun e w' => e = .returned (.bool (bl l[j].n l[j + 1].n)) ∧ ∃ m, w' = wr.drewN m) := fun n => rbelow_q wr n l[j].n l[j + 1].n hmj hm
          have hp : falls (prq l (j + 1)) l[j + 1].n = !bl l[j].n l[j + 1].n := by rw [prq_succ hj, falls_some]
          obtain ⟨q, hq⟩ : ∃ q : Nat, j + 1 = q := ⟨_, rfl⟩
          have i6 : (q : Int) - 1 = (j : Int) := by omega
          have i7 : IntKind.i64.wrap (j : Int) = (j : Int) := by rw [IntKind.wrap_i64]; omega
          have i8 : decide (0 < q) = true := decide_eq_true (by omega)
          have i8' : 0 < q := by omega
          have i9 : (j : Int) < l.length := by omega
          cases hB : bl l[j].n l[j + 1].n with
          | false =>
            rw [hB] at hp HQ
            rw [qOne_c h1 h2 hp, if_neg (by decide)] at hd
            have HD : Hid ((6 : Int) = r) := hd
            clear hd HK kr hm h1 h2 hp HC HF HR hB hmj x1 i2v
            subst hq
            have yq := HQ.out
            clear HQ
            generalize l[j + 1].n = A at *
            generalize l[j].n = A' at *
            generalize hq : j + 1 = q at *
            go_wp2_with fail
            go_quiet ((go_at_call 39; exact yq _))
            go_wp2
            go_ret
            exact ⟨by rw [← HD.out]; rfl, drewN_on HW.out _⟩
          | true =>
            rw [hB] at hp HQ
            have HN : Hid (¬ 32768 < l[j + 1].v.size → qGo (prq l (j + 2)) (l.drop (j + 2)) = r) := by
              intro h4
              rw [qOne_e h1 h2 hp h4, if_pos rfl] at hd
              exact hd
            have HN' : Hid (32768 < l[j + 1].v.size → (3 : Int) = r) := by
              intro h4
              rw [qOne_d h1 h2 hp h4, if_neg (by decide)] at hd
              exact hd
            have yq := HQ.out
            clear hd HK kr hm h1 h2 hp HC HF HR hB hmj HQ
            subst hq
            by_cases h4 : 32768 < l[j + 1].v.size
            · have HD : Hid ((3 : Int) = r) := HN'.out h4
              have i10 : (32768 : Int) < l[j + 1].v.size := by omega
              clear HN HN' h4
              generalize l[j + 1].n = A at *
              generalize l[j].n = A' at *
              generalize hq : j + 1 = q at *
              go_wp2_with fail
              go_quiet ((go_at_call 39; exact yq _))
              go_wp2
              go_ret
              exact ⟨by rw [← HD.out]; rfl, drewN_on HW.out _⟩
            · have i10 : ¬ (32768 : Int) < l[j + 1].v.size := by omega
              have i11 : (l[j + 1].v.size : Int) ≤ 9223372036854775807 := by omega
              have HD : Hid (qGo (prq l (j + 2)) (l.drop (j + 2)) = r) := HN.out h4
              clear HN HN' h4
              generalize l[j + 1].n = A at *
              generalize l[j].n = A' at *
              generalize l[j + 1].v = N at *
              have HQ2 : Hid (qGo (prq l (j + 1 + 1)) (l.drop (j + 1 + 1)) = r) := HD
              clear HD
              generalize hq : j + 1 = q at *
              go_wp2_with fail
              go_quiet ((go_at_call 39; exact yq _))
              go_wp2
              go_roundw
              case rel => exact ⟨q + 1, by go_num, by omega, HQ2, drewN_on HW.out _⟩
              case measure => simp [intOf]; omega
      · have i1 : ¬ (k : Int) < l.length := by omega
        have hd := HK.out
        rw [List.drop_eq_nil_of_le (by omega), qGo] at hd
        have HD : Hid ((0 : Int) = r) := hd
        clear hd HK kr
        go_wp2
        go_ret
        exact ⟨by rw [← HD.out]; rfl, HW.out⟩
end Go.Proofs.YteonkfedgopdiaaGreat
