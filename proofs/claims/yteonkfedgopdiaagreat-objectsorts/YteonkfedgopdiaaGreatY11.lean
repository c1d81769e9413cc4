/-
  What this seat's claims lean on of the texts Dotted, Whole, VecMem.
  Conditions: as each theorem states.
-/
import Derived.WalkKit
import Derived.ProofKit
import Derived.Below
import Derived.Deep.Draws
import Derived.Deep.RegionHeld
import Derived.Test.YteonkfedgopdiaaGreatChecked
import Derived.OpenShut
import Derived.ShutString
import Derived.WalkSpells
import Derived.WalkLawsBesides
import Derived.Deep.QuietTactic
import Derived.BigQuiet
import Derived.Laws.Bits64b
import Derived.PlainAid
import Derived.Lib.AppendStr
import Derived.Deep.AppendLies
import Derived.Laws.IdiomStrings
import Derived.Laws.BytesArg
import Derived.Deep.RegionWith
import Derived.Test.YteonkfedgopdiaaGreatY9
import Derived.Test.YteonkfedgopdiaaGreatY3
import Derived.Laws.AppendOwn
import Derived.Deep.DeepAppendWide
import Derived.Deep.Upon
namespace Go.Proofs.YteonkfedgopdiaaGreat
open Go.RowKit
structure Ck where
  c : List En
  d : Bool
  x : En
def kDot (k : Ck) : Int :=
  if k.d = true then (if 32 < k.x.a.size then 3 else if k.x.a.size = 0 then 14 else if k.x.n = 0 then 7 else if k.x.n ≤ vCount k.c k.x.a then 15 else 0)
  else (if k.x.a.size = 0 ∧ k.x.n = 0 then 0 else 1)
def kCheck (k : Ck) : Int := if vCheck k.c = 0 then kDot k else vCheck k.c
structure Right (k : Ck) : Prop where
  vec : vCheck k.c = 0
  good : Good k.c
  plain : k.d = false → k.x.a.size = 0 ∧ k.x.n = 0
  dot : k.d = true → k.x.ok ∧ vCount k.c k.x.a < k.x.n
theorem dot_zero (k : Ck) : kDot k = 0 ↔ (k.d = false → k.x.a.size = 0 ∧ k.x.n = 0) ∧ (k.d = true → k.x.ok ∧ vCount k.c k.x.a < k.x.n) := by
  unfold kDot En.ok
  cases k.d with
  | false =>
    rw [if_neg (by decide)]
    constructor
    · intro h
      refine ⟨fun _ => ?_, (fun e => by cases e)⟩
      by_cases h0 : k.x.a.size = 0 ∧ k.x.n = 0
      · exact h0
      · rw [if_neg h0] at h; exact absurd h (by decide)
    · intro h
      rw [if_pos (h.1 rfl)]
  | true =>
    rw [if_pos rfl]
    constructor
    · intro h
      refine ⟨(fun e => by cases e), fun _ => ?_⟩
      by_cases h1 : 32 < k.x.a.size
      · rw [if_pos h1] at h; exact absurd h (by decide)
      rw [if_neg h1] at h
      by_cases h2 : k.x.a.size = 0
      · rw [if_pos h2] at h; exact absurd h (by decide)
      rw [if_neg h2] at h
      by_cases h3 : k.x.n = 0
      · rw [if_pos h3] at h; exact absurd h (by decide)
      rw [if_neg h3] at h
      by_cases h4 : k.x.n ≤ vCount k.c k.x.a
      · rw [if_pos h4] at h; exact absurd h (by decide)
      exact ⟨⟨by omega, by omega, h3⟩, by omega⟩
    · intro h
      obtain ⟨⟨h1, h2, h3⟩, h4⟩ := h.2 rfl
      rw [if_neg (by omega), if_neg (by omega), if_neg h3, if_neg (by omega)]
theorem right_iff (k : Ck) : kCheck k = 0 ↔ Right k := by
  unfold kCheck
  by_cases h : vCheck k.c = 0
  · rw [if_pos h, dot_zero]
    exact ⟨fun e => ⟨h, ((check_zero _).1 h).2, e.1, e.2⟩, fun e => ⟨e.plain, e.dot⟩⟩
  · rw [if_neg h]
    exact ⟨fun e => absurd e h, fun e => absurd e.vec h⟩
end Go.Proofs.YteonkfedgopdiaaGreat
namespace Go.Proofs.YteonkfedgopdiaaGreat
open Go.RowKit
def dec {α : Type} (z : α) (rd : Rdr α) (s : ByteArray) : α × Int := if cEnd s (rd s 0).2.1 (rd s 0).2.2 = 0 then ((rd s 0).1, 0) else (z, cEnd s (rd s 0).2.1 (rd s 0).2.2)
section
variable {α : Type} {z : α} {rd : Rdr α} {ok : α → Prop} {enc : α → ByteArray}
end
structure Wr (W : Int → ByteArray × Int → ByteArray × Int) (e : ByteArray) : Prop where
  fit : ∀ {M : Int} {t : ByteArray}, (t.size : Int) + e.size ≤ M → W M (t, 0) = (t ++ e, 0)
  over : ∀ {M : Int} {t : ByteArray}, (t.size : Int) ≤ M → ¬ ((t.size : Int) + e.size ≤ M) → (W M (t, 0)).2 = 3
  err : ∀ {M : Int} {t : ByteArray} {x : Int}, x ≠ 0 → W M (t, x) = (t, x)
theorem Wr.one (s : ByteArray) : Wr (fun M p => pOne M p s) s where
  fit := fun h => pOne_yes h
  over := fun _ h => by rw [pOne_no h]
  err := fun h => pOne_err h
theorem Wr.nil : Wr (fun _ p => p) ⟨#[]⟩ where
  fit := fun {_ t} _ => by
    have e : t ++ (⟨#[]⟩ : ByteArray) = t := ByteArray.append_empty
    rw [e]
  over := fun {M t} h h1 => absurd (by have e : ((⟨#[]⟩ : ByteArray).size : Int) = 0 := rfl; rw [e]; omega) h1
  err := fun _ => rfl
theorem Wr.seq {A B : Int → ByteArray × Int → ByteArray × Int} {a b : ByteArray} (hA : Wr A a) (hB : Wr B b) : Wr (fun M p => B M (A M p)) (a ++ b) where
  fit := fun {M t} h => by
    rw [ByteArray.size_append] at h
    rw [hA.fit (by omega), hB.fit (by rw [ByteArray.size_append]; omega), ByteArray.append_assoc]
  over := fun {M t} h h1 => by
    rw [ByteArray.size_append] at h1
    by_cases h2 : (t.size : Int) + a.size ≤ M
    · rw [hA.fit h2]
      exact hB.over (by rw [ByteArray.size_append]; omega) (by rw [ByteArray.size_append]; omega)
    · have e := hA.over h h2
      have e2 : A M (t, 0) = ((A M (t, 0)).1, 3) := Prod.ext rfl e
      rw [e2, hB.err (by decide)]
  err := fun {M t x} h => by rw [hA.err h, hB.err h]
theorem Wr.eq {A : Int → ByteArray × Int → ByteArray × Int} {a b : ByteArray} (h : Wr A a) (e : a = b) : Wr A b := e ▸ h
theorem Wr.blob {m : Int} {s : ByteArray} (h : (s.size : Int) ≤ pMax m) : Wr (fun M p => wPut M m p s) (bEncT s) := by
  have c := (Wr.one (vText s.size)).seq (Wr.one s)
  refine ⟨fun h1 => ?_, fun h1 h2 => ?_, fun h1 => ?_⟩
  · rw [wPut_fit h]; exact c.fit h1
  · rw [wPut_fit h]; exact c.over h1 h2
  · exact wPut_err h1
theorem Wr.ends {A : Int → ByteArray × Int → ByteArray × Int} {a : ByteArray} (h : Wr A a) {M : Int} (hM : 0 ≤ M) : (pEnd (A M (⟨#[]⟩, 0)).1 (A M (⟨#[]⟩, 0)).2, (A M (⟨#[]⟩, 0)).2) = if (a.size : Int) ≤ M then (a, 0) else (⟨#[]⟩, 3) := by
  have e0 : (((⟨#[]⟩ : ByteArray).size : Nat) : Int) = 0 := rfl
  by_cases h1 : (a.size : Int) ≤ M
  · have e : (⟨#[]⟩ : ByteArray) ++ a = a := ByteArray.empty_append
    rw [if_pos h1, h.fit (by rw [e0]; omega), e]
    unfold pEnd
    rw [if_pos rfl]
  · have e := h.over (M := M) (t := ⟨#[]⟩) (by rw [e0]; omega) (by rw [e0]; omega)
    rw [if_neg h1]
    unfold pEnd
    rw [e, if_neg (by decide)]
end Go.Proofs.YteonkfedgopdiaaGreat
namespace Go.Proofs.YteonkfedgopdiaaGreat
open Go.RowKit
def En.cells (x : En) : List Value := [.string x.a, .int .u64 (x.n : Int)]
def En.val (x : En) : Value := .agg #[.string x.a, .int .u64 (x.n : Int)]
def EnsAt (w : World) (ao : Option Addr) (l : List En) : Prop := ∀ i (_ : i < l.length), ∃ b off, ao = some ⟨b, off, none⟩ ∧
  w.cell? ⟨b, off + i * 2, none⟩ = some (.string l[i].a) ∧ w.cell? ⟨b, off + i * 2 + 1, none⟩ = some (.int .u64 (l[i].n : Int))
def ApartE (R : Nat → Prop) (ao : Option Addr) : Prop := ∀ b off m, ao = some ⟨b, off, m⟩ → ¬ R b
theorem EnsAt.keep {R : Nat → Prop} {w w' : World} {ao : Option Addr} {l : List En} (h : EnsAt w ao l) (K : Keep R w w') (hn : ApartE R ao) : EnsAt w' ao l := by
  intro i hi
  obtain ⟨b, off, e, h1, h2⟩ := h i hi
  have hb := hn _ _ _ e
  exact ⟨b, off, e, K.cell h1 hb, K.cell h2 hb⟩
theorem EnsAt.keep0 {w w' : World} {ao : Option Addr} {l : List En} (h : EnsAt w ao l) (K : Keep0 w w') : EnsAt w' ao l := h.keep K (fun _ _ _ _ f => f)
theorem ens_nil (w : World) (ao : Option Addr) : EnsAt w ao [] := fun i hi => absurd hi (Nat.not_lt_zero i)
def enCells (l : List En) : List Value := l.flatMap En.cells
theorem enCells_len (l : List En) : (enCells l).length = l.length * 2 := by
  induction l with
  | nil => rfl
  | cons f l ih =>
    show (f.cells ++ enCells l).length = _
    rw [List.length_append, ih, List.length_cons]
    show 2 + _ = _
    omega
theorem enCells_app (l r : List En) : enCells (l ++ r) = enCells l ++ enCells r := List.flatMap_append
theorem enCells_get : ∀ (l : List En) (i : Nat) (hi : i < l.length) (j : Nat), j < 2 → (enCells l)[i * 2 + j]? = l[i].cells[j]?
  | f :: l, 0, _, j, hj => by
    show (f.cells ++ enCells l)[0 * 2 + j]? = f.cells[j]?
    rw [Nat.zero_mul, Nat.zero_add, List.getElem?_append_left (by show j < 2; exact hj)]
  | f :: l, i + 1, hi, j, hj => by
    have hi' : i < l.length := by simpa using hi
    have ih := enCells_get l i hi' j hj
    show (f.cells ++ enCells l)[(i + 1) * 2 + j]? = l[i].cells[j]?
    have e : f.cells.length = 2 := rfl
    rw [List.getElem?_append_right (by rw [e]; omega), e, show (i + 1) * 2 + j - 2 = i * 2 + j from by omega, ih]
theorem enCells_one (l : List En) : ∀ u ∈ enCells l, u.oneCell' = true := by
  intro u hu
  unfold enCells at hu
  obtain ⟨f, _, hf⟩ := List.mem_flatMap.1 hu
  simp only [En.cells, List.mem_cons, List.mem_nil_iff, or_false] at hf
  rcases hf with rfl | rfl <;> rfl
theorem ens_of_row {w : World} {B : Nat} {e : TypeId} {v : Value} {n : Nat} {l : List En} (h : w.ownsRow B e 2 v n (enCells l)) :
    ∃ ao cap, v = .slice ao l.length cap ∧ EnsAt w ao l ∧ (∀ b off m, ao = some ⟨b, off, m⟩ → B ≤ b) ∧ l.length ≤ cap := by
  have hn : n = l.length := by have := h.1; rw [enCells_len] at this; omega
  subst hn
  rcases h.2 with ⟨rfl, h0⟩ | ⟨g, cap, cur, rfl, hb, hg, hcap, hrest⟩
  · exact ⟨none, 0, by rw [h0], fun i hi => by omega, (fun b off m e => by cases e), by omega⟩
  · refine ⟨some ⟨g, 0, none⟩, cap, rfl, fun i hi => ⟨g, 0, rfl, ?_⟩, (fun b off m e => by cases e; exact hb), hcap⟩
    have hc := h.cells (g := g) rfl
    have k : ∀ j u, j < 2 → l[i].cells[j]? = some u → w.cell? ⟨g, 0 + i * 2 + j, none⟩ = some u := by
      intro j u hj hu
      have := hc (i * 2 + j) u ((enCells_get l i hi j hj).trans hu)
      rwa [add_plain, ← Nat.add_assoc] at this
    exact ⟨k 0 _ (by decide) rfl, k 1 _ (by decide) rfl⟩
theorem ens_cells {w : World} {ao : Option Addr} {l : List En} (h : EnsAt w ao l) (hne : 0 < l.length) : ∃ b off, ao = some ⟨b, off, none⟩ ∧ ∀ j u, (enCells l)[j]? = some u → w.cell? ((⟨b, off, none⟩ : Addr).add j) = some u := by
  obtain ⟨b, off, rfl, _⟩ := h 0 hne
  refine ⟨b, off, rfl, fun j u hu => ?_⟩
  have hj : j < (enCells l).length := (List.getElem?_eq_some_iff.1 hu).1
  rw [enCells_len] at hj
  have hi : j / 2 < l.length := by omega
  have hr : j % 2 < 2 := Nat.mod_lt _ (by decide)
  have ej : j / 2 * 2 + j % 2 = j := by omega
  obtain ⟨b', off', e, h0, h1⟩ := h (j / 2) hi
  cases e
  have hu' := enCells_get l (j / 2) hi (j % 2) hr
  rw [ej, hu] at hu'
  rw [add_plain]
  have hc : j % 2 = 0 ∨ j % 2 = 1 := by omega
  rcases hc with hc | hc
  · rw [hc] at hu'
    have : u = .string l[j / 2].a := by simpa [En.cells] using hu'
    rw [this, ← h0]
    congr 2
    omega
  · rw [hc] at hu'
    have : u = .int .u64 (l[j / 2].n : Int) := by simpa [En.cells] using hu'
    rw [this, ← h1]
    congr 2
    omega
theorem entry_info : (Tryz.prog.info? 39).map (fun i => (i.zero, i.size, i.bytes)) = some (some (.agg #[.string ⟨#[]⟩, .int .u64 0]), 2, 24) := by kernel_rfl
theorem run_append_ens {w : World} {B : Nat} {v : Value} {l m : List En} {ao : Option Addr} {c : Nat} (ty : TypeId) (ho : w.ownsRow B 39 2 v l.length (enCells l)) (hs : EnsAt w ao m) (hB : B ≤ w.heap.size) (hlen : l.length + m.length ≤ 1000000) :
    ∃ v' w', (Builtin.append_ #[36, 36] ty #[v, .slice ao m.length c]).run Tryz.prog w = .ok v' w' ∧ w'.ownsRow B 39 2 v' (l ++ m).length (enCells (l ++ m)) ∧ w.grownBy w' v.ownBlock := by
  obtain ⟨i0, hi, z0, z1, z2⟩ := info_parts entry_info
  have big : ∀ a, (∀ j u, (enCells m)[j]? = some u → w.cell? (Addr.add a j) = some u) → ∃ v' w', (Builtin.append_ #[36, 36] ty #[v, .slice (some a) m.length c]).run Tryz.prog w = .ok v' w' ∧ w'.ownsRow B 39 2 v' (l ++ m).length (enCells (l ++ m)) ∧ w.grownBy w' v.ownBlock := by
    intro a ha
    obtain ⟨v', w', h1, h2, h3, _⟩ := run_append_own_wide (P := Tryz.prog) w B 36 ty 39 i0 _ 2 24 Tryz.underlying36 hi z0 z1 z2 rfl (by decide) v l.length (enCells l) ho a m.length c (enCells m) (enCells_len m) ha (enCells_one m) (by unfold maxLen; omega) (by omega) hB
    exact ⟨v', w', h1, by rw [enCells_app, List.length_append]; exact h2, h3⟩
  by_cases hm : 0 < m.length
  · obtain ⟨b, off, rfl, hc⟩ := ens_cells hs hm
    exact big _ hc
  · have hm' : m = [] := List.eq_nil_of_length_eq_zero (by omega)
    subst hm'
    cases ao with
    | some a => exact big a (fun j u hu => by cases hu)
    | none =>
      have hsrc : Src Tryz.prog i0.size 36 (.slice none 0 c) 0 [] w := Src.ofNil w Tryz.underlying36 c
      have hv : ∃ base n cap, v = .slice base n cap ∧ n ≤ cap := by
        rcases ho.2 with ⟨e, _⟩ | ⟨g, cp, cur, e, _, _, hc, _⟩
        · exact ⟨_, _, _, e, Nat.le_refl _⟩
        · exact ⟨_, _, _, e, hc⟩
      obtain ⟨base, n, cap, rfl, hle⟩ := hv
      refine ⟨_, w, run_append_nothing w 36 36 ty 39 i0 Tryz.underlying36 hi base n cap hle _ hsrc, ?_, ⟨rfl, rfl, rfl, Nat.le_refl _, fun _ _ _ => rfl⟩⟩
      rw [List.append_nil]
      exact ho
theorem wpList_append_ens {w : World} {ops : Array Oper} {rest : List Oper} {o : Oper} {a : Act} {Q : Exit → Act → World → Prop} (hgd : o.guard = none) (s x : Operand)
    (ho : o.op = .call { callee := .builtin .append, args := #[s, x], argTypes := #[36, 36] }) {B : Nat} {v : Value} {l m : List En} {ao : Option Addr} {c : Nat}
    (hs : a.eval s = v) (hx : a.eval x = .slice ao m.length c) (hown : w.ownsRow B 39 2 v l.length (enCells l)) (hsrc : EnsAt w ao m) (hB : B ≤ w.heap.size) (hlen : l.length + m.length ≤ 1000000)
    (h : ∀ v' w', w'.ownsRow B 39 2 v' (l ++ m).length (enCells (l ++ m)) → w.grownBy w' v.ownBlock → wpList Tryz.prog ops Q rest (a.put o.dst v') w') : wpList Tryz.prog ops Q (o :: rest) a w :=
  wpList_plain hgd fun _ hK => by
    obtain ⟨v', w', hr, h2, h3⟩ := run_append_ens (c := c) o.type hown hsrc hB hlen
    unfold Oper.wp execOp
    simp only [ho, resolve, invoke, builtin, Sem.run_bind, Sem.run_pure, Result.andThen_ok, List.map_toArray, List.map_cons, List.map_nil, hs, hx, hr]
    exact hK _ _ (h v' w' h2 h3)
theorem en_new (w : World) (t : TypeId) (x : En) : EnsAt (w.alloc (.cells #[.string x.a, .int .u64 (x.n : Int)] t)) (some ⟨w.heap.size, 0, none⟩) [x] := by
  intro i hi
  obtain rfl : i = 0 := by simpa using hi
  exact ⟨w.heap.size, 0, rfl, cell_alloc w t rfl, cell_alloc w t rfl⟩
theorem rowE_keep {R : Nat → Prop} {w w' : World} {B : Nat} {e : TypeId} {sz : Nat} {v : Value} {n : Nat} {xs : List Value} (h : w.ownsRow B e sz v n xs) (K : Keep R w w') (hn : ∀ k, B ≤ k → ¬ R k) : w'.ownsRow B e sz v n xs := by
  refine ⟨h.1, ?_⟩
  rcases h.2 with h0 | ⟨g, cap, cur, e1, hb, hg, rest⟩
  · exact .inl h0
  · exact .inr ⟨g, cap, cur, e1, hb, (K.block g (Array.getElem?_eq_some_iff.1 hg).1 (hn g hb)).trans hg, rest⟩
theorem Keep.ownGrown {w w1 w2 : World} {row : Option Nat} (K : Keep0 w w1) (g : w1.grownBy w2 row) (h : ∀ k, row = some k → w.heap.size ≤ k) : Keep0 w w2 :=
  K.step (⟨g.os, g.tape, g.output, g.size, fun k hk hn => g.block k hk (fun e => hn (h k e.symm))⟩ : KeepFrom w.heap.size w1 w2) (fun i hi hh => by have hh : w.heap.size ≤ i := hh; omega)
theorem sliceE_of_own {w : World} {B : Nat} {e : TypeId} {sz n : Nat} {v : Value} {xs : List Value} (h : w.ownsRow B e sz v n xs) : ∃ ao n' cap, v = .slice ao n' cap := by
  rcases h.2 with ⟨e, _⟩ | ⟨_, _, _, e, _⟩
  · exact ⟨_, _, _, e⟩
  · exact ⟨_, _, _, e⟩
end Go.Proofs.YteonkfedgopdiaaGreat
