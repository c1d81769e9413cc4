/-
  What this seat's claims lean on of the texts ObjSort, VecMem.
  Conditions: as each theorem states.
-/
import Derived.WalkKit
import Derived.ProofKit
import Derived.Below
import Derived.Deep.Draws
import Derived.Deep.RegionHeld
import Derived.Test.YteonkfedgopdiaaGreatChecked
import Derived.OpenShut
import Derived.ShutString
import Derived.WalkSpells
import Derived.WalkLawsBesides
import Derived.Deep.QuietTactic
import Derived.BigQuiet
import Derived.Laws.Bits64b
import Derived.PlainAid
import Derived.Lib.AppendStr
import Derived.Deep.AppendLies
import Derived.Laws.IdiomStrings
import Derived.Laws.BytesArg
import Derived.Deep.RegionWith
import Derived.Test.YteonkfedgopdiaaGreatZ9
import Derived.Laws.AppendOwn
import Derived.Deep.DeepAppendWide
import Derived.Deep.Upon
import Derived.Test.YteonkfedgopdiaaGreatZ6
namespace Go.Proofs.YteonkfedgopdiaaGreat
open Go.RowKit
def kb (x : Sb) : ByteArray := eClk x.k
def Rise (l : List Sb) : Prop := l.Pairwise (fun x y => bl (kb x) (kb y) = true)
def ins (x : Sb) : List Sb → List Sb
  | [] => [x]
  | y :: l => if bl (kb y) (kb x) = true then y :: ins x l else x :: y :: l
def isort : List Sb → List Sb
  | [] => []
  | x :: l => ins x (isort l)
theorem ins_perm (x : Sb) : ∀ l, (ins x l).Perm (x :: l)
  | [] => List.Perm.refl _
  | y :: l => by
    unfold ins
    split
    · exact ((ins_perm x l).cons y).trans (List.Perm.swap x y l)
    · exact List.Perm.refl _
theorem isort_perm : ∀ l, (isort l).Perm l
  | [] => List.Perm.refl _
  | x :: l => (ins_perm x (isort l)).trans ((isort_perm l).cons x)
def Weak (l : List Sb) : Prop := l.Pairwise (fun x y => bl (kb y) (kb x) = false)
theorem bl_trans_no {a b c : ByteArray} (h1 : bl b a = false) (h2 : bl c b = false) : bl c a = false := by
  cases h : bl c a with
  | false => rfl
  | true =>
    rcases bl_tri h1 with h3 | h3
    · rw [bl_trans h h3] at h2; cases h2
    · subst h3; rw [h] at h2; cases h2
theorem ins_weak {x : Sb} : ∀ {l : List Sb}, Weak l → Weak (ins x l)
  | [], _ => List.pairwise_singleton _ _
  | y :: l, h => by
    obtain ⟨h1, h2⟩ := List.pairwise_cons.1 h
    unfold ins
    split
    · rename_i hb
      refine List.pairwise_cons.2 ⟨fun z hz => ?_, ins_weak h2⟩
      rcases List.mem_cons.1 ((ins_perm x l).mem_iff.1 hz) with rfl | hz
      · exact bl_asym hb
      · exact h1 z hz
    · rename_i hb
      have hb : bl (kb y) (kb x) = false := by simpa using hb
      refine List.pairwise_cons.2 ⟨fun z hz => ?_, h⟩
      rcases List.mem_cons.1 hz with rfl | hz
      · exact hb
      · exact bl_trans_no hb (h1 z hz)
theorem isort_weak : ∀ l, Weak (isort l)
  | [] => List.Pairwise.nil
  | _ :: l => ins_weak (isort_weak l)
def rising : List Sb → Bool
  | x :: y :: l => bl (kb x) (kb y) && rising (y :: l)
  | _ => true
theorem rising_iff : ∀ {l : List Sb}, rising l = true ↔ Rise l
  | [] => ⟨fun _ => List.Pairwise.nil, fun _ => rfl⟩
  | [x] => ⟨fun _ => List.pairwise_singleton _ _, fun _ => rfl⟩
  | x :: y :: l => by
    rw [rising, Bool.and_eq_true, rising_iff (l := y :: l)]
    unfold Rise
    rw [List.pairwise_cons (a := x)]
    constructor
    · rintro ⟨h1, h2⟩
      refine ⟨fun z hz => ?_, h2⟩
      rcases List.mem_cons.1 hz with rfl | hz
      · exact h1
      · exact bl_trans h1 ((List.pairwise_cons.1 h2).1 z hz)
    · rintro ⟨h1, h2⟩
      exact ⟨h1 y List.mem_cons_self, h2⟩
theorem rise_ext : ∀ {a b : List Sb}, Rise a → Rise b → (∀ x, x ∈ a ↔ x ∈ b) → a = b
  | [], [], _, _, _ => rfl
  | [], y :: m, _, _, h => absurd ((h y).2 List.mem_cons_self) List.not_mem_nil
  | x :: l, [], _, _, h => absurd ((h x).1 List.mem_cons_self) List.not_mem_nil
  | x :: l, y :: m, ha, hb, h => by
    obtain ⟨a1, a2⟩ := List.pairwise_cons.1 ha
    obtain ⟨b1, b2⟩ := List.pairwise_cons.1 hb
    have e : x = y := by
      rcases List.mem_cons.1 ((h x).1 List.mem_cons_self) with e | hx
      · exact e
      · rcases List.mem_cons.1 ((h y).2 List.mem_cons_self) with e | hy
        · exact e.symm
        · have h1 := b1 x hx
          have h2 := a1 y hy
          rw [bl_asym h1] at h2
          cases h2
    subst e
    congr 1
    refine rise_ext a2 b2 (fun z => ?_)
    constructor
    · intro hz
      rcases List.mem_cons.1 ((h z).1 (List.mem_cons_of_mem _ hz)) with e | hz'
      · subst e
        have := a1 z hz
        rw [bl_irr] at this
        cases this
      · exact hz'
    · intro hz
      rcases List.mem_cons.1 ((h z).2 (List.mem_cons_of_mem _ hz)) with e | hz'
      · subst e
        have := b1 z hz
        rw [bl_irr] at this
        cases this
      · exact hz'
def Apart (l : List Sb) : Prop := l.Pairwise (fun x y => kb x ≠ kb y)
theorem apart_perm {a b : List Sb} (h : a.Perm b) : Apart a ↔ Apart b := h.pairwise_iff (fun h => Ne.symm h)
theorem rise_apart {l : List Sb} (h : Rise l) : Apart l := h.imp (fun h => bl_ne h)
theorem weak_rise {l : List Sb} (h : Weak l) (h1 : Apart l) : Rise l := by
  refine (h.and h1).imp (fun {x y} hxy => ?_)
  rcases bl_tri hxy.1 with h2 | h2
  · exact h2
  · exact absurd h2.symm hxy.2
theorem sort_yes {l R : List Sb} (hp : R.Perm l) (hr : Rise R) : rising (isort l) = true ∧ R = isort l := by
  have h1 : Apart (isort l) := (apart_perm (isort_perm l)).2 ((apart_perm hp).1 (rise_apart hr))
  have h2 : Rise (isort l) := weak_rise (isort_weak l) h1
  exact ⟨rising_iff.2 h2, rise_ext hr h2 (fun x => hp.mem_iff.trans (isort_perm l).mem_iff.symm)⟩
theorem sort_no {l : List Sb} (h : ¬ Apart l) : rising (isort l) = false := by
  cases hr : rising (isort l) with
  | false => rfl
  | true => exact absurd ((apart_perm (isort_perm l)).1 (rise_apart (rising_iff.1 hr))) h
def sBad : List Sb → Int
  | [] => 0
  | x :: l => if sCheck x = 0 then sBad l else sCheck x
theorem sBad_zero : ∀ {l : List Sb}, sBad l = 0 ↔ ∀ x ∈ l, sCheck x = 0
  | [] => ⟨(fun _ _ h => by cases h), fun _ => rfl⟩
  | x :: l => by
    rw [sBad]
    constructor
    · intro h y hy
      by_cases h0 : sCheck x = 0
      · rw [if_pos h0] at h
        rcases List.mem_cons.1 hy with rfl | hy
        · exact h0
        · exact sBad_zero.1 h y hy
      · rw [if_neg h0] at h
        exact absurd h h0
    · intro h
      rw [if_pos (h x List.mem_cons_self)]
      exact sBad_zero.2 (fun y hy => h y (List.mem_cons_of_mem _ hy))
theorem sBad_drop {l : List Sb} {k : Nat} (h : k < l.length) : sBad (l.drop k) = if sCheck l[k] = 0 then sBad (l.drop (k + 1)) else sCheck l[k] := by
  rw [List.drop_eq_getElem_cons h, sBad]
def oSort (key : ByteArray) (l : List Sb) : Ob × Int := if outS key l.length = 0 then (if sBad l = 0 then (if rising (isort l) = true then (⟨key, isort l⟩, 0) else (zOb, 6)) else (zOb, sBad l)) else (zOb, outS key l.length)
theorem oSort_out {key : ByteArray} {l : List Sb} (h : outS key l.length ≠ 0) : oSort key l = (zOb, outS key l.length) := if_neg h
theorem oSort_bad {key : ByteArray} {l : List Sb} (h : outS key l.length = 0) (h1 : sBad l ≠ 0) : oSort key l = (zOb, sBad l) := by unfold oSort; rw [if_pos h, if_neg h1]
theorem oSort_same {key : ByteArray} {l : List Sb} (h : outS key l.length = 0) (h1 : sBad l = 0) (h2 : ¬ Apart l) : oSort key l = (zOb, 6) := by unfold oSort; rw [if_pos h, if_pos h1, sort_no h2, if_neg (by decide)]
theorem oSort_yes {key : ByteArray} {l R : List Sb} (h : outS key l.length = 0) (h1 : sBad l = 0) (hp : R.Perm l) (hr : Rise R) : oSort key l = (⟨key, R⟩, 0) := by
  obtain ⟨h2, h3⟩ := sort_yes hp hr
  unfold oSort
  rw [if_pos h, if_pos h1, if_pos h2, h3]
structure Sel (l out left : List Sb) : Prop where
  perm : (out ++ left).Perm l
  rise : Rise out
  low : ∀ x ∈ out, ∀ y ∈ left, bl (kb y) (kb x) = false
theorem Sel.done {l out : List Sb} (h : Sel l out []) : out.Perm l ∧ Rise out := ⟨by have := h.perm; rwa [List.append_nil] at this, h.rise⟩
theorem left_perm {left : List Sb} {k : Nat} (h : k < left.length) : (left[k] :: (left.take k ++ left.drop (k + 1))).Perm left := by
  have e : left = left.take k ++ left[k] :: left.drop (k + 1) := by
    rw [← List.drop_eq_getElem_cons h, List.take_append_drop]
  exact (List.perm_middle.symm).trans (by rw [← e])
theorem Sel.same {l out left : List Sb} (h : Sel l out left) {x y : Sb} (hx : x ∈ out) (hy : y ∈ left) (e : kb x = kb y) : ¬ Apart l := by
  intro ha
  have h1 := (apart_perm h.perm).2 ha
  exact (List.pairwise_append.1 h1).2.2 x hx y hy e
theorem Sel.step {l out left : List Sb} (h : Sel l out left) {k : Nat} (hk : k < left.length) (hm : ∀ y ∈ left, bl (kb y) (kb left[k]) = false) (hl : ∀ x, out.getLast? = some x → kb x ≠ kb left[k]) : Sel l (out ++ [left[k]]) (left.take k ++ left.drop (k + 1)) := by
  have hp := left_perm hk
  have hmem : ∀ y, y ∈ left.take k ++ left.drop (k + 1) → y ∈ left := fun y hy => hp.mem_iff.1 (List.mem_cons_of_mem _ hy)
  refine ⟨?_, ?_, ?_⟩
  · rw [List.append_assoc]
    exact (List.Perm.append_left out hp).trans h.perm
  · refine List.pairwise_append.2 ⟨h.rise, List.pairwise_singleton _ _, fun x hx y hy => ?_⟩
    rw [List.mem_singleton.1 hy]
    rcases bl_tri (h.low x hx left[k] (List.getElem_mem hk)) with h2 | h2
    · exact h2
    · exfalso
      obtain ⟨z, hz⟩ : ∃ z, out.getLast? = some z := by
        cases hg : out.getLast? with
        | none => rw [List.getLast?_eq_none_iff.1 hg] at hx; cases hx
        | some z => exact ⟨z, rfl⟩
      have hzm : z ∈ out := List.mem_of_getLast? hz
      have h3 := hl z hz
      have h4 := h.low z hzm left[k] (List.getElem_mem hk)
      obtain ⟨init, hi⟩ : ∃ init, out = init ++ [z] := List.getLast?_eq_some_iff.1 hz
      have hr := h.rise
      rw [hi] at hr hx
      rcases List.mem_append.1 hx with hx | hx
      · have := (List.pairwise_append.1 hr).2.2 x hx z List.mem_cons_self
        rw [h2, this] at h4
        cases h4
      · rw [List.mem_singleton.1 hx] at h2
        exact h3 h2.symm
  · intro x hx y hy
    rcases List.mem_append.1 hx with hx | hx
    · exact h.low x hx y (hmem y hy)
    · rw [List.mem_singleton.1 hx]
      exact hm y (hmem y hy)
end Go.Proofs.YteonkfedgopdiaaGreat
namespace Go.Proofs.YteonkfedgopdiaaGreat
open Go.RowKit
def En.cells (x : En) : List Value := [.string x.a, .int .u64 (x.n : Int)]
def En.val (x : En) : Value := .agg #[.string x.a, .int .u64 (x.n : Int)]
def EnsAt (w : World) (ao : Option Addr) (l : List En) : Prop := ∀ i (_ : i < l.length), ∃ b off, ao = some ⟨b, off, none⟩ ∧
  w.cell? ⟨b, off + i * 2, none⟩ = some (.string l[i].a) ∧ w.cell? ⟨b, off + i * 2 + 1, none⟩ = some (.int .u64 (l[i].n : Int))
def ApartE (R : Nat → Prop) (ao : Option Addr) : Prop := ∀ b off m, ao = some ⟨b, off, m⟩ → ¬ R b
theorem EnsAt.keep {R : Nat → Prop} {w w' : World} {ao : Option Addr} {l : List En} (h : EnsAt w ao l) (K : Keep R w w') (hn : ApartE R ao) : EnsAt w' ao l := by
  intro i hi
  obtain ⟨b, off, e, h1, h2⟩ := h i hi
  have hb := hn _ _ _ e
  exact ⟨b, off, e, K.cell h1 hb, K.cell h2 hb⟩
theorem EnsAt.keep0 {w w' : World} {ao : Option Addr} {l : List En} (h : EnsAt w ao l) (K : Keep0 w w') : EnsAt w' ao l := h.keep K (fun _ _ _ _ f => f)
theorem ens_nil (w : World) (ao : Option Addr) : EnsAt w ao [] := fun i hi => absurd hi (Nat.not_lt_zero i)
def enCells (l : List En) : List Value := l.flatMap En.cells
theorem enCells_len (l : List En) : (enCells l).length = l.length * 2 := by
  induction l with
  | nil => rfl
  | cons f l ih =>
    show (f.cells ++ enCells l).length = _
    rw [List.length_append, ih, List.length_cons]
    show 2 + _ = _
    omega
theorem enCells_app (l r : List En) : enCells (l ++ r) = enCells l ++ enCells r := List.flatMap_append
theorem enCells_get : ∀ (l : List En) (i : Nat) (hi : i < l.length) (j : Nat), j < 2 → (enCells l)[i * 2 + j]? = l[i].cells[j]?
  | f :: l, 0, _, j, hj => by
    show (f.cells ++ enCells l)[0 * 2 + j]? = f.cells[j]?
    rw [Nat.zero_mul, Nat.zero_add, List.getElem?_append_left (by show j < 2; exact hj)]
  | f :: l, i + 1, hi, j, hj => by
    have hi' : i < l.length := by simpa using hi
    have ih := enCells_get l i hi' j hj
    show (f.cells ++ enCells l)[(i + 1) * 2 + j]? = l[i].cells[j]?
    have e : f.cells.length = 2 := rfl
    rw [List.getElem?_append_right (by rw [e]; omega), e, show (i + 1) * 2 + j - 2 = i * 2 + j from by omega, ih]
theorem enCells_one (l : List En) : ∀ u ∈ enCells l, u.oneCell' = true := by
  intro u hu
  unfold enCells at hu
  obtain ⟨f, _, hf⟩ := List.mem_flatMap.1 hu
  simp only [En.cells, List.mem_cons, List.mem_nil_iff, or_false] at hf
  rcases hf with rfl | rfl <;> rfl
theorem ens_of_row {w : World} {B : Nat} {e : TypeId} {v : Value} {n : Nat} {l : List En} (h : w.ownsRow B e 2 v n (enCells l)) :
    ∃ ao cap, v = .slice ao l.length cap ∧ EnsAt w ao l ∧ (∀ b off m, ao = some ⟨b, off, m⟩ → B ≤ b) ∧ l.length ≤ cap := by
  have hn : n = l.length := by have := h.1; rw [enCells_len] at this; omega
  subst hn
  rcases h.2 with ⟨rfl, h0⟩ | ⟨g, cap, cur, rfl, hb, hg, hcap, hrest⟩
  · exact ⟨none, 0, by rw [h0], fun i hi => by omega, (fun b off m e => by cases e), by omega⟩
  · refine ⟨some ⟨g, 0, none⟩, cap, rfl, fun i hi => ⟨g, 0, rfl, ?_⟩, (fun b off m e => by cases e; exact hb), hcap⟩
    have hc := h.cells (g := g) rfl
    have k : ∀ j u, j < 2 → l[i].cells[j]? = some u → w.cell? ⟨g, 0 + i * 2 + j, none⟩ = some u := by
      intro j u hj hu
      have := hc (i * 2 + j) u ((enCells_get l i hi j hj).trans hu)
      rwa [add_plain, ← Nat.add_assoc] at this
    exact ⟨k 0 _ (by decide) rfl, k 1 _ (by decide) rfl⟩
theorem ens_cells {w : World} {ao : Option Addr} {l : List En} (h : EnsAt w ao l) (hne : 0 < l.length) : ∃ b off, ao = some ⟨b, off, none⟩ ∧ ∀ j u, (enCells l)[j]? = some u → w.cell? ((⟨b, off, none⟩ : Addr).add j) = some u := by
  obtain ⟨b, off, rfl, _⟩ := h 0 hne
  refine ⟨b, off, rfl, fun j u hu => ?_⟩
  have hj : j < (enCells l).length := (List.getElem?_eq_some_iff.1 hu).1
  rw [enCells_len] at hj
  have hi : j / 2 < l.length := by omega
  have hr : j % 2 < 2 := Nat.mod_lt _ (by decide)
  have ej : j / 2 * 2 + j % 2 = j := by omega
  obtain ⟨b', off', e, h0, h1⟩ := h (j / 2) hi
  cases e
  have hu' := enCells_get l (j / 2) hi (j % 2) hr
  rw [ej, hu] at hu'
  rw [add_plain]
  have hc : j % 2 = 0 ∨ j % 2 = 1 := by omega
  rcases hc with hc | hc
  · rw [hc] at hu'
    have : u = .string l[j / 2].a := by simpa [En.cells] using hu'
    rw [this, ← h0]
    congr 2
    omega
  · rw [hc] at hu'
    have : u = .int .u64 (l[j / 2].n : Int) := by simpa [En.cells] using hu'
    rw [this, ← h1]
    congr 2
    omega
theorem entry_info : (Tryz.prog.info? 39).map (fun i => (i.zero, i.size, i.bytes)) = some (some (.agg #[.string ⟨#[]⟩, .int .u64 0]), 2, 24) := by kernel_rfl
theorem run_append_ens {w : World} {B : Nat} {v : Value} {l m : List En} {ao : Option Addr} {c : Nat} (ty : TypeId) (ho : w.ownsRow B 39 2 v l.length (enCells l)) (hs : EnsAt w ao m) (hB : B ≤ w.heap.size) (hlen : l.length + m.length ≤ 1000000) :
    ∃ v' w', (Builtin.append_ #[36, 36] ty #[v, .slice ao m.length c]).run Tryz.prog w = .ok v' w' ∧ w'.ownsRow B 39 2 v' (l ++ m).length (enCells (l ++ m)) ∧ w.grownBy w' v.ownBlock := by
  obtain ⟨i0, hi, z0, z1, z2⟩ := info_parts entry_info
  have big : ∀ a, (∀ j u, (enCells m)[j]? = some u → w.cell? (Addr.add a j) = some u) → ∃ v' w', (Builtin.append_ #[36, 36] ty #[v, .slice (some a) m.length c]).run Tryz.prog w = .ok v' w' ∧ w'.ownsRow B 39 2 v' (l ++ m).length (enCells (l ++ m)) ∧ w.grownBy w' v.ownBlock := by
    intro a ha
    obtain ⟨v', w', h1, h2, h3, _⟩ := run_append_own_wide (P := Tryz.prog) w B 36 ty 39 i0 _ 2 24 Tryz.underlying36 hi z0 z1 z2 rfl (by decide) v l.length (enCells l) ho a m.length c (enCells m) (enCells_len m) ha (enCells_one m) (by unfold maxLen; omega) (by omega) hB
    exact ⟨v', w', h1, by rw [enCells_app, List.length_append]; exact h2, h3⟩
  by_cases hm : 0 < m.length
  · obtain ⟨b, off, rfl, hc⟩ := ens_cells hs hm
    exact big _ hc
  · have hm' : m = [] := List.eq_nil_of_length_eq_zero (by omega)
    subst hm'
    cases ao with
    | some a => exact big a (fun j u hu => by cases hu)
    | none =>
      have hsrc : Src Tryz.prog i0.size 36 (.slice none 0 c) 0 [] w := Src.ofNil w Tryz.underlying36 c
      have hv : ∃ base n cap, v = .slice base n cap ∧ n ≤ cap := by
        rcases ho.2 with ⟨e, _⟩ | ⟨g, cp, cur, e, _, _, hc, _⟩
        · exact ⟨_, _, _, e, Nat.le_refl _⟩
        · exact ⟨_, _, _, e, hc⟩
      obtain ⟨base, n, cap, rfl, hle⟩ := hv
      refine ⟨_, w, run_append_nothing w 36 36 ty 39 i0 Tryz.underlying36 hi base n cap hle _ hsrc, ?_, ⟨rfl, rfl, rfl, Nat.le_refl _, fun _ _ _ => rfl⟩⟩
      rw [List.append_nil]
      exact ho
theorem wpList_append_ens {w : World} {ops : Array Oper} {rest : List Oper} {o : Oper} {a : Act} {Q : Exit → Act → World → Prop} (hgd : o.guard = none) (s x : Operand)
    (ho : o.op = .call { callee := .builtin .append, args := #[s, x], argTypes := #[36, 36] }) {B : Nat} {v : Value} {l m : List En} {ao : Option Addr} {c : Nat}
    (hs : a.eval s = v) (hx : a.eval x = .slice ao m.length c) (hown : w.ownsRow B 39 2 v l.length (enCells l)) (hsrc : EnsAt w ao m) (hB : B ≤ w.heap.size) (hlen : l.length + m.length ≤ 1000000)
    (h : ∀ v' w', w'.ownsRow B 39 2 v' (l ++ m).length (enCells (l ++ m)) → w.grownBy w' v.ownBlock → wpList Tryz.prog ops Q rest (a.put o.dst v') w') : wpList Tryz.prog ops Q (o :: rest) a w :=
  wpList_plain hgd fun _ hK => by
    obtain ⟨v', w', hr, h2, h3⟩ := run_append_ens (c := c) o.type hown hsrc hB hlen
    unfold Oper.wp execOp
    simp only [ho, resolve, invoke, builtin, Sem.run_bind, Sem.run_pure, Result.andThen_ok, List.map_toArray, List.map_cons, List.map_nil, hs, hx, hr]
    exact hK _ _ (h v' w' h2 h3)
theorem en_new (w : World) (t : TypeId) (x : En) : EnsAt (w.alloc (.cells #[.string x.a, .int .u64 (x.n : Int)] t)) (some ⟨w.heap.size, 0, none⟩) [x] := by
  intro i hi
  obtain rfl : i = 0 := by simpa using hi
  exact ⟨w.heap.size, 0, rfl, cell_alloc w t rfl, cell_alloc w t rfl⟩
theorem rowE_keep {R : Nat → Prop} {w w' : World} {B : Nat} {e : TypeId} {sz : Nat} {v : Value} {n : Nat} {xs : List Value} (h : w.ownsRow B e sz v n xs) (K : Keep R w w') (hn : ∀ k, B ≤ k → ¬ R k) : w'.ownsRow B e sz v n xs := by
  refine ⟨h.1, ?_⟩
  rcases h.2 with h0 | ⟨g, cap, cur, e1, hb, hg, rest⟩
  · exact .inl h0
  · exact .inr ⟨g, cap, cur, e1, hb, (K.block g (Array.getElem?_eq_some_iff.1 hg).1 (hn g hb)).trans hg, rest⟩
theorem Keep.ownGrown {w w1 w2 : World} {row : Option Nat} (K : Keep0 w w1) (g : w1.grownBy w2 row) (h : ∀ k, row = some k → w.heap.size ≤ k) : Keep0 w w2 :=
  K.step (⟨g.os, g.tape, g.output, g.size, fun k hk hn => g.block k hk (fun e => hn (h k e.symm))⟩ : KeepFrom w.heap.size w1 w2) (fun i hi hh => by have hh : w.heap.size ≤ i := hh; omega)
theorem sliceE_of_own {w : World} {B : Nat} {e : TypeId} {sz n : Nat} {v : Value} {xs : List Value} (h : w.ownsRow B e sz v n xs) : ∃ ao n' cap, v = .slice ao n' cap := by
  rcases h.2 with ⟨e, _⟩ | ⟨_, _, _, e, _⟩
  · exact ⟨_, _, _, e⟩
  · exact ⟨_, _, _, e⟩
end Go.Proofs.YteonkfedgopdiaaGreat
