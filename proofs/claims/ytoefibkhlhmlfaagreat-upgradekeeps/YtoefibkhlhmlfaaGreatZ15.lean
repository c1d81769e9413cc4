/-
  What this seat's claims lean on of the texts ObjSort, OldMem, RefVcode2, Open12, Law10, PrA.
  Conditions: as each theorem states.
-/
import Derived.WalkKit
import Derived.ProofKit
import Derived.Below
import Derived.Deep.Draws
import Derived.Deep.RegionHeld
import Derived.Test.YtoefibkhlhmlfaaGreatChecked
import Derived.OpenShut
import Derived.ShutString
import Derived.WalkSpells
import Derived.WalkLawsBesides
import Derived.Deep.QuietTactic
import Derived.BigQuiet
import Derived.Laws.Bits64b
import Derived.PlainAid
import Derived.Lib.AppendStr
import Derived.Deep.AppendLies
import Derived.Laws.IdiomStrings
import Derived.Laws.BytesArg
import Derived.Deep.RegionWith
import Derived.Test.YtoefibkhlhmlfaaGreatZ14
import Derived.Laws.AppendOwn
import Derived.Deep.DeepAppendWide
import Derived.Deep.Upon
import Derived.Maps.AppendAt
import Derived.Deep.Slices
import Derived.Test.YtoefibkhlhmlfaaGreatZ8
import Derived.Test.YtoefibkhlhmlfaaGreatZ10
import Derived.Test.YtoefibkhlhmlfaaGreatZ3
import Derived.Test.YtoefibkhlhmlfaaGreatZ5
namespace Go.Proofs.YtoefibkhlhmlfaaGreat
open Go.RowKit
def kb (x : Sb) : ByteArray := eClk x.k
def Rise (l : List Sb) : Prop := l.Pairwise (fun x y => bl (kb x) (kb y) = true)
def ins (x : Sb) : List Sb → List Sb
  | [] => [x]
  | y :: l => if bl (kb y) (kb x) = true then y :: ins x l else x :: y :: l
def isort : List Sb → List Sb
  | [] => []
  | x :: l => ins x (isort l)
theorem ins_perm (x : Sb) : ∀ l, (ins x l).Perm (x :: l)
  | [] => List.Perm.refl _
  | y :: l => by
    unfold ins
    split
    · exact ((ins_perm x l).cons y).trans (List.Perm.swap x y l)
    · exact List.Perm.refl _
theorem isort_perm : ∀ l, (isort l).Perm l
  | [] => List.Perm.refl _
  | x :: l => (ins_perm x (isort l)).trans ((isort_perm l).cons x)
def Weak (l : List Sb) : Prop := l.Pairwise (fun x y => bl (kb y) (kb x) = false)
theorem bl_trans_no {a b c : ByteArray} (h1 : bl b a = false) (h2 : bl c b = false) : bl c a = false := by
  cases h : bl c a with
  | false => rfl
  | true =>
    rcases bl_tri h1 with h3 | h3
    · rw [bl_trans h h3] at h2; cases h2
    · subst h3; rw [h] at h2; cases h2
theorem ins_weak {x : Sb} : ∀ {l : List Sb}, Weak l → Weak (ins x l)
  | [], _ => List.pairwise_singleton _ _
  | y :: l, h => by
    obtain ⟨h1, h2⟩ := List.pairwise_cons.1 h
    unfold ins
    split
    · rename_i hb
      refine List.pairwise_cons.2 ⟨fun z hz => ?_, ins_weak h2⟩
      rcases List.mem_cons.1 ((ins_perm x l).mem_iff.1 hz) with rfl | hz
      · exact bl_asym hb
      · exact h1 z hz
    · rename_i hb
      have hb : bl (kb y) (kb x) = false := by simpa using hb
      refine List.pairwise_cons.2 ⟨fun z hz => ?_, h⟩
      rcases List.mem_cons.1 hz with rfl | hz
      · exact hb
      · exact bl_trans_no hb (h1 z hz)
theorem isort_weak : ∀ l, Weak (isort l)
  | [] => List.Pairwise.nil
  | _ :: l => ins_weak (isort_weak l)
def rising : List Sb → Bool
  | x :: y :: l => bl (kb x) (kb y) && rising (y :: l)
  | _ => true
theorem rising_iff : ∀ {l : List Sb}, rising l = true ↔ Rise l
  | [] => ⟨fun _ => List.Pairwise.nil, fun _ => rfl⟩
  | [x] => ⟨fun _ => List.pairwise_singleton _ _, fun _ => rfl⟩
  | x :: y :: l => by
    rw [rising, Bool.and_eq_true, rising_iff (l := y :: l)]
    unfold Rise
    rw [List.pairwise_cons (a := x)]
    constructor
    · rintro ⟨h1, h2⟩
      refine ⟨fun z hz => ?_, h2⟩
      rcases List.mem_cons.1 hz with rfl | hz
      · exact h1
      · exact bl_trans h1 ((List.pairwise_cons.1 h2).1 z hz)
    · rintro ⟨h1, h2⟩
      exact ⟨h1 y List.mem_cons_self, h2⟩
theorem rise_ext : ∀ {a b : List Sb}, Rise a → Rise b → (∀ x, x ∈ a ↔ x ∈ b) → a = b
  | [], [], _, _, _ => rfl
  | [], y :: m, _, _, h => absurd ((h y).2 List.mem_cons_self) List.not_mem_nil
  | x :: l, [], _, _, h => absurd ((h x).1 List.mem_cons_self) List.not_mem_nil
  | x :: l, y :: m, ha, hb, h => by
    obtain ⟨a1, a2⟩ := List.pairwise_cons.1 ha
    obtain ⟨b1, b2⟩ := List.pairwise_cons.1 hb
    have e : x = y := by
      rcases List.mem_cons.1 ((h x).1 List.mem_cons_self) with e | hx
      · exact e
      · rcases List.mem_cons.1 ((h y).2 List.mem_cons_self) with e | hy
        · exact e.symm
        · have h1 := b1 x hx
          have h2 := a1 y hy
          rw [bl_asym h1] at h2
          cases h2
    subst e
    congr 1
    refine rise_ext a2 b2 (fun z => ?_)
    constructor
    · intro hz
      rcases List.mem_cons.1 ((h z).1 (List.mem_cons_of_mem _ hz)) with e | hz'
      · subst e
        have := a1 z hz
        rw [bl_irr] at this
        cases this
      · exact hz'
    · intro hz
      rcases List.mem_cons.1 ((h z).2 (List.mem_cons_of_mem _ hz)) with e | hz'
      · subst e
        have := b1 z hz
        rw [bl_irr] at this
        cases this
      · exact hz'
def Apart (l : List Sb) : Prop := l.Pairwise (fun x y => kb x ≠ kb y)
theorem apart_perm {a b : List Sb} (h : a.Perm b) : Apart a ↔ Apart b := h.pairwise_iff (fun h => Ne.symm h)
theorem rise_apart {l : List Sb} (h : Rise l) : Apart l := h.imp (fun h => bl_ne h)
theorem weak_rise {l : List Sb} (h : Weak l) (h1 : Apart l) : Rise l := by
  refine (h.and h1).imp (fun {x y} hxy => ?_)
  rcases bl_tri hxy.1 with h2 | h2
  · exact h2
  · exact absurd h2.symm hxy.2
theorem sort_yes {l R : List Sb} (hp : R.Perm l) (hr : Rise R) : rising (isort l) = true ∧ R = isort l := by
  have h1 : Apart (isort l) := (apart_perm (isort_perm l)).2 ((apart_perm hp).1 (rise_apart hr))
  have h2 : Rise (isort l) := weak_rise (isort_weak l) h1
  exact ⟨rising_iff.2 h2, rise_ext hr h2 (fun x => hp.mem_iff.trans (isort_perm l).mem_iff.symm)⟩
theorem sort_no {l : List Sb} (h : ¬ Apart l) : rising (isort l) = false := by
  cases hr : rising (isort l) with
  | false => rfl
  | true => exact absurd ((apart_perm (isort_perm l)).1 (rise_apart (rising_iff.1 hr))) h
def sBad : List Sb → Int
  | [] => 0
  | x :: l => if sCheck x = 0 then sBad l else sCheck x
theorem sBad_zero : ∀ {l : List Sb}, sBad l = 0 ↔ ∀ x ∈ l, sCheck x = 0
  | [] => ⟨(fun _ _ h => by cases h), fun _ => rfl⟩
  | x :: l => by
    rw [sBad]
    constructor
    · intro h y hy
      by_cases h0 : sCheck x = 0
      · rw [if_pos h0] at h
        rcases List.mem_cons.1 hy with rfl | hy
        · exact h0
        · exact sBad_zero.1 h y hy
      · rw [if_neg h0] at h
        exact absurd h h0
    · intro h
      rw [if_pos (h x List.mem_cons_self)]
      exact sBad_zero.2 (fun y hy => h y (List.mem_cons_of_mem _ hy))
theorem sBad_drop {l : List Sb} {k : Nat} (h : k < l.length) : sBad (l.drop k) = if sCheck l[k] = 0 then sBad (l.drop (k + 1)) else sCheck l[k] := by
  rw [List.drop_eq_getElem_cons h, sBad]
def oSort (key : ByteArray) (l : List Sb) : Ob × Int := if outS key l.length = 0 then (if sBad l = 0 then (if rising (isort l) = true then (⟨key, isort l⟩, 0) else (zOb, 6)) else (zOb, sBad l)) else (zOb, outS key l.length)
theorem oSort_out {key : ByteArray} {l : List Sb} (h : outS key l.length ≠ 0) : oSort key l = (zOb, outS key l.length) := if_neg h
theorem oSort_bad {key : ByteArray} {l : List Sb} (h : outS key l.length = 0) (h1 : sBad l ≠ 0) : oSort key l = (zOb, sBad l) := by unfold oSort; rw [if_pos h, if_neg h1]
theorem oSort_same {key : ByteArray} {l : List Sb} (h : outS key l.length = 0) (h1 : sBad l = 0) (h2 : ¬ Apart l) : oSort key l = (zOb, 6) := by unfold oSort; rw [if_pos h, if_pos h1, sort_no h2, if_neg (by decide)]
theorem oSort_yes {key : ByteArray} {l R : List Sb} (h : outS key l.length = 0) (h1 : sBad l = 0) (hp : R.Perm l) (hr : Rise R) : oSort key l = (⟨key, R⟩, 0) := by
  obtain ⟨h2, h3⟩ := sort_yes hp hr
  unfold oSort
  rw [if_pos h, if_pos h1, if_pos h2, h3]
theorem oSort_good {key : ByteArray} {l : List Sb} (h : (oSort key l).2 = 0) : oCheck (oSort key l).1 = 0 ∧ (oSort key l).1.l.Perm l ∧ (oSort key l).1.key = key := by
  unfold oSort at h ⊢
  by_cases h0 : outS key l.length = 0
  · rw [if_pos h0] at h ⊢
    by_cases h1 : sBad l = 0
    · rw [if_pos h1] at h ⊢
      by_cases h2 : rising (isort l) = true
      · rw [if_pos h2]
        refine ⟨oCheck_zero.2 ⟨?_, fun x hx => sBad_zero.1 h1 x ((isort_perm l).mem_iff.1 hx), rising_iff.1 h2⟩, isort_perm l, rfl⟩
        show outS key (isort l).length = 0
        rw [(isort_perm l).length_eq]
        exact h0
      · rw [if_neg h2] at h; exact absurd h (by decide)
    · rw [if_neg h1] at h; exact absurd h h1
  · rw [if_neg h0] at h; exact absurd h h0
theorem oSort_perm {key : ByteArray} {l m : List Sb} (h : (oSort key l).2 = 0) (hp : m.Perm l) : oSort key m = oSort key l := by
  obtain ⟨h1, h2, h3⟩ := oSort_good h
  obtain ⟨h4, h5⟩ := oCheck_zero.1 h1
  rw [h3, h2.length_eq] at h4
  have hb : sBad l = 0 := sBad_zero.2 (fun x hx => h5.1 x (h2.mem_iff.2 hx))
  have hb' : sBad m = 0 := sBad_zero.2 (fun x hx => h5.1 x (h2.mem_iff.2 (hp.mem_iff.1 hx)))
  rw [oSort_yes h4 hb h2 h5.2, oSort_yes (by rw [hp.length_eq]; exact h4) hb' (h2.trans hp.symm) h5.2]
structure Sel (l out left : List Sb) : Prop where
  perm : (out ++ left).Perm l
  rise : Rise out
  low : ∀ x ∈ out, ∀ y ∈ left, bl (kb y) (kb x) = false
theorem Sel.start (l : List Sb) : Sel l [] l := ⟨List.Perm.refl _, List.Pairwise.nil, (fun _ h => by cases h)⟩
theorem Sel.done {l out : List Sb} (h : Sel l out []) : out.Perm l ∧ Rise out := ⟨by have := h.perm; rwa [List.append_nil] at this, h.rise⟩
theorem left_perm {left : List Sb} {k : Nat} (h : k < left.length) : (left[k] :: (left.take k ++ left.drop (k + 1))).Perm left := by
  have e : left = left.take k ++ left[k] :: left.drop (k + 1) := by
    rw [← List.drop_eq_getElem_cons h, List.take_append_drop]
  exact (List.perm_middle.symm).trans (by rw [← e])
theorem Sel.same {l out left : List Sb} (h : Sel l out left) {x y : Sb} (hx : x ∈ out) (hy : y ∈ left) (e : kb x = kb y) : ¬ Apart l := by
  intro ha
  have h1 := (apart_perm h.perm).2 ha
  exact (List.pairwise_append.1 h1).2.2 x hx y hy e
theorem Sel.step {l out left : List Sb} (h : Sel l out left) {k : Nat} (hk : k < left.length) (hm : ∀ y ∈ left, bl (kb y) (kb left[k]) = false) (hl : ∀ x, out.getLast? = some x → kb x ≠ kb left[k]) : Sel l (out ++ [left[k]]) (left.take k ++ left.drop (k + 1)) := by
  have hp := left_perm hk
  have hmem : ∀ y, y ∈ left.take k ++ left.drop (k + 1) → y ∈ left := fun y hy => hp.mem_iff.1 (List.mem_cons_of_mem _ hy)
  refine ⟨?_, ?_, ?_⟩
  · rw [List.append_assoc]
    exact (List.Perm.append_left out hp).trans h.perm
  · refine List.pairwise_append.2 ⟨h.rise, List.pairwise_singleton _ _, fun x hx y hy => ?_⟩
    rw [List.mem_singleton.1 hy]
    rcases bl_tri (h.low x hx left[k] (List.getElem_mem hk)) with h2 | h2
    · exact h2
    · exfalso
      obtain ⟨z, hz⟩ : ∃ z, out.getLast? = some z := by
        cases hg : out.getLast? with
        | none => rw [List.getLast?_eq_none_iff.1 hg] at hx; cases hx
        | some z => exact ⟨z, rfl⟩
      have hzm : z ∈ out := List.mem_of_getLast? hz
      have h3 := hl z hz
      have h4 := h.low z hzm left[k] (List.getElem_mem hk)
      obtain ⟨init, hi⟩ : ∃ init, out = init ++ [z] := List.getLast?_eq_some_iff.1 hz
      have hr := h.rise
      rw [hi] at hr hx
      rcases List.mem_append.1 hx with hx | hx
      · have := (List.pairwise_append.1 hr).2.2 x hx z List.mem_cons_self
        rw [h2, this] at h4
        cases h4
      · rw [List.mem_singleton.1 hx] at h2
        exact h3 h2.symm
  · intro x hx y hy
    rcases List.mem_append.1 hx with hx | hx
    · exact h.low x hx y (hmem y hy)
    · rw [List.mem_singleton.1 hx]
      exact hm y (hmem y hy)
end Go.Proofs.YtoefibkhlhmlfaaGreat
namespace Go.Proofs.YtoefibkhlhmlfaaGreat
open Go.RowKit
structure Po where
  x : Os
  vo : Option Addr
  vc : Nat
instance : Inhabited Po := ⟨⟨zOs, none, 0⟩⟩
def Po.cells (p : Po) : List Value := [.slice p.vo p.x.c.length p.vc, .bool p.x.d, .string p.x.v]
structure FitsOs (x : Os) : Prop where
  vec : Fits x.c
  val : x.v.size ≤ maxLen
theorem po_one (p : Po) : ∀ u ∈ p.cells, u.oneCell' = true := by
  intro u hu
  simp only [Po.cells, List.mem_cons, List.mem_nil_iff, or_false] at hu
  rcases hu with rfl | rfl | rfl <;> rfl
theorem os_info : (Tryz.prog.info? 56).map (fun i => (i.zero, i.size, i.bytes)) = some (some (.agg #[.slice none 0 0, .bool false, .string ⟨#[]⟩]), 3, 48) := by kernel_rfl
theorem poT : ElemT Po.cells 3 22 56 where
  len := fun _ => rfl
  pos := by decide
  one := po_one
  slice := Tryz.underlying22
  info := by
    obtain ⟨i0, hi, z0, z1, z2⟩ := info_parts os_info
    exact ⟨i0, _, 48, hi, z0, z1, z2, rfl, by decide⟩
structure PoAt (w : World) (b off : Nat) (p : Po) : Prop where
  c0 : w.cell? ⟨b, off, none⟩ = some (.slice p.vo p.x.c.length p.vc)
  c1 : w.cell? ⟨b, off + 1, none⟩ = some (.bool p.x.d)
  c2 : w.cell? ⟨b, off + 2, none⟩ = some (.string p.x.v)
theorem PoAt.keep {R : Nat → Prop} {w w' : World} {b off : Nat} {p : Po} (h : PoAt w b off p) (K : Keep R w w') (hn : ¬ R b) : PoAt w' b off p := ⟨K.cell h.c0 hn, K.cell h.c1 hn, K.cell h.c2 hn⟩
theorem PoAt.keep0 {w w' : World} {b off : Nat} {p : Po} (h : PoAt w b off p) (K : Keep0 w w') : PoAt w' b off p := h.keep K (fun f => f)
structure PosAt (w : World) (ao : Option Addr) (L : List Po) : Prop where
  row : RowAt Po.cells 3 w ao L
  ins : ∀ p ∈ L, EnsAt w p.vo p.x.c
theorem PosAt.keep0 {w w' : World} {ao : Option Addr} {L : List Po} (h : PosAt w ao L) (K : Keep0 w w') : PosAt w' ao L := ⟨h.row.keep0 K, fun p hp => (h.ins p hp).keep0 K⟩
theorem PosAt.nil (w : World) (ao : Option Addr) : PosAt w ao [] := ⟨rowAt_nil _ _, (fun _ h => by cases h)⟩
theorem PosAt.at_ {w : World} {ao : Option Addr} {L : List Po} (h : PosAt w ao L) (i : Nat) (hi : i < L.length) : ∃ b off, ao = some ⟨b, off, none⟩ ∧ PoAt w b (off + i * 3) L[i] ∧ EnsAt w L[i].vo L[i].x.c := by
  obtain ⟨b, off, e, h1⟩ := h.row i hi
  exact ⟨b, off, e, ⟨h1 0 _ rfl, h1 1 _ rfl, h1 2 _ rfl⟩, h.ins _ (List.getElem_mem hi)⟩
theorem poAt_new (w : World) (t : TypeId) (p : Po) : PoAt (w.alloc (.cells #[.slice p.vo p.x.c.length p.vc, .bool p.x.d, .string p.x.v] t)) w.heap.size 0 p := ⟨cell_alloc w t rfl, cell_alloc w t rfl, cell_alloc w t rfl⟩
theorem po_new (w : World) (t : TypeId) (p : Po) : RowAt Po.cells 3 (w.alloc (.cells #[.slice p.vo p.x.c.length p.vc, .bool p.x.d, .string p.x.v] t)) (some ⟨w.heap.size, 0, none⟩) [p] := by
  intro i hi
  obtain rfl : i = 0 := by simpa using hi
  refine ⟨w.heap.size, 0, rfl, fun j u hu => ?_⟩
  have h1 := poAt_new w t p
  match j, hu with
  | 0, hu => cases hu; exact h1.c0
  | 1, hu => cases hu; exact h1.c1
  | 2, hu => cases hu; exact h1.c2
  | j + 3, hu => cases hu
structure OwnO (B : Nat) (w : World) (v : Value) (L : List Po) : Prop where
  row : w.ownsRow B 56 3 v L.length (rowOf Po.cells L)
  ins : ∀ p ∈ L, EnsAt w p.vo p.x.c
  vec : ∀ p ∈ L, ∀ g off m, p.vo = some ⟨g, off, m⟩ → B ≤ g ∧ (p.x.c.length = 0 ∨ v.ownBlock ≠ some g)
theorem ens_keepO {R : Nat → Prop} {w w' : World} {ao : Option Addr} {l : List En} (h : EnsAt w ao l) (K : Keep R w w') (hn : ∀ g off m, ao = some ⟨g, off, m⟩ → l.length = 0 ∨ ¬ R g) : EnsAt w' ao l := by
  by_cases h0 : l.length = 0
  · exact fun i hi => by omega
  · exact h.keep K (fun g off m e => (hn g off m e).resolve_left h0)
theorem ens_ltO {w : World} {ao : Option Addr} {l : List En} (h : EnsAt w ao l) : ∀ g off m, ao = some ⟨g, off, m⟩ → l.length = 0 ∨ g < w.heap.size := by
  intro g off m e
  by_cases h0 : l.length = 0
  · exact .inl h0
  · obtain ⟨b, o, e', h1, _⟩ := h 0 (by omega)
    rw [e] at e'
    cases e'
    exact .inr (World.block_lt_of_cell? w _ h1)
theorem OwnO.nil (B : Nat) (w : World) : OwnO B w (.slice none 0 0) [] := ⟨⟨by show 0 = 0 * 3; rfl, .inl ⟨rfl, rfl⟩⟩, (fun _ h => by cases h), (fun _ h => by cases h)⟩
theorem OwnO.keep {R : Nat → Prop} {B : Nat} {w w' : World} {v : Value} {L : List Po} (h : OwnO B w v L) (K : Keep R w w') (hn : ∀ g, B ≤ g → ¬ R g) : OwnO B w' v L :=
  ⟨rowE_keep h.row K hn, fun p hp => (h.ins p hp).keep K (fun g off m e => hn g (h.vec p hp g off m e).1), h.vec⟩
theorem OwnO.keep0 {B : Nat} {w w' : World} {v : Value} {L : List Po} (h : OwnO B w v L) (K : Keep0 w w') : OwnO B w' v L := h.keep K (fun _ _ f => f)
theorem OwnO.lt {B : Nat} {w : World} {v : Value} {L : List Po} (h : OwnO B w v L) : ∀ g, v.ownBlock = some g → B ≤ g ∧ g < w.heap.size := fun g e => h.row.lt g e
structure NewO (B : Nat) (w : World) (ao : Option Addr) (L : List Po) : Prop where
  at_ : PosAt w ao L
  own : ∀ g off m, ao = some ⟨g, off, m⟩ → B ≤ g
  vec : ∀ p ∈ L, ∀ g off m, p.vo = some ⟨g, off, m⟩ → B ≤ g
theorem NewO.nil (B : Nat) (w : World) : NewO B w none [] := ⟨PosAt.nil _ _, (fun _ _ _ e => by cases e), (fun _ h => by cases h)⟩
theorem NewO.keep {R : Nat → Prop} {B : Nat} {w w' : World} {ao : Option Addr} {L : List Po} (h : NewO B w ao L) (K : Keep R w w') (hn : ∀ g, B ≤ g → ¬ R g) : NewO B w' ao L :=
  ⟨⟨h.at_.row.keep K (fun g off m e => hn g (h.own g off m e)), fun p hp => (h.at_.ins p hp).keep K (fun g off m e => hn g (h.vec p hp g off m e))⟩, h.own, h.vec⟩
theorem NewO.lower {B B' : Nat} {w : World} {ao : Option Addr} {L : List Po} (h : NewO B w ao L) (hB : B' ≤ B) : NewO B' w ao L :=
  ⟨h.at_, fun g off m e => Nat.le_trans hB (h.own g off m e), fun p hp g off m e => Nat.le_trans hB (h.vec p hp g off m e)⟩
theorem OwnO.newO {B : Nat} {w : World} {v : Value} {L : List Po} (h : OwnO B w v L) : ∃ ao cap, v = .slice ao L.length cap ∧ NewO B w ao L ∧ L.length ≤ cap ∧ cap ≤ maxLen := by
  obtain ⟨ao, cap, e, h1, h2, h3, h4⟩ := row_of_own poT.len poT.pos h.row
  exact ⟨ao, cap, e, ⟨⟨h1, h.ins⟩, h2, fun p hp g off m e => (h.vec p hp g off m e).1⟩, h3, h4⟩
theorem OwnO.more {B : Nat} {w w' : World} {v v' : Value} {L : List Po} {p : Po} (h : OwnO B w v L) (hp : EnsAt w p.vo p.x.c) (hv : ∀ g off m, p.vo = some ⟨g, off, m⟩ → B ≤ g ∧ (p.x.c.length = 0 ∨ v.ownBlock ≠ some g))
    (h1 : w'.ownsRow B 56 3 v' (L ++ [p]).length (rowOf Po.cells (L ++ [p]))) (h2 : w.grownBy w' v.ownBlock) (h3 : v'.ownBlock = v.ownBlock ∨ v'.ownBlock = some w.heap.size) : OwnO B w' v' (L ++ [p]) := by
  have K := keep_grown h2
  have all : ∀ q ∈ L ++ [p], EnsAt w q.vo q.x.c ∧ (∀ g off m, q.vo = some ⟨g, off, m⟩ → B ≤ g ∧ (q.x.c.length = 0 ∨ v.ownBlock ≠ some g)) := by
    intro q hq'
    rcases List.mem_append.1 hq' with hq' | hq'
    · exact ⟨h.ins q hq', h.vec q hq'⟩
    · rw [List.mem_singleton.1 hq']; exact ⟨hp, hv⟩
  refine ⟨h1, fun q hq' => ?_, fun q hq' g off m e => ?_⟩
  · obtain ⟨a1, a2⟩ := all q hq'
    exact ens_keepO a1 K (fun g off m e => (a2 g off m e).2)
  · obtain ⟨a1, a2⟩ := all q hq'
    refine ⟨(a2 g off m e).1, ?_⟩
    rcases h3 with e3 | e3
    · rw [e3]; exact (a2 g off m e).2
    · rcases ens_ltO a1 g off m e with z | z
      · exact .inl z
      · exact .inr (fun e4 => by rw [e3] at e4; cases e4; omega)
end Go.Proofs.YtoefibkhlhmlfaaGreat
namespace Go.Proofs.YtoefibkhlhmlfaaGreat
open Go.RowKit
set_option maxRecDepth 100000 in
set_option maxHeartbeats 4000000 in
theorem rput11 {w : World} {b : Nat} {t : ByteArray} {M x : Int} (h : RPen w b t M x) (ht : t.size ≤ 1000000000) (ao : Option Addr) (cap : Nat) (l : List En) (hf : Fits l) (hc : EnsAt w ao l) (hn : 0 < l.length → ApartE (fun k => k = b) ao) :
    Calls Tryz.prog 155 #[pptr b, .slice ao l.length cap] w fun e w' => e = .returned (.tuple #[]) ∧ RPen w' b (pVec M (t, x) l).1 M (pVec M (t, x) l).2 ∧ Keep1 b w w' := by
  have yc := rcheck10 w ao cap l hf hc
  have hl' : (l.length : Int) ≤ 9223372036854775807 := by have := hf.1; unfold maxLen at this; omega
  by_cases h0 : vCheck l = 0
  case neg =>
    rw [pVec_no h0]
    have e0 : (vCheck l != 0) = true := by simpa using h0
    have yf := fun W (h : RPen W b t M x) => rpfail_any (vCheck l) h
    clear h0
    generalize vCheck l = C at *
    go_enter Tryz.func155, Tryz.ntmps155
    go_wp2_with fail
    refine yc.mono ?_
    rintro e w1 ⟨rfl, hw1⟩
    have k1 := keepN hw1
    have yf := yf _ (h.keep0 k1)
    clear yc hw1
    go_wp2_with fail
    refine yf.mono ?_
    rintro e w2 ⟨rfl, h2, k2⟩
    have K2 : Keep1 b w w2 := (k1.any (R := fun k => k = b)).trans k2
    clear yf k2 k1
    go_wp2
    (try simp only [Exit.inBlock, Exit.then])
    refine bodyPost_ret (results_none rfl _ _ _) rfl ?_
    exact ⟨rfl, h2, K2⟩
  rw [h0] at yc
  obtain ⟨h64, hg⟩ := (check_zero l).1 h0
  rw [pVec_yes h0]
  have HC : Hid (EnsAt w ao l) := hc
  have HG : Hid (∀ y ∈ l, y.a.size ≤ 32 ∧ U64 y.n) := fun y hy => ⟨(hg.1 y hy).2.1, (hf.2 y hy).2⟩
  have HN : Hid (0 < l.length → ApartE (fun k => k = b) ao) := hn
  have yp := fun W (h : RPen W b t M x) => rput_any l.length (by omega) h (by omega)
  have hs1 := pOne_size M (t, x) (vText l.length)
  have hs2 := (vText_le (n := l.length) (by omega)).2
  have HT : Hid ((pOne M (t, x) (vText l.length)).1.size ≤ t.size + 10) := by show _ ≤ _; have : (t, x).1.size = t.size := rfl; omega
  have i0 : IntKind.u64.wrap (l.length : Int) = (l.length : Int) := by rw [IntKind.wrap_u64]; omega
  obtain ⟨P, hP⟩ : ∃ P, pOne M (t, x) (vText l.length) = P := ⟨_, rfl⟩
  rw [hP] at yp HT ⊢
  obtain ⟨R, hR⟩ : ∃ R, pEnts M P l = R := ⟨_, rfl⟩
  rw [hR]
  have HR : Hid (pEnts M P l = R) := hR
  clear hP hs1 hs2 hg hc hn h0 hR
  go_enter Tryz.func155, Tryz.ntmps155
  go_wp2_with fail
  refine yc.mono ?_
  rintro e w1 ⟨rfl, hw1⟩
  have k1 := keepN hw1
  have yp := yp _ (h.keep0 k1)
  clear yc hw1
  go_wp2_with fail
  refine yp.mono ?_
  rintro e w2 ⟨rfl, h2, k2⟩
  have K2 : Keep1 b w w2 := (k1.any (R := fun k => k = b)).trans k2
  clear yp k2 k1
  go_wp2_with fail
  go_loopw [5] (fun i wr => ∃ (k : Nat), i = .int .i64 (k : Int) ∧ k ≤ l.length ∧ RPen wr b (pEnts M P (l.take k)).1 M (pEnts M P (l.take k)).2 ∧ Keep1 b w wr) (fun i _ => l.length - (intOf i).toNat)
  case atStart => exact ⟨0, rfl, by omega, h2, K2⟩
  case round =>
    obtain ⟨k, rfl, hk, hp, hK⟩ := hrel
    clear h2 K2
    by_cases hlt : k < l.length
    · have i1 : (k : Int) < l.length := by omega
      have hap := HN.out (by omega)
      have hcr := HC.out.keep hK hap
      obtain ⟨bb, off, rfl, x0, x1⟩ := hcr k hlt
      have hbb : bb ≠ b := hap _ _ _ rfl
      obtain ⟨hy, hyn⟩ := HG.out l[k] (List.getElem_mem hlt)
      have hsz := pEnts_size M (l.take k) P (fun y hy => HG.out y (List.mem_of_mem_take hy))
      rw [List.length_take, Nat.min_eq_left (by omega)] at hsz
      have hT := HT.out
      have HS : Hid (pEnts M P (l.take (k + 1)) = pEnt M (pEnts M P (l.take k)) l[k]) := pEnts_take hlt
      have yb := rbput_any 32 (by decide) l[k].a hp (by omega)
      have hws := wPut_size M 32 (pEnts M P (l.take k)) l[k].a (by omega)
      have hE : ((pEnts M P (l.take k)).1, (pEnts M P (l.take k)).2) = pEnts M P (l.take k) := rfl
      rw [hE] at yb
      have yn := fun W (h : RPen W b (wPut M 32 (pEnts M P (l.take k)) l[k].a).1 M (wPut M 32 (pEnts M P (l.take k)) l[k].a).2) => rput_any l[k].n hyn h (by omega)
      have hE2 : ((wPut M 32 (pEnts M P (l.take k)) l[k].a).1, (wPut M 32 (pEnts M P (l.take k)) l[k].a).2) = wPut M 32 (pEnts M P (l.take k)) l[k].a := rfl
      rw [hE2] at yn
      have hE3 : pOne M (wPut M 32 (pEnts M P (l.take k)) l[k].a) (vText l[k].n) = pEnt M (pEnts M P (l.take k)) l[k] := rfl
      rw [hE3, ← HS.out] at yn
      obtain ⟨P2, hP2⟩ : ∃ P2, pEnts M P (l.take (k + 1)) = P2 := ⟨_, rfl⟩
      rw [hP2] at yn
      have HS2 : Hid (pEnts M P (l.take (k + 1)) = P2) := hP2
      clear hP2 HS hap
      generalize wPut M 32 (pEnts M P (l.take k)) l[k].a = P1 at *
      generalize pEnts M P (l.take k) = P0 at *
      generalize l[k].a = A at *
      generalize (l[k].n : Int) = NN at *
      clear hE hE2 hE3 hws hsz hT hcr hp hy hyn
      go_wp2_with fail
      refine yb.mono ?_
      rintro e w3 ⟨rfl, h3, k3⟩
      have y1 := k3.cell x1 hbb
      have K3 := hK.trans k3
      have yn := yn _ h3
      clear yb k3 hK x0 x1 h3
      go_wp2_with fail
      refine yn.mono ?_
      rintro e w4 ⟨rfl, h4, k4⟩
      have K4 := K3.trans k4
      clear yn k4 K3 y1
      go_wp2
      go_roundw
      case rel => exact ⟨k + 1, by go_num, by omega, by rw [HS2.out]; exact h4, K4⟩
      case measure => simp [intOf]; omega
    · have i1 : ¬ (k : Int) < l.length := by omega
      have ek : l.take k = l := List.take_of_length_le (by omega)
      rw [ek, HR.out] at hp
      go_wp2
      go_end0
      exact ⟨rfl, hp, hK⟩
theorem ens_old {w : World} {ao : Option Addr} {l : List En} (h : EnsAt w ao l) (hl : 0 < l.length) : ∀ g off m, ao = some ⟨g, off, m⟩ → g < w.heap.size := by
  intro g off m e
  obtain ⟨b, o, e', h1, _⟩ := h 0 hl
  rw [e] at e'
  cases e'
  exact World.block_lt_of_cell? w _ h1
end Go.Proofs.YtoefibkhlhmlfaaGreat
namespace Go.Proofs.YtoefibkhlhmlfaaGreat
open Go.RowKit Go.WideShapes Go.ChangeShapes
theorem rd_bool {H : Type} {enc : TypeId × Value → H} {w : World} {t : TypeId} {cs : List Value} (ht : Tryz.prog.underlying t = some .bool) (h : Rd enc w t cs) : ∃ b, cs = [.bool b] := by
  obtain ⟨fuel, x, h⟩ := h
  obtain ⟨n, h1, _⟩ := DataW.trod_bool ht h
  exact ⟨n, h1⟩
structure Clk (w : World) where
  ao : Option Addr
  cap : Nat
  k : Ck
  fits : FitsK k
  at_ : EnsAt w ao k.c
def Clk.cs {w : World} (c : Clk w) : List Value := [.slice c.ao c.k.c.length c.cap, .bool c.k.d, .string c.k.x.a, .int .u64 (c.k.x.n : Int)]
set_option maxRecDepth 100000 in
theorem rd_clock {H : Type} {enc : TypeId × Value → H} {w : World} {cs : List Value} (h : Rd enc w 58 cs) : ∃ c : Clk w, cs = c.cs := by
  obtain ⟨hl, hf⟩ := rd_struct Tryz.underlying58 h
  have hl4 : cs.length = 4 := hl.trans (by kernel_rfl)
  match cs, hl4 with
  | [v0, v1, v2, v3], _ =>
    have g0 := hf 0 _ rfl
    have g1 := hf 1 _ rfl
    have g2 := hf 2 _ rfl
    have c0 : Tryz.prog.cellsOf 54 = 1 := by kernel_rfl
    have c1 : Tryz.prog.cellsOf 4 = 1 := by kernel_rfl
    have c2 : Tryz.prog.cellsOf 53 = 2 := by kernel_rfl
    simp [c0, c1, c2] at g0 g1 g2
    obtain ⟨ao, cap, l, e0, hfl, ha⟩ := rd_ens g0
    obtain ⟨d, e1⟩ := rd_bool Tryz.underlying4 g1
    obtain ⟨x, e2, hx, hn⟩ := rd_entry g2
    simp [En.cells] at e0 e1 e2
    refine ⟨⟨ao, cap, ⟨l, d, x⟩, ⟨hfl, hx, hn⟩, ha⟩, ?_⟩
    show [v0, v1, v2, v3] = [Value.slice ao l.length cap, .bool d, .string x.a, .int .u64 (x.n : Int)]
    rw [e0, e1, e2.1, e2.2]
end Go.Proofs.YtoefibkhlhmlfaaGreat
namespace Go.Proofs.YtoefibkhlhmlfaaGreat
open Go.RowKit
def Ok10 (l : List En) : Prop := l.length ≤ 10000 ∧ ∀ x ∈ l, x.a.size ≤ maxLen ∧ x.n < 18446744073709551616
theorem Ok10.fits {l : List En} (h : Ok10 l) : Fits l := ⟨by have := h.1; unfold maxLen; omega, h.2⟩
theorem Ok10.len {l : List En} (h : Ok10 l) : l.length ≤ maxLen := by have := h.1; unfold maxLen; omega
def xA : List En := [⟨⟨#[97]⟩, 1⟩, ⟨⟨#[98]⟩, 2⟩]
end Go.Proofs.YtoefibkhlhmlfaaGreat
namespace Go.Proofs.YtoefibkhlhmlfaaGreat
open Go.RowKit
theorem texts_two14 (w : World) (t : TypeId) (a b : ByteArray) : TextsIn (w.alloc (.cells #[.string a, .string b] t)) (some ⟨w.heap.size, 0, none⟩) [a, b] := by
  intro i hi
  have hi : i = 0 ∨ i = 1 := by simp at hi; omega
  rcases hi with rfl | rfl
  · exact ⟨w.heap.size, 0, rfl, cell_alloc w t rfl⟩
  · exact ⟨w.heap.size, 0, rfl, cell_alloc w t rfl⟩
theorem rise_yes14 {a b : ByteArray} (h : bl a b = true) : rise [a, b] = -1 := by
  show (if bl a b = true then riseAt (1 + 1) [b] else 1) = -1
  rw [if_pos h]
  rfl
theorem rise_no14 {a b : ByteArray} (h : bl a b = false) : rise [a, b] = 1 := by
  show (if bl a b = true then riseAt (1 + 1) [b] else 1) = 1
  rw [h]
  rfl
theorem empty_no14 {a : ByteArray} (h : a.size ≠ 0) : a.toList.isEmpty = false := by
  rw [ByteArray.toList_eq]
  cases hb : a.data.toList with
  | nil => exact absurd (by show a.data.size = 0; rw [← Array.length_toList, hb]; rfl) h
  | cons x l => rfl
theorem empty_eq14 {a : ByteArray} (h : a.size = 0) : a = ⟨#[]⟩ := ByteArray.ext (Array.eq_empty_of_size_eq_zero h)
def nmT (p : Option ByteArray) (s : ByteArray) : Int := if 32 < s.size then 3 else if s.size = 0 then 14 else if falls p s = true then 6 else 0
theorem nmT_a {p : Option ByteArray} {s : ByteArray} (h : 32 < s.size) : nmT p s = 3 := if_pos h
theorem nmT_b {p : Option ByteArray} {s : ByteArray} (h : s.size = 0) : nmT p s = 14 := by unfold nmT; rw [if_neg (by omega), if_pos h]
theorem nmT_c {p : Option ByteArray} {s : ByteArray} (h1 : ¬ 32 < s.size) (h2 : s.size ≠ 0) (h3 : falls p s = true) : nmT p s = 6 := by unfold nmT; rw [if_neg h1, if_neg h2, if_pos h3]
theorem nmT_d {p : Option ByteArray} {s : ByteArray} (h1 : ¬ 32 < s.size) (h2 : s.size ≠ 0) (h3 : falls p s = false) : nmT p s = 0 := by unfold nmT; rw [if_neg h1, if_neg h2, h3]; rfl
theorem qOne_n {p : Option ByteArray} {x : Pr} : qOne p x = if nmT p x.n = 0 then (if 32768 < x.v.size then 3 else 0) else nmT p x.n := by
  by_cases h1 : 32 < x.n.size
  · rw [qOne_a h1, nmT_a h1]; rfl
  by_cases h2 : x.n.size = 0
  · rw [qOne_b h2, nmT_b h2]; rfl
  cases h3 : falls p x.n with
  | true => rw [qOne_c h1 h2 h3, nmT_c h1 h2 h3]; rfl
  | false =>
    rw [nmT_d h1 h2 h3, if_pos rfl]
    by_cases h4 : 32768 < x.v.size
    · rw [qOne_d h1 h2 h3 h4, if_pos h4]
    · rw [qOne_e h1 h2 h3 h4, if_neg h4]
set_option maxRecDepth 100000 in
set_option maxHeartbeats 4000000 in
theorem checkName14 (w : World) (ao : Option Addr) (cap : Nat) (O : List Pr) (s : ByteArray) (hl : O.length ≤ maxLen) (hs : s.size ≤ maxLen) (hc : PrsAt w ao O) :
    Calls Tryz.prog 143 #[.slice ao O.length cap, .string s] w fun e w' => e = .returned (.int .i64 (nmT (prq O O.length) s)) ∧ Keep0 w w' := by
  have hl' : (O.length : Int) ≤ 9223372036854775807 := by unfold maxLen at hl; omega
  have hs' : (s.size : Int) ≤ 9223372036854775807 := by unfold maxLen at hs; omega
  have i7 : IntKind.i64.wrap ((O.length : Int) - 1) = (O.length : Int) - 1 := by rw [IntKind.wrap_i64]; omega
  by_cases h1 : 32 < s.size
  · rw [nmT_a h1]
    have i3 : (32 : Int) < s.size := by omega
    clear h1 hc hs hl
    go_enter Tryz.func143, Tryz.ntmps143
    go_wp2
    go_ret
    exact ⟨rfl, Keep.refl _ _⟩
  have i3 : ¬ (32 : Int) < s.size := by omega
  by_cases h2 : s.size = 0
  · rw [nmT_b h2]
    have es := empty_eq14 h2
    subst es
    clear h1 h2 i3 hs' hc hs hl
    go_enter Tryz.func143, Tryz.ntmps143
    go_wp2
    go_ret
    exact ⟨rfl, Keep.refl _ _⟩
  have e1 := empty_no14 h2
  by_cases hO : O.length = 0
  · have hT : nmT (prq O O.length) s = 0 := nmT_d h1 h2 (by rw [hO]; rfl)
    rw [hT, hO]
    clear hT hc hs hl h1 h2 i7 hl'
    go_enter Tryz.func143, Tryz.ntmps143
    go_wp2
    go_ret
    exact ⟨rfl, Keep.refl _ _⟩
  obtain ⟨j, hj⟩ : ∃ j, j + 1 = O.length := ⟨O.length - 1, by omega⟩
  have hjl : j < O.length := by omega
  obtain ⟨b', off, rfl, x0, xz⟩ := hc j hjl
  clear xz
  have hp : falls (prq O O.length) s = !bl O[j].n s := by rw [← hj, prq_succ hjl, falls_some]
  have kA : Keep0 w (w.alloc (.cells #[.string O[j].n, .string s] 9)) := (Keep.refl _ w).alloc _
  have yr := rising6_any _ _ 2 [O[j].n, s] (by show 2 ≤ maxLen; unfold maxLen; omega) (texts_two14 w 9 O[j].n s)
  have el : [O[j].n, s].length = 2 := rfl
  rw [el] at yr
  have i1 : (j : Int) < O.length := by omega
  have i6 : (O.length : Int) - 1 = (j : Int) := by omega
  rw [i6] at i7
  cases hB : bl O[j].n s with
  | true =>
    rw [hB] at hp
    rw [rise_yes14 hB] at yr
    rw [nmT_d h1 h2 hp]
    clear el hp hB hc h1 h2
    generalize O[j].n = A at *
    clear hO hj hjl hs hl
    generalize O.length = q at *
    go_enter Tryz.func143, Tryz.ntmps143
    go_wp2_with fail
    refine yr.mono ?_
    rintro e w1 ⟨rfl, hw1⟩
    have K1 := kA.trans (keepN hw1)
    clear yr kA hw1 x0
    go_wp2
    go_ret
    exact ⟨rfl, K1⟩
  | false =>
    rw [hB] at hp
    rw [rise_no14 hB] at yr
    rw [nmT_c h1 h2 hp]
    clear el hp hB hc h1 h2
    generalize O[j].n = A at *
    clear hO hj hjl hs hl
    generalize O.length = q at *
    go_enter Tryz.func143, Tryz.ntmps143
    go_wp2_with fail
    refine yr.mono ?_
    rintro e w1 ⟨rfl, hw1⟩
    have K1 := kA.trans (keepN hw1)
    clear yr kA hw1 x0
    go_wp2
    go_ret
    exact ⟨rfl, K1⟩
set_option maxRecDepth 100000 in
set_option maxHeartbeats 8000000 in
theorem check14 (w : World) (ao : Option Addr) (cap : Nat) (l : List Pr) (hf : FitsP l) (hcap : CapP l cap) (hc : PrsAt w ao l) :
    Calls Tryz.prog 102 #[.slice ao l.length cap] w fun e w' => e = .returned (.int .i64 (qCheck l)) ∧ Keep0 w w' := by
  have HC : Hid (PrsAt w ao l) := hc
  have HF : Hid (∀ x ∈ l, x.n.size ≤ maxLen ∧ x.v.size ≤ maxLen) := hf.2
  have hl' : (l.length : Int) ≤ 9223372036854775807 := by have := hf.1; unfold maxLen at this; omega
  have hca : (cap : Int) ≤ 9223372036854775807 := by have := hcap.2; unfold maxLen at this; omega
  have hcb := hcap.1
  have HL : Hid (l.length ≤ maxLen) := hf.1
  clear hc hf hcap
  by_cases h8 : 8 < l.length
  · have i0 : (8 : Int) < l.length := by omega
    have e : qCheck l = 3 := if_pos h8
    rw [e]
    go_enter Tryz.func102, Tryz.ntmps102
    go_wp2
    go_ret
    exact ⟨rfl, Keep.refl _ _⟩
  · have i0 : ¬ (8 : Int) < l.length := by omega
    have e : qCheck l = qGo (prq l 0) (l.drop 0) := if_neg h8
    obtain ⟨r, hr⟩ : ∃ r, qCheck l = r := ⟨_, rfl⟩
    rw [hr]
    rw [e] at hr
    have HR : Hid (qGo (prq l 0) (l.drop 0) = r) := hr
    clear hr e
    go_enter Tryz.func102, Tryz.ntmps102
    go_wp2_with fail
    go_loopw [11] (fun i wr => ∃ (k : Nat), i = .int .i64 (k : Int) ∧ k ≤ l.length ∧ Hid (qGo (prq l k) (l.drop k) = r) ∧ Keep0 w wr) (fun i _ => l.length - (intOf i).toNat)
    case atStart => exact ⟨0, rfl, by omega, HR, Keep.refl _ _⟩
    case round =>
      obtain ⟨k, rfl, hk, HK, hK⟩ := hrel
      clear HR
      by_cases hlt : k < l.length
      · have i1 : (k : Int) < l.length := by omega
        obtain ⟨b, off, rfl, p0, p1⟩ := HC.out k hlt
        have x0 := hK.cell p0 (fun f => f)
        have x1 := hK.cell p1 (fun f => f)
        have hfx := HF.out l[k] (List.getElem_mem hlt)
        have i2v : (l[k].v.size : Int) ≤ 9223372036854775807 := by have := hfx.2; unfold maxLen at this; omega
        have i2 : (l[k].n.size : Int) ≤ 9223372036854775807 := by have := hfx.1; unfold maxLen at this; omega
        have hd := HK.out
        rw [goq_drop hlt, qOne_n] at hd
        have etl : (l.take k).length = k := by rw [List.length_take]; omega
        have etp : prq (l.take k) k = prq l k := by
          cases k with
          | zero => rfl
          | succ j =>
            have hj : j < l.length := by omega
            rw [prq_succ hj, prq_succ (l := l.take (j + 1)) (by rw [etl]; omega), List.getElem_take]
        have yq : ∀ W, Keep0 w W → Calls Tryz.prog 143 #[.slice (some ⟨b, off, none⟩) k cap, .string l[k].n] W fun e w' => e = .returned (.int .i64 (nmT (prq l k) l[k].n)) ∧ Keep0 W w' := by
          intro W KW
          have h := checkName14 W (some ⟨b, off, none⟩) cap (l.take k) l[k].n (by rw [etl]; have := HL.out; omega) hfx.1 (by
            intro i hi
            have hi' : i < l.length := by rw [etl] at hi; omega
            obtain ⟨b2, off2, e, q0, q1⟩ := HC.out i hi'
            cases e
            rw [List.getElem_take]
            exact ⟨b, off, rfl, KW.cell q0 (fun f => f), KW.cell q1 (fun f => f)⟩)
          rw [etl, etp] at h
          exact h
        obtain ⟨C, hC⟩ : ∃ C, nmT (prq l k) l[k].n = C := ⟨_, rfl⟩
        rw [hC] at hd yq
        have HN1 : Hid (C ≠ 0 → C = r) := by
          intro h
          rw [if_neg h, if_neg h] at hd
          exact hd
        have HN2 : Hid (C = 0 → 32768 < l[k].v.size → (3 : Int) = r) := by
          intro h h4
          rw [if_pos h, if_pos h4, if_neg (by decide)] at hd
          exact hd
        have HN3 : Hid (C = 0 → ¬ 32768 < l[k].v.size → qGo (prq l (k + 1)) (l.drop (k + 1)) = r) := by
          intro h h4
          rw [if_pos h, if_neg h4, if_pos rfl] at hd
          exact hd
        have kA : Keep0 wr (wr.alloc (.cells #[.string l[k].n, .string l[k].v] 135)) := (Keep.refl _ wr).alloc _
        have KA := hK.trans kA
        have q0 : (wr.alloc (.cells #[.string l[k].n, .string l[k].v] 135)).cell? ⟨wr.heap.size, 0, none⟩ = some (.string l[k].n) := cell_alloc _ _ rfl
        have q1 : (wr.alloc (.cells #[.string l[k].n, .string l[k].v] 135)).cell? ⟨wr.heap.size, 1, none⟩ = some (.string l[k].v) := cell_alloc _ _ rfl
        have j1 : k ≤ cap := by omega
        have j2 : (k : Int) ≤ cap := by omega
        clear hd HK hfx etl etp hC kA p0 p1 hK
        generalize l[k].n = A at *
        obtain ⟨B, hB⟩ : ∃ B, l[k].v = B := ⟨_, rfl⟩
        rw [hB] at HN2 HN3 q0 q1 x1 i2v KA
        clear hB
        go_wp2_with fail
        generalize (wr.alloc (.cells #[.string A, .string B] 135)) = W0 at *
        generalize wr.heap.size = g at *
        clear x0 x1
        refine wp_region_held_drew (S := (fun W => W.cell? ⟨g, 0, none⟩ = some (.string A) ∧ W.cell? ⟨g, 1, none⟩ = some (.string B))) (by kernel_rfl) ⟨q0, q1⟩ (fun hHeld => ?_)
        refine wpAnyH_take (i := 0) (v := ?t0v) (by simp only [List.getElem?_toArray, List.getElem?_cons_zero] <;> rfl) (by kernel_rfl) (by kernel_rfl) (by kernel_rfl) (by exact fun _ _ _ h => h) (Or.inl ⟨by rfl, ?t0y⟩) hHeld ?t0r
        case t0y => intro w hSw; (try dsimp only at hSw); go_simp <;> rfl
        simp only [Act.put, List.setIfInBounds_toArray, List.set_cons_zero, List.set_cons_succ]
        refine wpAnyH_take (i := 1) (v := ?t1v) (by simp only [List.getElem?_toArray, List.getElem?_cons_succ, List.getElem?_cons_zero] <;> rfl) (by kernel_rfl) (by kernel_rfl) (by kernel_rfl) (by exact fun _ _ _ h => h) (Or.inl ⟨by rfl, ?t1y⟩) hHeld ?t1r
        case t1y => intro w hSw; (try dsimp only at hSw); go_simp <;> rfl
        simp only [Act.put, List.setIfInBounds_toArray, List.set_cons_zero, List.set_cons_succ]
        refine wpAnyH_take (i := 2) (v := ?t2v) (by simp only [List.getElem?_toArray, List.getElem?_cons_succ, List.getElem?_cons_zero] <;> rfl) (by kernel_rfl) (by kernel_rfl) (by kernel_rfl) (by exact fun _ _ _ h => h) (Or.inl ⟨by rfl, ?t2y⟩) hHeld ?t2r
        case t2y => intro w hSw; (try dsimp only at hSw); go_simp <;> rfl
        simp only [Act.put, List.setIfInBounds_toArray, List.set_cons_zero, List.set_cons_succ]
        refine wpAnyH_take (i := 3) (v := ?t3v) (by simp only [List.getElem?_toArray, List.getElem?_cons_succ, List.getElem?_cons_zero] <;> rfl) (by kernel_rfl) (by kernel_rfl) (by kernel_rfl) (by exact fun _ _ _ h => h) (Or.inl ⟨by rfl, ?t3y⟩) hHeld ?t3r
        case t3y => intro w hSw; (try dsimp only at hSw); go_simp <;> rfl
        simp only [Act.put, List.setIfInBounds_toArray, List.set_cons_zero, List.set_cons_succ]
        refine wpAnyH_take (i := 4) (v := ?t4v) (by simp only [List.getElem?_toArray, List.getElem?_cons_succ, List.getElem?_cons_zero] <;> rfl) (by kernel_rfl) (by kernel_rfl) (by kernel_rfl) (by exact fun _ _ _ h => h) (Or.inl ⟨by rfl, ?t4y⟩) hHeld ?t4r
        case t4y => intro w hSw; (try dsimp only at hSw); go_simp <;> rfl
        simp only [Act.put, List.setIfInBounds_toArray, List.set_cons_zero, List.set_cons_succ]
        refine wpAnyH_ready (rs := [5]) (by kernel_rfl) (by simp) ?_
        refine AllReadyH.cons (by simp only [List.getElem?_toArray, List.getElem?_cons_succ, List.getElem?_cons_zero] <;> rfl) (fun K hK => ?_) AllReadyH.nil
        go_simp
        refine (yq _ KA.drew).mono ?_
        rintro e w3 ⟨rfl, kx⟩
        have kw3 : Keep0 W0 w3 := ((Keep.refl _ W0).drew).trans kx
        clear kx
        go_wp2_with fail
        refine hK.out _ _ ⟨kw3.cell q0 (fun f => f), kw3.cell q1 (fun f => f)⟩ (fun hHeld => ?_)
        clear hK K
        refine wpAnyH_take (i := 6) (v := ?t5v) (by simp only [List.getElem?_toArray, List.getElem?_cons_succ, List.getElem?_cons_zero] <;> rfl) (by kernel_rfl) (by kernel_rfl) (by kernel_rfl) (by exact fun _ _ _ h => h) (Or.inl ⟨by rfl, ?t5y⟩) hHeld ?t5r
        case t5y => intro w hSw; (try dsimp only at hSw); go_simp <;> rfl
        simp only [Act.put, List.setIfInBounds_toArray, List.set_cons_zero, List.set_cons_succ]
        refine wpAnyH_done (by kernel_rfl) ?_ _
        have K3 := KA.trans kw3
        have u1 := kw3.cell q1 (fun f => f)
        clear yq kw3 KA hHeld q0 q1
        by_cases h0 : C = 0
        · have HA2 := HN2.out h0
          have HA3 := HN3.out h0
          subst h0
          by_cases h4 : 32768 < B.size
          · have HD : Hid ((3 : Int) = r) := HA2 h4
            have i5 : (32768 : Int) < B.size := by omega
            clear HA2 HA3 HN1 HN2 HN3
            go_wp2
            go_ret
            exact ⟨by rw [← HD.out]; rfl, K3⟩
          · have HD : Hid (qGo (prq l (k + 1)) (l.drop (k + 1)) = r) := HA3 h4
            have i5 : ¬ (32768 : Int) < B.size := by omega
            clear HA2 HA3 HN1 HN2 HN3
            go_wp2
            go_roundw
            case rel => exact ⟨k + 1, by go_num, by omega, HD, K3⟩
            case measure => simp [intOf]; omega
        · have HD : Hid (C = r) := HN1.out h0
          have e0 : (C != 0) = true := by simpa using h0
          clear HN1 HN2 HN3 h0
          go_wp2
          go_ret
          exact ⟨by rw [← HD.out]; rfl, K3⟩
      · have i1 : ¬ (k : Int) < l.length := by omega
        have hd := HK.out
        rw [List.drop_eq_nil_of_le (by omega), qGo] at hd
        have HD : Hid ((0 : Int) = r) := hd
        clear hd HK
        go_wp2
        go_ret
        exact ⟨by rw [← HD.out]; rfl, hK⟩
end Go.Proofs.YtoefibkhlhmlfaaGreat
