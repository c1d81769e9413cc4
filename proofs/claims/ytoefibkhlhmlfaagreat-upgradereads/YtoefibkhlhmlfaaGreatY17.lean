/-
  What this seat's claims lean on of the texts ObjSort, OldMem.
  Conditions: as each theorem states.
-/
import Derived.WalkKit
import Derived.ProofKit
import Derived.Below
import Derived.Deep.Draws
import Derived.Deep.RegionHeld
import Derived.Test.YtoefibkhlhmlfaaGreatChecked
import Derived.OpenShut
import Derived.ShutString
import Derived.WalkSpells
import Derived.WalkLawsBesides
import Derived.Deep.QuietTactic
import Derived.BigQuiet
import Derived.Laws.Bits64b
import Derived.PlainAid
import Derived.Lib.AppendStr
import Derived.Deep.AppendLies
import Derived.Laws.IdiomStrings
import Derived.Laws.BytesArg
import Derived.Deep.RegionWith
import Derived.Test.YtoefibkhlhmlfaaGreatY15
import Derived.Laws.AppendOwn
import Derived.Deep.DeepAppendWide
import Derived.Deep.Upon
import Derived.Maps.AppendAt
import Derived.Deep.Slices
import Derived.Test.YtoefibkhlhmlfaaGreatY10
import Derived.Test.YtoefibkhlhmlfaaGreatY11
import Derived.Test.YtoefibkhlhmlfaaGreatY1
namespace Go.Proofs.YtoefibkhlhmlfaaGreat
open Go.RowKit
def kb (x : Sb) : ByteArray := eClk x.k
def Rise (l : List Sb) : Prop := l.Pairwise (fun x y => bl (kb x) (kb y) = true)
def ins (x : Sb) : List Sb → List Sb
  | [] => [x]
  | y :: l => if bl (kb y) (kb x) = true then y :: ins x l else x :: y :: l
def isort : List Sb → List Sb
  | [] => []
  | x :: l => ins x (isort l)
theorem ins_perm (x : Sb) : ∀ l, (ins x l).Perm (x :: l)
  | [] => List.Perm.refl _
  | y :: l => by
    unfold ins
    split
    · exact ((ins_perm x l).cons y).trans (List.Perm.swap x y l)
    · exact List.Perm.refl _
theorem isort_perm : ∀ l, (isort l).Perm l
  | [] => List.Perm.refl _
  | x :: l => (ins_perm x (isort l)).trans ((isort_perm l).cons x)
def Weak (l : List Sb) : Prop := l.Pairwise (fun x y => bl (kb y) (kb x) = false)
theorem bl_trans_no {a b c : ByteArray} (h1 : bl b a = false) (h2 : bl c b = false) : bl c a = false := by
  cases h : bl c a with
  | false => rfl
  | true =>
    rcases bl_tri h1 with h3 | h3
    · rw [bl_trans h h3] at h2; cases h2
    · subst h3; rw [h] at h2; cases h2
theorem ins_weak {x : Sb} : ∀ {l : List Sb}, Weak l → Weak (ins x l)
  | [], _ => List.pairwise_singleton _ _
  | y :: l, h => by
    obtain ⟨h1, h2⟩ := List.pairwise_cons.1 h
    unfold ins
    split
    · rename_i hb
      refine List.pairwise_cons.2 ⟨fun z hz => ?_, ins_weak h2⟩
      rcases List.mem_cons.1 ((ins_perm x l).mem_iff.1 hz) with rfl | hz
      · exact bl_asym hb
      · exact h1 z hz
    · rename_i hb
      have hb : bl (kb y) (kb x) = false := by simpa using hb
      refine List.pairwise_cons.2 ⟨fun z hz => ?_, h⟩
      rcases List.mem_cons.1 hz with rfl | hz
      · exact hb
      · exact bl_trans_no hb (h1 z hz)
theorem isort_weak : ∀ l, Weak (isort l)
  | [] => List.Pairwise.nil
  | _ :: l => ins_weak (isort_weak l)
def rising : List Sb → Bool
  | x :: y :: l => bl (kb x) (kb y) && rising (y :: l)
  | _ => true
theorem rising_iff : ∀ {l : List Sb}, rising l = true ↔ Rise l
  | [] => ⟨fun _ => List.Pairwise.nil, fun _ => rfl⟩
  | [x] => ⟨fun _ => List.pairwise_singleton _ _, fun _ => rfl⟩
  | x :: y :: l => by
    rw [rising, Bool.and_eq_true, rising_iff (l := y :: l)]
    unfold Rise
    rw [List.pairwise_cons (a := x)]
    constructor
    · rintro ⟨h1, h2⟩
      refine ⟨fun z hz => ?_, h2⟩
      rcases List.mem_cons.1 hz with rfl | hz
      · exact h1
      · exact bl_trans h1 ((List.pairwise_cons.1 h2).1 z hz)
    · rintro ⟨h1, h2⟩
      exact ⟨h1 y List.mem_cons_self, h2⟩
theorem rise_ext : ∀ {a b : List Sb}, Rise a → Rise b → (∀ x, x ∈ a ↔ x ∈ b) → a = b
  | [], [], _, _, _ => rfl
  | [], y :: m, _, _, h => absurd ((h y).2 List.mem_cons_self) List.not_mem_nil
  | x :: l, [], _, _, h => absurd ((h x).1 List.mem_cons_self) List.not_mem_nil
  | x :: l, y :: m, ha, hb, h => by
    obtain ⟨a1, a2⟩ := List.pairwise_cons.1 ha
    obtain ⟨b1, b2⟩ := List.pairwise_cons.1 hb
    have e : x = y := by
      rcases List.mem_cons.1 ((h x).1 List.mem_cons_self) with e | hx
      · exact e
      · rcases List.mem_cons.1 ((h y).2 List.mem_cons_self) with e | hy
        · exact e.symm
        · have h1 := b1 x hx
          have h2 := a1 y hy
          rw [bl_asym h1] at h2
          cases h2
    subst e
    congr 1
    refine rise_ext a2 b2 (fun z => ?_)
    constructor
    · intro hz
      rcases List.mem_cons.1 ((h z).1 (List.mem_cons_of_mem _ hz)) with e | hz'
      · subst e
        have := a1 z hz
        rw [bl_irr] at this
        cases this
      · exact hz'
    · intro hz
      rcases List.mem_cons.1 ((h z).2 (List.mem_cons_of_mem _ hz)) with e | hz'
      · subst e
        have := b1 z hz
        rw [bl_irr] at this
        cases this
      · exact hz'
def Apart (l : List Sb) : Prop := l.Pairwise (fun x y => kb x ≠ kb y)
theorem apart_perm {a b : List Sb} (h : a.Perm b) : Apart a ↔ Apart b := h.pairwise_iff (fun h => Ne.symm h)
theorem rise_apart {l : List Sb} (h : Rise l) : Apart l := h.imp (fun h => bl_ne h)
theorem weak_rise {l : List Sb} (h : Weak l) (h1 : Apart l) : Rise l := by
  refine (h.and h1).imp (fun {x y} hxy => ?_)
  rcases bl_tri hxy.1 with h2 | h2
  · exact h2
  · exact absurd h2.symm hxy.2
theorem sort_yes {l R : List Sb} (hp : R.Perm l) (hr : Rise R) : rising (isort l) = true ∧ R = isort l := by
  have h1 : Apart (isort l) := (apart_perm (isort_perm l)).2 ((apart_perm hp).1 (rise_apart hr))
  have h2 : Rise (isort l) := weak_rise (isort_weak l) h1
  exact ⟨rising_iff.2 h2, rise_ext hr h2 (fun x => hp.mem_iff.trans (isort_perm l).mem_iff.symm)⟩
theorem sort_no {l : List Sb} (h : ¬ Apart l) : rising (isort l) = false := by
  cases hr : rising (isort l) with
  | false => rfl
  | true => exact absurd ((apart_perm (isort_perm l)).1 (rise_apart (rising_iff.1 hr))) h
def sBad : List Sb → Int
  | [] => 0
  | x :: l => if sCheck x = 0 then sBad l else sCheck x
theorem sBad_zero : ∀ {l : List Sb}, sBad l = 0 ↔ ∀ x ∈ l, sCheck x = 0
  | [] => ⟨(fun _ _ h => by cases h), fun _ => rfl⟩
  | x :: l => by
    rw [sBad]
    constructor
    · intro h y hy
      by_cases h0 : sCheck x = 0
      · rw [if_pos h0] at h
        rcases List.mem_cons.1 hy with rfl | hy
        · exact h0
        · exact sBad_zero.1 h y hy
      · rw [if_neg h0] at h
        exact absurd h h0
    · intro h
      rw [if_pos (h x List.mem_cons_self)]
      exact sBad_zero.2 (fun y hy => h y (List.mem_cons_of_mem _ hy))
theorem sBad_drop {l : List Sb} {k : Nat} (h : k < l.length) : sBad (l.drop k) = if sCheck l[k] = 0 then sBad (l.drop (k + 1)) else sCheck l[k] := by
  rw [List.drop_eq_getElem_cons h, sBad]
def oSort (key : ByteArray) (l : List Sb) : Ob × Int := if outS key l.length = 0 then (if sBad l = 0 then (if rising (isort l) = true then (⟨key, isort l⟩, 0) else (zOb, 6)) else (zOb, sBad l)) else (zOb, outS key l.length)
theorem oSort_out {key : ByteArray} {l : List Sb} (h : outS key l.length ≠ 0) : oSort key l = (zOb, outS key l.length) := if_neg h
theorem oSort_bad {key : ByteArray} {l : List Sb} (h : outS key l.length = 0) (h1 : sBad l ≠ 0) : oSort key l = (zOb, sBad l) := by unfold oSort; rw [if_pos h, if_neg h1]
theorem oSort_same {key : ByteArray} {l : List Sb} (h : outS key l.length = 0) (h1 : sBad l = 0) (h2 : ¬ Apart l) : oSort key l = (zOb, 6) := by unfold oSort; rw [if_pos h, if_pos h1, sort_no h2, if_neg (by decide)]
theorem oSort_yes {key : ByteArray} {l R : List Sb} (h : outS key l.length = 0) (h1 : sBad l = 0) (hp : R.Perm l) (hr : Rise R) : oSort key l = (⟨key, R⟩, 0) := by
  obtain ⟨h2, h3⟩ := sort_yes hp hr
  unfold oSort
  rw [if_pos h, if_pos h1, if_pos h2, h3]
theorem oSort_good {key : ByteArray} {l : List Sb} (h : (oSort key l).2 = 0) : oCheck (oSort key l).1 = 0 ∧ (oSort key l).1.l.Perm l ∧ (oSort key l).1.key = key := by
  unfold oSort at h ⊢
  by_cases h0 : outS key l.length = 0
  · rw [if_pos h0] at h ⊢
    by_cases h1 : sBad l = 0
    · rw [if_pos h1] at h ⊢
      by_cases h2 : rising (isort l) = true
      · rw [if_pos h2]
        refine ⟨oCheck_zero.2 ⟨?_, fun x hx => sBad_zero.1 h1 x ((isort_perm l).mem_iff.1 hx), rising_iff.1 h2⟩, isort_perm l, rfl⟩
        show outS key (isort l).length = 0
        rw [(isort_perm l).length_eq]
        exact h0
      · rw [if_neg h2] at h; exact absurd h (by decide)
    · rw [if_neg h1] at h; exact absurd h h1
  · rw [if_neg h0] at h; exact absurd h h0
structure Sel (l out left : List Sb) : Prop where
  perm : (out ++ left).Perm l
  rise : Rise out
  low : ∀ x ∈ out, ∀ y ∈ left, bl (kb y) (kb x) = false
theorem Sel.start (l : List Sb) : Sel l [] l := ⟨List.Perm.refl _, List.Pairwise.nil, (fun _ h => by cases h)⟩
theorem Sel.done {l out : List Sb} (h : Sel l out []) : out.Perm l ∧ Rise out := ⟨by have := h.perm; rwa [List.append_nil] at this, h.rise⟩
theorem left_perm {left : List Sb} {k : Nat} (h : k < left.length) : (left[k] :: (left.take k ++ left.drop (k + 1))).Perm left := by
  have e : left = left.take k ++ left[k] :: left.drop (k + 1) := by
    rw [← List.drop_eq_getElem_cons h, List.take_append_drop]
  exact (List.perm_middle.symm).trans (by rw [← e])
theorem Sel.same {l out left : List Sb} (h : Sel l out left) {x y : Sb} (hx : x ∈ out) (hy : y ∈ left) (e : kb x = kb y) : ¬ Apart l := by
  intro ha
  have h1 := (apart_perm h.perm).2 ha
  exact (List.pairwise_append.1 h1).2.2 x hx y hy e
theorem Sel.step {l out left : List Sb} (h : Sel l out left) {k : Nat} (hk : k < left.length) (hm : ∀ y ∈ left, bl (kb y) (kb left[k]) = false) (hl : ∀ x, out.getLast? = some x → kb x ≠ kb left[k]) : Sel l (out ++ [left[k]]) (left.take k ++ left.drop (k + 1)) := by
  have hp := left_perm hk
  have hmem : ∀ y, y ∈ left.take k ++ left.drop (k + 1) → y ∈ left := fun y hy => hp.mem_iff.1 (List.mem_cons_of_mem _ hy)
  refine ⟨?_, ?_, ?_⟩
  · rw [List.append_assoc]
    exact (List.Perm.append_left out hp).trans h.perm
  · refine List.pairwise_append.2 ⟨h.rise, List.pairwise_singleton _ _, fun x hx y hy => ?_⟩
    rw [List.mem_singleton.1 hy]
    rcases bl_tri (h.low x hx left[k] (List.getElem_mem hk)) with h2 | h2
    · exact h2
    · exfalso
      obtain ⟨z, hz⟩ : ∃ z, out.getLast? = some z := by
        cases hg : out.getLast? with
        | none => rw [List.getLast?_eq_none_iff.1 hg] at hx; cases hx
        | some z => exact ⟨z, rfl⟩
      have hzm : z ∈ out := List.mem_of_getLast? hz
      have h3 := hl z hz
      have h4 := h.low z hzm left[k] (List.getElem_mem hk)
      obtain ⟨init, hi⟩ : ∃ init, out = init ++ [z] := List.getLast?_eq_some_iff.1 hz
      have hr := h.rise
      rw [hi] at hr hx
      rcases List.mem_append.1 hx with hx | hx
      · have := (List.pairwise_append.1 hr).2.2 x hx z List.mem_cons_self
        rw [h2, this] at h4
        cases h4
      · rw [List.mem_singleton.1 hx] at h2
        exact h3 h2.symm
  · intro x hx y hy
    rcases List.mem_append.1 hx with hx | hx
    · exact h.low x hx y (hmem y hy)
    · rw [List.mem_singleton.1 hx]
      exact hm y (hmem y hy)
end Go.Proofs.YtoefibkhlhmlfaaGreat
namespace Go.Proofs.YtoefibkhlhmlfaaGreat
open Go.RowKit
structure Po where
  x : Os
  vo : Option Addr
  vc : Nat
instance : Inhabited Po := ⟨⟨zOs, none, 0⟩⟩
def Po.cells (p : Po) : List Value := [.slice p.vo p.x.c.length p.vc, .bool p.x.d, .string p.x.v]
structure FitsOs (x : Os) : Prop where
  vec : Fits x.c
  val : x.v.size ≤ maxLen
theorem po_one (p : Po) : ∀ u ∈ p.cells, u.oneCell' = true := by
  intro u hu
  simp only [Po.cells, List.mem_cons, List.mem_nil_iff, or_false] at hu
  rcases hu with rfl | rfl | rfl <;> rfl
theorem os_info : (Tryz.prog.info? 56).map (fun i => (i.zero, i.size, i.bytes)) = some (some (.agg #[.slice none 0 0, .bool false, .string ⟨#[]⟩]), 3, 48) := by kernel_rfl
theorem poT : ElemT Po.cells 3 22 56 where
  len := fun _ => rfl
  pos := by decide
  one := po_one
  slice := Tryz.underlying22
  info := by
    obtain ⟨i0, hi, z0, z1, z2⟩ := info_parts os_info
    exact ⟨i0, _, 48, hi, z0, z1, z2, rfl, by decide⟩
structure PoAt (w : World) (b off : Nat) (p : Po) : Prop where
  c0 : w.cell? ⟨b, off, none⟩ = some (.slice p.vo p.x.c.length p.vc)
  c1 : w.cell? ⟨b, off + 1, none⟩ = some (.bool p.x.d)
  c2 : w.cell? ⟨b, off + 2, none⟩ = some (.string p.x.v)
theorem PoAt.keep {R : Nat → Prop} {w w' : World} {b off : Nat} {p : Po} (h : PoAt w b off p) (K : Keep R w w') (hn : ¬ R b) : PoAt w' b off p := ⟨K.cell h.c0 hn, K.cell h.c1 hn, K.cell h.c2 hn⟩
theorem PoAt.keep0 {w w' : World} {b off : Nat} {p : Po} (h : PoAt w b off p) (K : Keep0 w w') : PoAt w' b off p := h.keep K (fun f => f)
structure PosAt (w : World) (ao : Option Addr) (L : List Po) : Prop where
  row : RowAt Po.cells 3 w ao L
  ins : ∀ p ∈ L, EnsAt w p.vo p.x.c
theorem PosAt.keep0 {w w' : World} {ao : Option Addr} {L : List Po} (h : PosAt w ao L) (K : Keep0 w w') : PosAt w' ao L := ⟨h.row.keep0 K, fun p hp => (h.ins p hp).keep0 K⟩
theorem PosAt.nil (w : World) (ao : Option Addr) : PosAt w ao [] := ⟨rowAt_nil _ _, (fun _ h => by cases h)⟩
theorem PosAt.at_ {w : World} {ao : Option Addr} {L : List Po} (h : PosAt w ao L) (i : Nat) (hi : i < L.length) : ∃ b off, ao = some ⟨b, off, none⟩ ∧ PoAt w b (off + i * 3) L[i] ∧ EnsAt w L[i].vo L[i].x.c := by
  obtain ⟨b, off, e, h1⟩ := h.row i hi
  exact ⟨b, off, e, ⟨h1 0 _ rfl, h1 1 _ rfl, h1 2 _ rfl⟩, h.ins _ (List.getElem_mem hi)⟩
theorem poAt_new (w : World) (t : TypeId) (p : Po) : PoAt (w.alloc (.cells #[.slice p.vo p.x.c.length p.vc, .bool p.x.d, .string p.x.v] t)) w.heap.size 0 p := ⟨cell_alloc w t rfl, cell_alloc w t rfl, cell_alloc w t rfl⟩
theorem po_new (w : World) (t : TypeId) (p : Po) : RowAt Po.cells 3 (w.alloc (.cells #[.slice p.vo p.x.c.length p.vc, .bool p.x.d, .string p.x.v] t)) (some ⟨w.heap.size, 0, none⟩) [p] := by
  intro i hi
  obtain rfl : i = 0 := by simpa using hi
  refine ⟨w.heap.size, 0, rfl, fun j u hu => ?_⟩
  have h1 := poAt_new w t p
  match j, hu with
  | 0, hu => cases hu; exact h1.c0
  | 1, hu => cases hu; exact h1.c1
  | 2, hu => cases hu; exact h1.c2
  | j + 3, hu => cases hu
structure OwnO (B : Nat) (w : World) (v : Value) (L : List Po) : Prop where
  row : w.ownsRow B 56 3 v L.length (rowOf Po.cells L)
  ins : ∀ p ∈ L, EnsAt w p.vo p.x.c
  vec : ∀ p ∈ L, ∀ g off m, p.vo = some ⟨g, off, m⟩ → B ≤ g ∧ (p.x.c.length = 0 ∨ v.ownBlock ≠ some g)
theorem ens_keepO {R : Nat → Prop} {w w' : World} {ao : Option Addr} {l : List En} (h : EnsAt w ao l) (K : Keep R w w') (hn : ∀ g off m, ao = some ⟨g, off, m⟩ → l.length = 0 ∨ ¬ R g) : EnsAt w' ao l := by
  by_cases h0 : l.length = 0
  · exact fun i hi => by omega
  · exact h.keep K (fun g off m e => (hn g off m e).resolve_left h0)
theorem ens_ltO {w : World} {ao : Option Addr} {l : List En} (h : EnsAt w ao l) : ∀ g off m, ao = some ⟨g, off, m⟩ → l.length = 0 ∨ g < w.heap.size := by
  intro g off m e
  by_cases h0 : l.length = 0
  · exact .inl h0
  · obtain ⟨b, o, e', h1, _⟩ := h 0 (by omega)
    rw [e] at e'
    cases e'
    exact .inr (World.block_lt_of_cell? w _ h1)
theorem OwnO.nil (B : Nat) (w : World) : OwnO B w (.slice none 0 0) [] := ⟨⟨by show 0 = 0 * 3; rfl, .inl ⟨rfl, rfl⟩⟩, (fun _ h => by cases h), (fun _ h => by cases h)⟩
theorem OwnO.keep {R : Nat → Prop} {B : Nat} {w w' : World} {v : Value} {L : List Po} (h : OwnO B w v L) (K : Keep R w w') (hn : ∀ g, B ≤ g → ¬ R g) : OwnO B w' v L :=
  ⟨rowE_keep h.row K hn, fun p hp => (h.ins p hp).keep K (fun g off m e => hn g (h.vec p hp g off m e).1), h.vec⟩
theorem OwnO.keep0 {B : Nat} {w w' : World} {v : Value} {L : List Po} (h : OwnO B w v L) (K : Keep0 w w') : OwnO B w' v L := h.keep K (fun _ _ f => f)
theorem OwnO.lt {B : Nat} {w : World} {v : Value} {L : List Po} (h : OwnO B w v L) : ∀ g, v.ownBlock = some g → B ≤ g ∧ g < w.heap.size := fun g e => h.row.lt g e
structure NewO (B : Nat) (w : World) (ao : Option Addr) (L : List Po) : Prop where
  at_ : PosAt w ao L
  own : ∀ g off m, ao = some ⟨g, off, m⟩ → B ≤ g
  vec : ∀ p ∈ L, ∀ g off m, p.vo = some ⟨g, off, m⟩ → B ≤ g
theorem NewO.nil (B : Nat) (w : World) : NewO B w none [] := ⟨PosAt.nil _ _, (fun _ _ _ e => by cases e), (fun _ h => by cases h)⟩
theorem NewO.keep {R : Nat → Prop} {B : Nat} {w w' : World} {ao : Option Addr} {L : List Po} (h : NewO B w ao L) (K : Keep R w w') (hn : ∀ g, B ≤ g → ¬ R g) : NewO B w' ao L :=
  ⟨⟨h.at_.row.keep K (fun g off m e => hn g (h.own g off m e)), fun p hp => (h.at_.ins p hp).keep K (fun g off m e => hn g (h.vec p hp g off m e))⟩, h.own, h.vec⟩
theorem NewO.lower {B B' : Nat} {w : World} {ao : Option Addr} {L : List Po} (h : NewO B w ao L) (hB : B' ≤ B) : NewO B' w ao L :=
  ⟨h.at_, fun g off m e => Nat.le_trans hB (h.own g off m e), fun p hp g off m e => Nat.le_trans hB (h.vec p hp g off m e)⟩
theorem OwnO.newO {B : Nat} {w : World} {v : Value} {L : List Po} (h : OwnO B w v L) : ∃ ao cap, v = .slice ao L.length cap ∧ NewO B w ao L ∧ L.length ≤ cap ∧ cap ≤ maxLen := by
  obtain ⟨ao, cap, e, h1, h2, h3, h4⟩ := row_of_own poT.len poT.pos h.row
  exact ⟨ao, cap, e, ⟨⟨h1, h.ins⟩, h2, fun p hp g off m e => (h.vec p hp g off m e).1⟩, h3, h4⟩
theorem OwnO.more {B : Nat} {w w' : World} {v v' : Value} {L : List Po} {p : Po} (h : OwnO B w v L) (hp : EnsAt w p.vo p.x.c) (hv : ∀ g off m, p.vo = some ⟨g, off, m⟩ → B ≤ g ∧ (p.x.c.length = 0 ∨ v.ownBlock ≠ some g))
    (h1 : w'.ownsRow B 56 3 v' (L ++ [p]).length (rowOf Po.cells (L ++ [p]))) (h2 : w.grownBy w' v.ownBlock) (h3 : v'.ownBlock = v.ownBlock ∨ v'.ownBlock = some w.heap.size) : OwnO B w' v' (L ++ [p]) := by
  have K := keep_grown h2
  have all : ∀ q ∈ L ++ [p], EnsAt w q.vo q.x.c ∧ (∀ g off m, q.vo = some ⟨g, off, m⟩ → B ≤ g ∧ (q.x.c.length = 0 ∨ v.ownBlock ≠ some g)) := by
    intro q hq'
    rcases List.mem_append.1 hq' with hq' | hq'
    · exact ⟨h.ins q hq', h.vec q hq'⟩
    · rw [List.mem_singleton.1 hq']; exact ⟨hp, hv⟩
  refine ⟨h1, fun q hq' => ?_, fun q hq' g off m e => ?_⟩
  · obtain ⟨a1, a2⟩ := all q hq'
    exact ens_keepO a1 K (fun g off m e => (a2 g off m e).2)
  · obtain ⟨a1, a2⟩ := all q hq'
    refine ⟨(a2 g off m e).1, ?_⟩
    rcases h3 with e3 | e3
    · rw [e3]; exact (a2 g off m e).2
    · rcases ens_ltO a1 g off m e with z | z
      · exact .inl z
      · exact .inr (fun e4 => by rw [e3] at e4; cases e4; omega)
end Go.Proofs.YtoefibkhlhmlfaaGreat
