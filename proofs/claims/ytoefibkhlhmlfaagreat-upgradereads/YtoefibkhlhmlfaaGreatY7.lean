/-
  What this seat's claims lean on of the texts Codec, Vector.
  Conditions: as each theorem states.
-/
import Derived.WalkKit
import Derived.ProofKit
import Derived.Below
import Derived.Deep.Draws
import Derived.Deep.RegionHeld
import Derived.Test.YtoefibkhlhmlfaaGreatChecked
import Derived.OpenShut
import Derived.ShutString
import Derived.WalkSpells
import Derived.WalkLawsBesides
import Derived.Deep.QuietTactic
import Derived.BigQuiet
import Derived.Laws.Bits64b
import Derived.PlainAid
import Derived.Lib.AppendStr
import Derived.Deep.AppendLies
import Derived.Laws.IdiomStrings
import Derived.Laws.BytesArg
import Derived.Deep.RegionWith
import Derived.Test.YtoefibkhlhmlfaaGreatY6
namespace Go.Proofs.YtoefibkhlhmlfaaGreat
open Go.RowKit
abbrev Rdr (α : Type) := ByteArray → Int → α × Int × Int
structure Codec {α : Type} (rd : Rdr α) (ok : α → Prop) (enc : α → ByteArray) : Prop where
  place : ∀ {s : ByteArray} {a : Int}, 0 ≤ a → a ≤ s.size → a ≤ (rd s a).2.1 ∧ (rd s a).2.1 ≤ s.size
  back : ∀ {v : α} (t r : ByteArray), ok v → rd (t ++ (enc v ++ r)) t.size = (v, (t.size : Int) + (enc v).size, 0)
  read : ∀ {s : ByteArray} {a : Int}, 0 ≤ a → a ≤ s.size → (rd s a).2.2 = 0 → ok (rd s a).1 ∧ cut s a (rd s a).2.1 = enc (rd s a).1
  app : ∀ {s : ByteArray} (y : ByteArray) {a : Int}, 0 ≤ a → a ≤ s.size → (rd s a).2.2 = 2 ∨ rd (s ++ y) a = rd s a
theorem cut_size {s : ByteArray} {i j : Int} (h0 : 0 ≤ i) (h1 : i ≤ j) (h2 : j ≤ s.size) : ((cut s i j).size : Int) = j - i := by
  unfold cut
  rw [ByteArray.size_extract]
  omega
theorem cut_none (s : ByteArray) (i : Int) : cut s i i = ⟨#[]⟩ := by
  unfold cut
  apply ByteArray.ext
  apply Array.eq_empty_of_size_eq_zero
  show (s.extract i.toNat i.toNat).size = 0
  rw [ByteArray.size_extract]
  omega
theorem cut_whole (s : ByteArray) : cut s 0 s.size = s := by
  unfold cut
  have : ((s.size : Int)).toNat = s.size := by omega
  rw [this]
  simp
theorem cut_head {s : ByteArray} {j : Int} (h0 : 0 ≤ j) (h1 : j ≤ s.size) : s = cut s 0 j ++ cut s j s.size := by
  rw [← cut_split h0 h1, cut_whole]
theorem Codec.at_ {α : Type} {rd : Rdr α} {ok : α → Prop} {enc : α → ByteArray} (c : Codec rd ok enc) {s : ByteArray} {a : Int} {v : α} {r : ByteArray} (h0 : 0 ≤ a) (h1 : a ≤ s.size) (hv : ok v) (h : cut s a s.size = enc v ++ r) : rd s a = (v, a + (enc v).size, 0) := by
  have hs := cut_head h0 h1
  have hz : (((cut s 0 a).size : Nat) : Int) = a := by rw [cut_size (by omega) h0 h1]; omega
  have := c.back (cut s 0 a) r hv
  rw [← h, ← hs, hz] at this
  exact this
def rSeq {α β : Type} (d : α × β) (A : Rdr α) (B : α → Rdr β) : Rdr (α × β) := fun s a =>
  if (A s a).2.2 = 0 then (if (B (A s a).1 s (A s a).2.1).2.2 = 0 then (((A s a).1, (B (A s a).1 s (A s a).2.1).1), (B (A s a).1 s (A s a).2.1).2) else (d, (B (A s a).1 s (A s a).2.1).2)) else (d, (A s a).2)
section
variable {α β : Type} {d : α × β} {A : Rdr α} {B : α → Rdr β}
theorem rSeq_no {s : ByteArray} {a : Int} (h : (A s a).2.2 ≠ 0) : rSeq d A B s a = (d, (A s a).2) := if_neg h
theorem rSeq_mid {s : ByteArray} {a : Int} (h : (A s a).2.2 = 0) (h1 : (B (A s a).1 s (A s a).2.1).2.2 ≠ 0) : rSeq d A B s a = (d, (B (A s a).1 s (A s a).2.1).2) := by unfold rSeq; rw [if_pos h, if_neg h1]
theorem rSeq_yes {s : ByteArray} {a : Int} (h : (A s a).2.2 = 0) (h1 : (B (A s a).1 s (A s a).2.1).2.2 = 0) : rSeq d A B s a = (((A s a).1, (B (A s a).1 s (A s a).2.1).1), (B (A s a).1 s (A s a).2.1).2) := by unfold rSeq; rw [if_pos h, if_pos h1]
theorem Codec.seq {okA : α → Prop} {encA : α → ByteArray} {okB : α → β → Prop} {encB : α → β → ByteArray} (d : α × β) (cA : Codec A okA encA) (cB : ∀ v, okA v → Codec (B v) (okB v) (encB v)) :
    Codec (rSeq d A B) (fun p => okA p.1 ∧ okB p.1 p.2) (fun p => encA p.1 ++ encB p.1 p.2) where
  place := by
    intro s a h0 h1
    obtain ⟨p1, p2⟩ := cA.place h0 h1
    by_cases h : (A s a).2.2 = 0
    · obtain ⟨hv, _⟩ := cA.read h0 h1 h
      obtain ⟨q1, q2⟩ := (cB _ hv).place (s := s) (a := (A s a).2.1) (by omega) p2
      by_cases h2 : (B (A s a).1 s (A s a).2.1).2.2 = 0
      · rw [rSeq_yes h h2]; exact ⟨by show a ≤ (B (A s a).1 s (A s a).2.1).2.1; omega, q2⟩
      · rw [rSeq_mid h h2]; exact ⟨by show a ≤ (B (A s a).1 s (A s a).2.1).2.1; omega, q2⟩
    · rw [rSeq_no h]; exact ⟨p1, p2⟩
  back := by
    rintro ⟨v, u⟩ t r ⟨hv, hu⟩
    have hv : okA v := hv
    have hu : okB v u := hu
    have e : t ++ (encA v ++ encB v u ++ r) = t ++ (encA v ++ (encB v u ++ r)) := by rw [ByteArray.append_assoc (a := encA v)]
    have h1 := cA.back t (encB v u ++ r) hv
    have h2 := (cB v hv).back (t ++ encA v) r hu
    rw [ByteArray.append_assoc (a := t), ByteArray.size_append] at h2
    show rSeq d A B (t ++ (encA v ++ encB v u ++ r)) t.size = _
    rw [e]
    generalize hS : t ++ (encA v ++ (encB v u ++ r)) = S at *
    have e1 : (A S t.size).2.2 = 0 := by rw [h1]
    have e2 : (A S t.size).1 = v := by rw [h1]
    have e3 : (A S t.size).2.1 = ((t.size + (encA v).size : Nat) : Int) := by rw [h1]; show (t.size : Int) + _ = _; omega
    have e4 : (B (A S t.size).1 S (A S t.size).2.1) = (u, (((t.size + (encA v).size : Nat) : Int) + (encB v u).size), 0) := by rw [e2, e3]; exact h2
    rw [rSeq_yes e1 (by rw [e4]), e4, e2, ByteArray.size_append]
    show ((v, u), _, (0 : Int)) = ((v, u), (t.size : Int) + (((encA v).size + (encB v u).size : Nat) : Int), (0 : Int))
    congr 2
    omega
  read := by
    intro s a h0 h1 h
    obtain ⟨p1, p2⟩ := cA.place h0 h1
    by_cases hA : (A s a).2.2 = 0
    · obtain ⟨hv, cv⟩ := cA.read h0 h1 hA
      obtain ⟨q1, q2⟩ := (cB _ hv).place (s := s) (a := (A s a).2.1) (by omega) p2
      by_cases hB : (B (A s a).1 s (A s a).2.1).2.2 = 0
      · obtain ⟨hu, cu⟩ := (cB _ hv).read (s := s) (a := (A s a).2.1) (by omega) p2 hB
        rw [rSeq_yes hA hB]
        refine ⟨⟨hv, hu⟩, ?_⟩
        show cut s a (B (A s a).1 s (A s a).2.1).2.1 = _
        rw [cut_split p1 q1, cv, cu]
      · rw [rSeq_mid hA hB] at h; exact absurd h hB
    · rw [rSeq_no hA] at h; exact absurd h hA
  app := by
    intro s y a h0 h1
    obtain ⟨p1, p2⟩ := cA.place h0 h1
    rcases cA.app y h0 h1 with e | e
    · left; rw [rSeq_no (by rw [e]; decide)]; exact e
    by_cases hA : (A s a).2.2 = 0
    · obtain ⟨hv, _⟩ := cA.read h0 h1 hA
      rcases (cB _ hv).app (s := s) y (a := (A s a).2.1) (by omega) p2 with e' | e'
      · left; rw [rSeq_mid hA (by rw [e']; decide)]; exact e'
      · right
        unfold rSeq
        rw [e, e']
    · right
      unfold rSeq
      rw [e, if_neg hA, if_neg hA]
end
def rMap {α β : Type} (f : α → β) (A : Rdr α) : Rdr β := fun s a => (f (A s a).1, (A s a).2)
theorem Codec.map {α β : Type} {A : Rdr α} {ok : α → Prop} {enc : α → ByteArray} (c : Codec A ok enc) (f : α → β) (g : β → α) (hg : ∀ v, ok v → g (f v) = v) (hf : ∀ u, ok (g u) → f (g u) = u) :
    Codec (rMap f A) (fun u => ok (g u)) (fun u => enc (g u)) where
  place := fun h0 h1 => c.place h0 h1
  back := by
    intro u t r hu
    unfold rMap
    rw [c.back t r hu, hf u hu]
  read := by
    intro s a h0 h1 h
    obtain ⟨hv, cv⟩ := c.read h0 h1 h
    show ok (g (f (A s a).1)) ∧ cut s a (A s a).2.1 = enc (g (f (A s a).1))
    rw [hg _ hv]
    exact ⟨hv, cv⟩
  app := by
    intro s y a h0 h1
    rcases c.app y h0 h1 with e | e
    · exact Or.inl e
    · right; unfold rMap; rw [e]
def rTest {α : Type} (d : α) (t : α → Int) (A : Rdr α) : Rdr α := fun s a => if (A s a).2.2 = 0 then (if t (A s a).1 = 0 then A s a else (d, (A s a).2.1, t (A s a).1)) else (d, (A s a).2)
section
variable {α : Type} {d : α} {t : α → Int} {A : Rdr α}
theorem rTest_no {s : ByteArray} {a : Int} (h : (A s a).2.2 ≠ 0) : rTest d t A s a = (d, (A s a).2) := if_neg h
theorem rTest_bad {s : ByteArray} {a : Int} (h : (A s a).2.2 = 0) (h1 : t (A s a).1 ≠ 0) : rTest d t A s a = (d, (A s a).2.1, t (A s a).1) := by unfold rTest; rw [if_pos h, if_neg h1]
theorem rTest_yes {s : ByteArray} {a : Int} (h : (A s a).2.2 = 0) (h1 : t (A s a).1 = 0) : rTest d t A s a = A s a := by unfold rTest; rw [if_pos h, if_pos h1]
theorem Codec.test {ok : α → Prop} {enc : α → ByteArray} (c : Codec A ok enc) (d : α) (t : α → Int) : Codec (rTest d t A) (fun v => ok v ∧ t v = 0) enc where
  place := by
    intro s a h0 h1
    obtain ⟨p1, p2⟩ := c.place h0 h1
    by_cases h : (A s a).2.2 = 0
    · by_cases h2 : t (A s a).1 = 0
      · rw [rTest_yes h h2]; exact ⟨p1, p2⟩
      · rw [rTest_bad h h2]; exact ⟨p1, p2⟩
    · rw [rTest_no h]; exact ⟨p1, p2⟩
  back := by
    intro v x r ⟨hv, ht⟩
    have h1 := c.back x r hv
    have h2 : (A (x ++ (enc v ++ r)) x.size).2.2 = 0 := by rw [h1]
    have h3 : t (A (x ++ (enc v ++ r)) x.size).1 = 0 := by rw [h1]; exact ht
    rw [rTest_yes h2 h3, h1]
  read := by
    intro s a h0 h1 h
    by_cases hA : (A s a).2.2 = 0
    · by_cases h2 : t (A s a).1 = 0
      · rw [rTest_yes hA h2]
        obtain ⟨hv, cv⟩ := c.read h0 h1 hA
        exact ⟨⟨hv, h2⟩, cv⟩
      · rw [rTest_bad hA h2] at h; exact absurd h h2
    · rw [rTest_no hA] at h; exact absurd h hA
  app := by
    intro s y a h0 h1
    rcases c.app y h0 h1 with e | e
    · left; rw [rTest_no (by rw [e]; decide)]; exact e
    · right; unfold rTest; rw [e]
end
def rNil {α : Type} (v : α) : Rdr α := fun _ a => (v, a, 0)
theorem Codec.nil {α : Type} (v : α) : Codec (rNil v) (fun u => u = v) (fun _ => ⟨#[]⟩) where
  place := fun _ h1 => ⟨Int.le_refl _, h1⟩
  back := by
    intro u t r hu
    subst hu
    show (u, (t.size : Int), (0 : Int)) = (u, (t.size : Int) + 0, 0)
    rw [Int.add_zero]
  read := by
    intro s a _ _ _
    exact ⟨rfl, cut_none s a⟩
  app := fun _ _ _ _ => Or.inr rfl
theorem Codec.weak {α : Type} {A : Rdr α} {ok ok' : α → Prop} {enc enc' : α → ByteArray} (c : Codec A ok enc) (h : ∀ v, ok' v ↔ ok v) (he : ∀ v, ok v → enc' v = enc v) : Codec A ok' enc' where
  place := c.place
  back := by
    intro v t r hv
    rw [he v ((h v).1 hv)]
    exact c.back t r ((h v).1 hv)
  read := by
    intro s a h0 h1 h2
    obtain ⟨hv, cv⟩ := c.read h0 h1 h2
    exact ⟨(h _).2 hv, by rw [he _ hv]; exact cv⟩
  app := c.app
def rNum : Rdr Nat := fun s a => ((tNum s a 0).toNat, tAt s a 0, tErr s a 0)
theorem num_codec : Codec rNum (fun n => n < 18446744073709551616) vText where
  place := fun {s a} h0 h1 => by
    have := tAt_le (s := s) (a := a) (x := 0) h0 h1
    refine ⟨?_, this.2⟩
    show a ≤ tAt s a 0
    unfold tAt
    rw [if_pos rfl]
    omega
  back := by
    intro v t r hv
    obtain ⟨h1, h2, h3⟩ := take_text hv (rfl : t ++ (vText v ++ r) = _)
    unfold rNum
    rw [h1, h2, h3, Int.toNat_natCast]
  read := by
    intro s a h0 h1 h
    have hb := tNum_lt s a 0
    exact ⟨by show (tNum s a 0).toNat < _; omega, cut_num h0 h⟩
  app := by
    intro s y a h0 h1
    rcases t_app (y := y) h1 with e | ⟨e1, e2, e3⟩
    · exact Or.inl e
    · right; unfold rNum; rw [e1, e2, e3]
def rCount (m : Int) : Rdr Nat := fun s a => ((kNum s a 0 m).toNat, tAt s a 0, kErr s a 0 m)
theorem count_codec (m : Int) : Codec (rCount m) (fun n => n < 18446744073709551616 ∧ (n : Int) ≤ pMax m) vText where
  place := fun h0 h1 => num_codec.place h0 h1
  back := by
    intro v t r ⟨hv, hm⟩
    obtain ⟨h1, h2, h3⟩ := count_back (m := m) hv hm (rfl : t ++ (vText v ++ r) = _)
    unfold rCount
    rw [h1, h2, h3, Int.toNat_natCast]
  read := by
    intro s a h0 h1 h
    have h : kErr s a 0 m = 0 := h
    have ht : tErr s a 0 = 0 := by
      refine Decidable.byContradiction fun e => ?_
      rw [(k_err e).2] at h
      exact e h
    have ho : ¬ pMax m < tNum s a 0 := fun e => by rw [(k_over ht e).2] at h; exact absurd h (by decide)
    have hb := tNum_lt s a 0
    have hk := (k_ok (m := m) ht ho).1
    show ((kNum s a 0 m).toNat < _ ∧ ((kNum s a 0 m).toNat : Int) ≤ pMax m) ∧ cut s a (tAt s a 0) = vText (kNum s a 0 m).toNat
    rw [hk]
    exact ⟨⟨by omega, by omega⟩, cut_num h0 ht⟩
  app := by
    intro s y a h0 h1
    rcases t_app (y := y) h1 with e | ⟨e1, e2, e3⟩
    · left
      show kErr s a 0 m = 2
      rw [(k_err (by rw [e]; decide)).2, e]
    · right; unfold rCount kNum kErr; rw [e1, e2, e3]
def rBlob (m : Int) : Rdr ByteArray := fun s a => (bTxt s a 0 m, bAt s a 0 m, bErr s a 0 m)
def bEncT (s : ByteArray) : ByteArray := vText s.size ++ s
theorem blob_place {s : ByteArray} {a m : Int} (h0 : 0 ≤ a) (h1 : a ≤ s.size) : a ≤ bAt s a 0 m ∧ bAt s a 0 m ≤ s.size := by
  obtain ⟨p1, p2⟩ := num_codec.place h0 h1
  have p1 : a ≤ tAt s a 0 := p1
  have p2 : tAt s a 0 ≤ s.size := p2
  have hk := kNum_bd s a 0 m
  unfold bAt cAt
  split <;> omega
theorem blob_codec (m : Int) : Codec (rBlob m) (fun s => s.size < 18446744073709551616 ∧ (s.size : Int) ≤ pMax m) bEncT where
  place := fun h0 h1 => blob_place h0 h1
  back := by
    intro v t r ⟨hv, hm⟩
    obtain ⟨h1, h2, h3⟩ := blob_back (T := t ++ (bEncT v ++ r)) (t := t) (r := r) (m := m) hv hm (by unfold bEncT; rw [ByteArray.append_assoc (a := vText v.size)])
    unfold rBlob
    rw [h1, h2, h3]
    unfold bEncT
    rw [ByteArray.size_append]
    show (v, _, (0 : Int)) = (v, _, (0 : Int))
    congr 2
    omega
  read := by
    intro s a h0 h1 h
    obtain ⟨_, h2, h3, h4, h5, h6⟩ := blob_zero (show bErr s a 0 m = 0 from h)
    have hb := tNum_lt s a 0
    obtain ⟨p1, p2⟩ := num_codec.place h0 h1
    have p1 : a ≤ tAt s a 0 := p1
    have hz : ((bTxt s a 0 m).size : Int) = tNum s a 0 := by rw [h5, cut_size (by omega) (by omega) (by omega)]; omega
    refine ⟨⟨by show (bTxt s a 0 m).size < _; omega, by show ((bTxt s a 0 m).size : Int) ≤ _; omega⟩, ?_⟩
    show cut s a (bAt s a 0 m) = bEncT (bTxt s a 0 m)
    unfold bEncT
    have e : (bTxt s a 0 m).size = (tNum s a 0).toNat := by omega
    rw [h6, cut_split (j := tAt s a 0) p1 (by omega), cut_num h0 h2, e, h5]
  app := by
    intro s y a h0 h1
    rcases b_app (y := y) (m := m) h1 with e | ⟨e1, e2, e3⟩
    · exact Or.inl e
    · right; unfold rBlob; rw [e1, e2, e3]
theorem Codec.more {α : Type} {rd : Rdr α} {ok : α → Prop} {enc : α → ByteArray} (c : Codec rd ok enc) {v : α} (hv : ok v) (y : ByteArray) : rd (enc v ++ y) 0 = (v, ((enc v).size : Int), 0) := by
  have hb := c.back ⟨#[]⟩ y hv
  have e0 : (⟨#[]⟩ : ByteArray) ++ (enc v ++ y) = enc v ++ y := ByteArray.empty_append
  have e1 : (((⟨#[]⟩ : ByteArray).size : Nat) : Int) = 0 := rfl
  rw [e0, e1] at hb
  rw [hb]
  show (v, (0 : Int) + _, (0 : Int)) = _
  rw [Int.zero_add]
theorem Codec.only {α : Type} {rd : Rdr α} {ok : α → Prop} {enc : α → ByteArray} (c : Codec rd ok enc) {v : α} (hv : ok v) : rd (enc v) 0 = (v, ((enc v).size : Int), 0) := by
  have := c.more hv ⟨#[]⟩
  have e : enc v ++ (⟨#[]⟩ : ByteArray) = enc v := ByteArray.append_empty
  rwa [e] at this
theorem Codec.all {α : Type} {rd : Rdr α} {ok : α → Prop} {enc : α → ByteArray} (c : Codec rd ok enc) {s : ByteArray} (h : (rd s 0).2.2 = 0) (he : (rd s 0).2.1 = s.size) : ok (rd s 0).1 ∧ s = enc (rd s 0).1 := by
  obtain ⟨h1, h2⟩ := c.read (by decide) (by omega) h
  rw [he, cut_whole] at h2
  exact ⟨h1, h2⟩
end Go.Proofs.YtoefibkhlhmlfaaGreat
namespace Go.Proofs.YtoefibkhlhmlfaaGreat
open Go.RowKit
def bl (a b : ByteArray) : Bool := lBelow a.data.toList b.data.toList
theorem lBelow_irr : ∀ l : List UInt8, lBelow l l = false
  | [] => rfl
  | a :: l => by rw [lBelow, if_pos rfl]; exact lBelow_irr l
theorem lBelow_trans : ∀ a b c : List UInt8, lBelow a b = true → lBelow b c = true → lBelow a c = true
  | [], [], _, h, _ => by cases h
  | [], _ :: _, [], _, h => by cases h
  | [], _ :: _, _ :: _, _, _ => rfl
  | _ :: _, [], _, h, _ => by cases h
  | _ :: _, _ :: _, [], _, h => by cases h
  | x :: a, y :: b, z :: c, h1, h2 => by
    rw [lBelow] at h1 h2 ⊢
    by_cases e1 : x = y
    · subst e1
      rw [if_pos rfl] at h1
      by_cases e2 : x = z
      · subst e2
        rw [if_pos rfl] at h2 ⊢
        exact lBelow_trans a b c h1 h2
      · rw [if_neg e2] at h2 ⊢
        exact h2
    · rw [if_neg e1] at h1
      have h1 : x.toNat < y.toNat := of_decide_eq_true h1
      by_cases e2 : y = z
      · subst e2
        rw [if_neg e1]
        exact decide_eq_true h1
      · rw [if_neg e2] at h2
        have h2 : y.toNat < z.toNat := of_decide_eq_true h2
        have e3 : x ≠ z := fun e => by rw [e] at h1; omega
        rw [if_neg e3]
        exact decide_eq_true (by omega)
theorem bl_irr (a : ByteArray) : bl a a = false := lBelow_irr _
theorem bl_trans {a b c : ByteArray} (h1 : bl a b = true) (h2 : bl b c = true) : bl a c = true := lBelow_trans _ _ _ h1 h2
theorem bl_tri {a b : ByteArray} (h : bl a b = false) : bl b a = true ∨ a = b := by
  have := below_not a.data.toList b.data.toList
  unfold bl at h ⊢
  rw [h] at this
  cases hb : lBelow b.data.toList a.data.toList with
  | true => exact Or.inl rfl
  | false =>
    rw [hb] at this
    right
    have e : b.data.toList = a.data.toList := by simpa using this
    exact ByteArray.ext (Array.toList_inj.1 e.symm)
theorem bl_ne {a b : ByteArray} (h : bl a b = true) : a ≠ b := fun e => by rw [e, bl_irr] at h; cases h
theorem bl_asym {a b : ByteArray} (h : bl a b = true) : bl b a = false := by
  cases hb : bl b a with
  | false => rfl
  | true => exact absurd (bl_trans h hb) (by rw [bl_irr]; decide)
structure En where
  a : ByteArray
  n : Nat
theorem En.eq {x y : En} (h1 : x.a = y.a) (h2 : x.n = y.n) : x = y := by cases x; cases y; cases h1; cases h2; rfl
def En.ok (x : En) : Prop := 0 < x.a.size ∧ x.a.size ≤ 32 ∧ x.n ≠ 0
def Good (v : List En) : Prop := (∀ x ∈ v, x.ok) ∧ v.Pairwise (fun x y => bl x.a y.a = true)
def falls : Option ByteArray → ByteArray → Bool
  | none, _ => false
  | some q, a => !bl q a
theorem falls_none (a : ByteArray) : falls none a = false := rfl
theorem falls_some (q a : ByteArray) : falls (some q) a = !bl q a := rfl
def cOne (p : Option ByteArray) (x : En) : Int := if 32 < x.a.size then 3 else if x.a.size = 0 then 14 else if falls p x.a = true then 6 else if x.n = 0 then 7 else 0
def cGo : Option ByteArray → List En → Int
  | _, [] => 0
  | p, x :: l => if cOne p x = 0 then cGo (some x.a) l else cOne p x
def vCheck (v : List En) : Int := if 64 < v.length then 3 else cGo none v
theorem cOne_zero {p : Option ByteArray} {x : En} : cOne p x = 0 ↔ x.ok ∧ ∀ q, p = some q → bl q x.a = true := by
  unfold cOne En.ok
  constructor
  · intro h
    by_cases h1 : 32 < x.a.size
    · rw [if_pos h1] at h; exact absurd h (by decide)
    rw [if_neg h1] at h
    by_cases h2 : x.a.size = 0
    · rw [if_pos h2] at h; exact absurd h (by decide)
    rw [if_neg h2] at h
    cases p with
    | none =>
      rw [falls_none, if_neg (by decide)] at h
      by_cases h4 : x.n = 0
      · rw [if_pos h4] at h; exact absurd h (by decide)
      · exact ⟨⟨by omega, by omega, h4⟩, fun q e => by cases e⟩
    | some q =>
      cases hb : bl q x.a with
      | false => rw [falls_some, hb, if_pos (by decide)] at h; exact absurd h (by decide)
      | true =>
        rw [falls_some, hb, if_neg (by decide)] at h
        by_cases h4 : x.n = 0
        · rw [if_pos h4] at h; exact absurd h (by decide)
        · exact ⟨⟨by omega, by omega, h4⟩, fun q' e => by cases e; exact hb⟩
  · rintro ⟨⟨h1, h2, h3⟩, h4⟩
    rw [if_neg (by omega), if_neg (by omega)]
    cases p with
    | none => rw [falls_none, if_neg (by decide), if_neg h3]
    | some q => rw [falls_some, h4 q rfl, if_neg (by decide), if_neg h3]
theorem cGo_zero : ∀ (v : List En) (p : Option ByteArray), cGo p v = 0 ↔ Good v ∧ ∀ q, p = some q → ∀ x ∈ v, bl q x.a = true
  | [], p => ⟨fun _ => ⟨⟨(fun _ h => by cases h), List.Pairwise.nil⟩, (fun _ _ _ h => by cases h)⟩, fun _ => rfl⟩
  | x :: l, p => by
    rw [cGo]
    constructor
    · intro h
      by_cases h0 : cOne p x = 0
      · rw [if_pos h0] at h
        obtain ⟨⟨g1, g2⟩, g3⟩ := (cGo_zero l (some x.a)).1 h
        obtain ⟨o1, o2⟩ := cOne_zero.1 h0
        refine ⟨⟨?_, List.pairwise_cons.2 ⟨fun y hy => g3 x.a rfl y hy, g2⟩⟩, fun q e y hy => ?_⟩
        · intro y hy
          rcases List.mem_cons.1 hy with rfl | hy
          · exact o1
          · exact g1 y hy
        · rcases List.mem_cons.1 hy with rfl | hy
          · exact o2 q e
          · exact bl_trans (o2 q e) (g3 x.a rfl y hy)
      · rw [if_neg h0] at h
        exact absurd h h0
    · rintro ⟨⟨g1, g2⟩, g3⟩
      obtain ⟨p1, p2⟩ := List.pairwise_cons.1 g2
      have h0 : cOne p x = 0 := cOne_zero.2 ⟨g1 x List.mem_cons_self, fun q e => g3 q e x List.mem_cons_self⟩
      rw [if_pos h0]
      exact (cGo_zero l (some x.a)).2 ⟨⟨fun y hy => g1 y (List.mem_cons_of_mem _ hy), p2⟩, fun q e y hy => by cases e; exact p1 y hy⟩
theorem check_zero (v : List En) : vCheck v = 0 ↔ v.length ≤ 64 ∧ Good v := by
  unfold vCheck
  by_cases h : 64 < v.length
  · rw [if_pos h]
    exact ⟨fun e => absurd e (by decide), fun e => absurd e.1 (by omega)⟩
  · rw [if_neg h, cGo_zero]
    exact ⟨fun e => ⟨by omega, e.1⟩, fun e => ⟨e.2, fun q h => by cases h⟩⟩
theorem Good.nil : Good [] := ⟨(fun _ h => by cases h), List.Pairwise.nil⟩
theorem Good.cons {x : En} {v : List En} (h1 : x.ok) (h2 : Good v) (h3 : ∀ y ∈ v, bl x.a y.a = true) : Good (x :: v) :=
  ⟨(fun y hy => (List.mem_cons.1 hy).elim (fun e => e ▸ h1) (fun h => h2.1 y h)), List.pairwise_cons.2 ⟨h3, h2.2⟩⟩
def vCount : List En → ByteArray → Nat
  | [], _ => 0
  | x :: l, a => if x.a = a then x.n else vCount l a
theorem count_nil (z : ByteArray) : vCount [] z = 0 := rfl
theorem count_cons (x : En) (l : List En) (z : ByteArray) : vCount (x :: l) z = if x.a = z then x.n else vCount l z := rfl
def vPut : List En → En → List En
  | [], x => [x]
  | y :: l, x => if bl y.a x.a = true then y :: vPut l x else if y.a = x.a then (if y.n < x.n then x :: l else y :: l) else x :: y :: l
def vPuts (o l : List En) : List En := l.foldl vPut o
def vAll (o : List En) (l : List (List En)) : List En := l.foldl vPuts o
theorem all_cons (o v : List En) (l : List (List En)) : vAll o (v :: l) = vAll (vPuts o v) l := rfl
end Go.Proofs.YtoefibkhlhmlfaaGreat
