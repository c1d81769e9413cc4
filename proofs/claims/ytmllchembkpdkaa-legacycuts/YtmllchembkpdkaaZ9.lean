/-
  What this seat's claims lean on of the texts Dotted, Whole.
  Conditions: as each theorem states.
-/
import Derived.WalkKit
import Derived.ProofKit
import Derived.Below
import Derived.Deep.Draws
import Derived.Deep.RegionHeld
import Derived.Test.YtmllchembkpdkaaChecked
import Derived.OpenShut
import Derived.ShutString
import Derived.WalkSpells
import Derived.WalkLawsBesides
import Derived.Deep.QuietTactic
import Derived.BigQuiet
import Derived.Laws.Bits64b
import Derived.PlainAid
import Derived.Lib.AppendStr
import Derived.Deep.AppendLies
import Derived.Laws.IdiomStrings
import Derived.Laws.BytesArg
import Derived.Deep.RegionWith
import Derived.Test.YtmllchembkpdkaaZ7
import Derived.Test.YtmllchembkpdkaaZ6
import Derived.Test.YtmllchembkpdkaaZ2
namespace Go.Proofs.Ytmllchembkpdkaa
open Go.RowKit
structure Ck where
  c : List En
  d : Bool
  x : En
def kDot (k : Ck) : Int :=
  if k.d = true then (if 32 < k.x.a.size then 3 else if k.x.a.size = 0 then 14 else if k.x.n = 0 then 7 else if k.x.n ≤ vCount k.c k.x.a then 15 else 0)
  else (if k.x.a.size = 0 ∧ k.x.n = 0 then 0 else 1)
def kCheck (k : Ck) : Int := if vCheck k.c = 0 then kDot k else vCheck k.c
structure Right (k : Ck) : Prop where
  vec : vCheck k.c = 0
  good : Good k.c
  plain : k.d = false → k.x.a.size = 0 ∧ k.x.n = 0
  dot : k.d = true → k.x.ok ∧ vCount k.c k.x.a < k.x.n
theorem dot_zero (k : Ck) : kDot k = 0 ↔ (k.d = false → k.x.a.size = 0 ∧ k.x.n = 0) ∧ (k.d = true → k.x.ok ∧ vCount k.c k.x.a < k.x.n) := by
  unfold kDot En.ok
  cases k.d with
  | false =>
    rw [if_neg (by decide)]
    constructor
    · intro h
      refine ⟨fun _ => ?_, (fun e => by cases e)⟩
      by_cases h0 : k.x.a.size = 0 ∧ k.x.n = 0
      · exact h0
      · rw [if_neg h0] at h; exact absurd h (by decide)
    · intro h
      rw [if_pos (h.1 rfl)]
  | true =>
    rw [if_pos rfl]
    constructor
    · intro h
      refine ⟨(fun e => by cases e), fun _ => ?_⟩
      by_cases h1 : 32 < k.x.a.size
      · rw [if_pos h1] at h; exact absurd h (by decide)
      rw [if_neg h1] at h
      by_cases h2 : k.x.a.size = 0
      · rw [if_pos h2] at h; exact absurd h (by decide)
      rw [if_neg h2] at h
      by_cases h3 : k.x.n = 0
      · rw [if_pos h3] at h; exact absurd h (by decide)
      rw [if_neg h3] at h
      by_cases h4 : k.x.n ≤ vCount k.c k.x.a
      · rw [if_pos h4] at h; exact absurd h (by decide)
      exact ⟨⟨by omega, by omega, h3⟩, by omega⟩
    · intro h
      obtain ⟨⟨h1, h2, h3⟩, h4⟩ := h.2 rfl
      rw [if_neg (by omega), if_neg (by omega), if_neg h3, if_neg (by omega)]
theorem right_iff (k : Ck) : kCheck k = 0 ↔ Right k := by
  unfold kCheck
  by_cases h : vCheck k.c = 0
  · rw [if_pos h, dot_zero]
    exact ⟨fun e => ⟨h, ((check_zero _).1 h).2, e.1, e.2⟩, fun e => ⟨e.plain, e.dot⟩⟩
  · rw [if_neg h]
    exact ⟨fun e => absurd e h, fun e => absurd e.vec h⟩
end Go.Proofs.Ytmllchembkpdkaa
namespace Go.Proofs.Ytmllchembkpdkaa
open Go.RowKit
def dec {α : Type} (z : α) (rd : Rdr α) (s : ByteArray) : α × Int := if cEnd s (rd s 0).2.1 (rd s 0).2.2 = 0 then ((rd s 0).1, 0) else (z, cEnd s (rd s 0).2.1 (rd s 0).2.2)
section
variable {α : Type} {z : α} {rd : Rdr α} {ok : α → Prop} {enc : α → ByteArray}
theorem Codec.dec_enc (c : Codec rd ok enc) {k : α} (h : ok k) : dec z rd (enc k) = (k, 0) := by
  have h1 := c.only h
  unfold dec
  rw [h1]
  have e : cEnd (enc k) ((enc k).size : Int) 0 = 0 := if_neg (by omega)
  show (if cEnd (enc k) ((enc k).size : Int) 0 = 0 then (k, (0 : Int)) else _) = _
  rw [if_pos e]
theorem Codec.dec_zero (c : Codec rd ok enc) {s : ByteArray} (h : (dec z rd s).2 = 0) : ok (dec z rd s).1 ∧ enc (dec z rd s).1 = s := by
  unfold dec at h ⊢
  by_cases h0 : cEnd s (rd s 0).2.1 (rd s 0).2.2 = 0
  · rw [if_pos h0]
    have hp := (c.place (s := s) (a := 0) (by decide) (by omega)).2
    unfold cEnd cFail at h0
    by_cases hl : (rd s 0).2.1 < s.size
    · rw [if_pos hl] at h0
      split at h0
      · exact absurd h0 (by decide)
      · rename_i hx; exact absurd h0 hx
    · rw [if_neg hl] at h0
      obtain ⟨h1, h2⟩ := c.all h0 (by omega)
      exact ⟨h1, h2.symm⟩
  · rw [if_neg h0] at h
    exact absurd h h0
theorem dec_no {s : ByteArray} (h : (dec z rd s).2 ≠ 0) : (dec z rd s).1 = z := by
  unfold dec at h ⊢
  split
  · rename_i h0; rw [if_pos h0] at h; exact absurd rfl h
  · rfl
theorem Codec.dec_short (c : Codec rd ok enc) {k : α} (h : ok k) {i : Nat} (hi : i < (enc k).size) : (dec z rd ((enc k).extract 0 i)).2 = 2 := by
  have e : (enc k).extract 0 i ++ (enc k).extract i (enc k).size = enc k := by
    have e1 := cut_head (s := enc k) (j := (i : Int)) (by omega) (by omega)
    have e2 : cut (enc k) 0 (i : Int) = (enc k).extract 0 i := rfl
    have e3 : cut (enc k) (i : Int) (enc k).size = (enc k).extract i (enc k).size := rfl
    rw [e2, e3] at e1
    exact e1.symm
  have h2 := c.short h e (by rw [ByteArray.size_extract]; omega)
  have h3 : ∀ s : ByteArray, ∀ a : Int, cEnd s a 2 = 2 := by
    intro s a
    unfold cEnd cFail
    split <;> rfl
  unfold dec
  rw [h2, h3, if_neg (by decide)]
theorem Codec.dec_more (c : Codec rd ok enc) {k : α} (h : ok k) {y : ByteArray} (hy : 0 < y.size) : (dec z rd (enc k ++ y)).2 = 8 := by
  have h1 := c.more h y
  have e : cEnd (enc k ++ y) ((enc k).size : Int) 0 = 8 := by
    unfold cEnd
    rw [if_pos (by rw [ByteArray.size_append]; omega)]
    rfl
  unfold dec
  rw [h1]
  show (if cEnd (enc k ++ y) ((enc k).size : Int) 0 = 0 then (k, (0 : Int)) else (z, cEnd (enc k ++ y) ((enc k).size : Int) 0)).2 = 8
  rw [e]
  rfl
end
structure Wr (W : Int → ByteArray × Int → ByteArray × Int) (e : ByteArray) : Prop where
  fit : ∀ {M : Int} {t : ByteArray}, (t.size : Int) + e.size ≤ M → W M (t, 0) = (t ++ e, 0)
  over : ∀ {M : Int} {t : ByteArray}, (t.size : Int) ≤ M → ¬ ((t.size : Int) + e.size ≤ M) → (W M (t, 0)).2 = 3
  err : ∀ {M : Int} {t : ByteArray} {x : Int}, x ≠ 0 → W M (t, x) = (t, x)
theorem Wr.one (s : ByteArray) : Wr (fun M p => pOne M p s) s where
  fit := fun h => pOne_yes h
  over := fun _ h => by rw [pOne_no h]
  err := fun h => pOne_err h
theorem Wr.nil : Wr (fun _ p => p) ⟨#[]⟩ where
  fit := fun {_ t} _ => by
    have e : t ++ (⟨#[]⟩ : ByteArray) = t := ByteArray.append_empty
    rw [e]
  over := fun {M t} h h1 => absurd (by have e : ((⟨#[]⟩ : ByteArray).size : Int) = 0 := rfl; rw [e]; omega) h1
  err := fun _ => rfl
theorem Wr.seq {A B : Int → ByteArray × Int → ByteArray × Int} {a b : ByteArray} (hA : Wr A a) (hB : Wr B b) : Wr (fun M p => B M (A M p)) (a ++ b) where
  fit := fun {M t} h => by
    rw [ByteArray.size_append] at h
    rw [hA.fit (by omega), hB.fit (by rw [ByteArray.size_append]; omega), ByteArray.append_assoc]
  over := fun {M t} h h1 => by
    rw [ByteArray.size_append] at h1
    by_cases h2 : (t.size : Int) + a.size ≤ M
    · rw [hA.fit h2]
      exact hB.over (by rw [ByteArray.size_append]; omega) (by rw [ByteArray.size_append]; omega)
    · have e := hA.over h h2
      have e2 : A M (t, 0) = ((A M (t, 0)).1, 3) := Prod.ext rfl e
      rw [e2, hB.err (by decide)]
  err := fun {M t x} h => by rw [hA.err h, hB.err h]
theorem Wr.eq {A : Int → ByteArray × Int → ByteArray × Int} {a b : ByteArray} (h : Wr A a) (e : a = b) : Wr A b := e ▸ h
theorem Wr.blob {m : Int} {s : ByteArray} (h : (s.size : Int) ≤ pMax m) : Wr (fun M p => wPut M m p s) (bEncT s) := by
  have c := (Wr.one (vText s.size)).seq (Wr.one s)
  refine ⟨fun h1 => ?_, fun h1 h2 => ?_, fun h1 => ?_⟩
  · rw [wPut_fit h]; exact c.fit h1
  · rw [wPut_fit h]; exact c.over h1 h2
  · exact wPut_err h1
theorem Wr.ends {A : Int → ByteArray × Int → ByteArray × Int} {a : ByteArray} (h : Wr A a) {M : Int} (hM : 0 ≤ M) : (pEnd (A M (⟨#[]⟩, 0)).1 (A M (⟨#[]⟩, 0)).2, (A M (⟨#[]⟩, 0)).2) = if (a.size : Int) ≤ M then (a, 0) else (⟨#[]⟩, 3) := by
  have e0 : (((⟨#[]⟩ : ByteArray).size : Nat) : Int) = 0 := rfl
  by_cases h1 : (a.size : Int) ≤ M
  · have e : (⟨#[]⟩ : ByteArray) ++ a = a := ByteArray.empty_append
    rw [if_pos h1, h.fit (by rw [e0]; omega), e]
    unfold pEnd
    rw [if_pos rfl]
  · have e := h.over (M := M) (t := ⟨#[]⟩) (by rw [e0]; omega) (by rw [e0]; omega)
    rw [if_neg h1]
    unfold pEnd
    rw [e, if_neg (by decide)]
end Go.Proofs.Ytmllchembkpdkaa
