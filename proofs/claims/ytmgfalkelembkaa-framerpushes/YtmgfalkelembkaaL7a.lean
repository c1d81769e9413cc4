/-
  The texts Frame, Held, RefFrame, RefFrame2, RefFrame3 of this seat, one behind the other.
  Conditions: as each says.
-/
import Derived.Test.YtmgfalkelembkaaL6
import Derived.Test.YtmgfalkelembkaaL4
import Derived.Test.YtmgfalkelembkaaL5
import Derived.Test.YtmgfalkelembkaaL1
import Derived.Deep.RegionHeld
import Derived.Deep.RegionWith
import Derived.Laws.Rows
import Derived.Test.YtmgfalkelembkaaL3
import Derived.PlainAid
/-
  Frames on rows of bytes: what is read, where it ends, and why there is none; what is written; each from the other. No program.
  Conditions: none.
-/
namespace Go.Proofs.Ytmgfalkelembkaa
open Go.RowKit

/-! ### readings with an error -/
theorem cByte_bad {s : ByteArray} {a x : Int} (h : x ≠ 0) : cByte s a x = 0 := if_neg (fun e => h e.1)
theorem cAt_bad {s : ByteArray} {a x : Int} (n : Int) (h : x ≠ 0) : cAt s a x n = a := if_neg (fun e => h e.1)
theorem cErr_bad {s : ByteArray} {a x : Int} (n : Int) (h : x ≠ 0) : cErr s a x n = x := if_pos h
theorem cBytes_bad {s : ByteArray} {a x : Int} (n : Int) (h : x ≠ 0) : cBytes s a x n = ⟨#[]⟩ := if_neg (fun e => h e.1)
theorem b_bad {s : ByteArray} {a x : Int} (m : Int) (h : x ≠ 0) : bTxt s a x m = ⟨#[]⟩ ∧ bAt s a x m = a ∧ bErr s a x m = x := by
  have h1 := tErr_err (s := s) (a := a) h
  obtain ⟨h2, h3⟩ := k_err (s := s) (a := a) (x := x) (m := m) (by rw [h1]; exact h)
  rw [h1] at h3
  unfold bTxt bAt bErr
  rw [h2, h3, tAt_err h]
  exact ⟨cBytes_bad _ h, cAt_bad _ h, cErr_bad _ h⟩
theorem f_bad {s : ByteArray} {a x : Int} (h : x ≠ 0) : fNum s a x 4 = 0 ∧ fAt s a x 4 = a ∧ fErr s a x 4 = x := by
  obtain ⟨h1, h2, h3⟩ := fTake_yes (s := s) (a := a) (x := x) (k := 4) rfl
  rw [h1, h2, h3, cBytes_bad _ h]
  exact ⟨rfl, cAt_bad _ h, cErr_bad _ h⟩

/-! ### reading a frame -/
/-- Behind a byte that must be c; behind a version. -/
def mE (s : ByteArray) (a x c : Int) : Int := if cErr s a x 1 = 0 ∧ cByte s a x ≠ c then 9 else cErr s a x 1
def qV (v : Int) : Bool := decide (v = 1 ∨ v = 2)
def vE (s : ByteArray) (a : Int) : Int := if cErr s a 0 1 = 0 ∧ qV (cByte s a 0) = false then 10 else cErr s a 0 1
/-- From a frame's kind on: the place and the error behind the kind; the payload, the place and the error behind it; the sum, the place and the error behind it. -/
def q4A (s : ByteArray) (a : Int) : Int := cAt s a 0 1
def q4E (s : ByteArray) (a : Int) : Int := cErr s a 0 1
def q5T (s : ByteArray) (a : Int) : ByteArray := bTxt s (q4A s a) (q4E s a) 65536
def q5A (s : ByteArray) (a : Int) : Int := bAt s (q4A s a) (q4E s a) 65536
def q5E (s : ByteArray) (a : Int) : Int := bErr s (q4A s a) (q4E s a) 65536
def q6N (s : ByteArray) (a : Int) : Nat := fNum s (q5A s a) (q5E s a) 4
def q6A (s : ByteArray) (a : Int) : Int := fAt s (q5A s a) (q5E s a) 4
def q6E (s : ByteArray) (a : Int) : Int := fErr s (q5A s a) (q5E s a) 4
/-- The sum that is right. -/
def qSum (s : ByteArray) (a : Int) : Nat := cSum (cut s (a + 2) (q5A s (a + 3))).data.toList
/-- The error; the place; the frame. -/
def qErr (s : ByteArray) (a x : Int) : Int :=
  if mE s a x 215 ≠ 0 then mE s a x 215 else if mE s (a + 1) 0 78 ≠ 0 then mE s (a + 1) 0 78 else if vE s (a + 2) ≠ 0 then vE s (a + 2)
  else if q6E s (a + 3) ≠ 0 then q6E s (a + 3) else if q6N s (a + 3) ≠ qSum s a then 12 else 0
def qAt (s : ByteArray) (a x : Int) : Int :=
  if mE s a x 215 ≠ 0 then cAt s a x 1 else if mE s (a + 1) 0 78 ≠ 0 then cAt s (a + 1) 0 1 else if vE s (a + 2) ≠ 0 then cAt s (a + 2) 0 1 else q6A s (a + 3)
def qVer (s : ByteArray) (a x : Int) : Int := if qErr s a x = 0 then cByte s (a + 2) 0 else 0
def qKind (s : ByteArray) (a x : Int) : Int := if qErr s a x = 0 then cByte s (a + 3) 0 else 0
def qTxt (s : ByteArray) (a x : Int) : ByteArray := if qErr s a x = 0 then q5T s (a + 3) else ⟨#[]⟩
def fr (v k : Int) (t : ByteArray) : Value := .agg #[.int .u8 v, .int .u8 k, .string t]
def qFr (s : ByteArray) (a x : Int) : Value := fr (qVer s a x) (qKind s a x) (qTxt s a x)

theorem cErr_byte {s : ByteArray} {a x : Int} (h : cErr s a x 1 = 0) : x = 0 ∧ a < s.size ∧ cAt s a x 1 = a + 1 := by
  unfold cErr at h
  by_cases hx : x = 0
  · subst hx
    rw [if_neg (by omega), if_neg (by omega)] at h
    by_cases hl : (1 : Int) ≤ s.size - a
    · exact ⟨rfl, by omega, if_pos ⟨rfl, by omega, hl⟩⟩
    · rw [if_neg hl] at h
      exact absurd h (by decide)
  · rw [if_pos hx] at h
    exact absurd h hx
theorem mE_zero {s : ByteArray} {a x c : Int} (h : mE s a x c = 0) : x = 0 ∧ cErr s a x 1 = 0 ∧ cByte s a x = c ∧ cAt s a x 1 = a + 1 := by
  unfold mE at h
  by_cases h1 : cErr s a x 1 = 0 ∧ cByte s a x ≠ c
  · rw [if_pos h1] at h
    exact absurd h (by decide)
  · rw [if_neg h1] at h
    obtain ⟨h2, h3, h4⟩ := cErr_byte h
    exact ⟨h2, h, Decidable.byContradiction fun h5 => h1 ⟨h, h5⟩, h4⟩
theorem mE_bad {s : ByteArray} {a x c : Int} (h : mE s a x c ≠ 0) : (cErr s a x 1 ≠ 0 ∧ mE s a x c = cErr s a x 1 ∧ cByte s a x = 0) ∨ (cErr s a x 1 = 0 ∧ cByte s a x ≠ c ∧ mE s a x c = 9) := by
  unfold mE at h ⊢
  by_cases h1 : cErr s a x 1 = 0 ∧ cByte s a x ≠ c
  · rw [if_pos h1]
    exact .inr ⟨h1.1, h1.2, rfl⟩
  · rw [if_neg h1] at h ⊢
    refine .inl ⟨h, rfl, ?_⟩
    unfold cErr at h
    unfold cByte
    by_cases hx : x = 0
    · subst hx
      rw [if_neg (by omega), if_neg (by omega)] at h
      rw [if_neg]
      rintro ⟨-, hl⟩
      rw [if_pos (by omega)] at h
      exact h rfl
    · exact if_neg (fun e => hx e.1)
theorem vE_zero {s : ByteArray} {a : Int} (h : vE s a = 0) : cErr s a 0 1 = 0 ∧ qV (cByte s a 0) = true ∧ cAt s a 0 1 = a + 1 := by
  unfold vE at h
  by_cases h1 : cErr s a 0 1 = 0 ∧ qV (cByte s a 0) = false
  · rw [if_pos h1] at h
    exact absurd h (by decide)
  · rw [if_neg h1] at h
    obtain ⟨_, _, h4⟩ := cErr_byte h
    exact ⟨h, by cases h5 : qV (cByte s a 0) with | true => rfl | false => exact absurd ⟨h, h5⟩ h1, h4⟩
theorem vE_bad {s : ByteArray} {a : Int} (h : vE s a ≠ 0) : qV (cByte s a 0) = false ∧ ((cErr s a 0 1 ≠ 0 ∧ vE s a = cErr s a 0 1 ∧ cByte s a 0 = 0) ∨ (cErr s a 0 1 = 0 ∧ vE s a = 10)) := by
  have h0 : mE s a 0 (cByte s a 0) = cErr s a 0 1 := if_neg (fun e => e.2 rfl)
  unfold vE at h ⊢
  by_cases h1 : cErr s a 0 1 = 0 ∧ qV (cByte s a 0) = false
  · rw [if_pos h1]
    exact ⟨h1.2, .inr ⟨h1.1, rfl⟩⟩
  · rw [if_neg h1] at h ⊢
    rcases mE_bad (c := cByte s a 0) (by rw [h0]; exact h) with ⟨_, _, h2⟩ | ⟨_, h2, _⟩
    · exact ⟨by rw [h2]; rfl, .inl ⟨h, rfl, h2⟩⟩
    · exact absurd rfl h2

/-! ### the cases of a reading -/
theorem q_A {s : ByteArray} {a x : Int} (h : mE s a x 215 ≠ 0) : qErr s a x = mE s a x 215 ∧ qAt s a x = cAt s a x 1 := ⟨if_pos h, if_pos h⟩
theorem q_B {s : ByteArray} {a x : Int} (h : mE s a x 215 = 0) (h1 : mE s (a + 1) 0 78 ≠ 0) : qErr s a x = mE s (a + 1) 0 78 ∧ qAt s a x = cAt s (a + 1) 0 1 := by
  unfold qErr qAt
  simp [h, h1]
theorem q_C {s : ByteArray} {a x : Int} (h : mE s a x 215 = 0) (h1 : mE s (a + 1) 0 78 = 0) (h2 : vE s (a + 2) ≠ 0) : qErr s a x = vE s (a + 2) ∧ qAt s a x = cAt s (a + 2) 0 1 := by
  unfold qErr qAt
  simp [h, h1, h2]
theorem q_at {s : ByteArray} {a x : Int} (h : mE s a x 215 = 0) (h1 : mE s (a + 1) 0 78 = 0) (h2 : vE s (a + 2) = 0) : qAt s a x = q6A s (a + 3) := by
  unfold qAt
  simp [h, h1, h2]
theorem q_D {s : ByteArray} {a x : Int} (h : mE s a x 215 = 0) (h1 : mE s (a + 1) 0 78 = 0) (h2 : vE s (a + 2) = 0) (h3 : q6E s (a + 3) ≠ 0) : qErr s a x = q6E s (a + 3) := by
  unfold qErr
  simp [h, h1, h2, h3]
theorem q_E {s : ByteArray} {a x : Int} (h : mE s a x 215 = 0) (h1 : mE s (a + 1) 0 78 = 0) (h2 : vE s (a + 2) = 0) (h3 : q6E s (a + 3) = 0) (h4 : q6N s (a + 3) ≠ qSum s a) : qErr s a x = 12 := by
  unfold qErr
  simp [h, h1, h2, h3, h4]
theorem q_F {s : ByteArray} {a x : Int} (h : mE s a x 215 = 0) (h1 : mE s (a + 1) 0 78 = 0) (h2 : vE s (a + 2) = 0) (h3 : q6E s (a + 3) = 0) (h4 : q6N s (a + 3) = qSum s a) : qErr s a x = 0 := by
  unfold qErr
  simp [h, h1, h2, h3, h4]
theorem q_zero {s : ByteArray} {a x : Int} (h : qErr s a x = 0) : mE s a x 215 = 0 ∧ mE s (a + 1) 0 78 = 0 ∧ vE s (a + 2) = 0 ∧ q6E s (a + 3) = 0 ∧ q6N s (a + 3) = qSum s a := by
  by_cases h0 : mE s a x 215 = 0
  · by_cases h1 : mE s (a + 1) 0 78 = 0
    · by_cases h2 : vE s (a + 2) = 0
      · by_cases h3 : q6E s (a + 3) = 0
        · by_cases h4 : q6N s (a + 3) = qSum s a
          · exact ⟨h0, h1, h2, h3, h4⟩
          · exact absurd ((q_E h0 h1 h2 h3 h4).symm.trans h) (by decide)
        · exact absurd ((q_D h0 h1 h2 h3).symm.trans h) h3
      · exact absurd ((q_C h0 h1 h2).1.symm.trans h) h2
    · exact absurd ((q_B h0 h1).1.symm.trans h) h1
  · exact absurd ((q_A h0).1.symm.trans h) h0
theorem qFr_no {s : ByteArray} {a x : Int} (h : qErr s a x ≠ 0) : qFr s a x = fr 0 0 ⟨#[]⟩ := by
  unfold qFr qVer qKind qTxt
  rw [if_neg h, if_neg h, if_neg h]
theorem qFr_yes {s : ByteArray} {a x : Int} (h : qErr s a x = 0) : qFr s a x = fr (cByte s (a + 2) 0) (cByte s (a + 3) 0) (q5T s (a + 3)) := by
  unfold qFr qVer qKind qTxt
  rw [if_pos h, if_pos h, if_pos h]

/-! ### writing a frame -/
def fBody (v k : UInt8) (p : ByteArray) : ByteArray := one v ++ (one k ++ (vText p.size ++ p))
def fEnc (v k : UInt8) (p : ByteArray) : ByteArray := one 215 ++ (one 78 ++ (fBody v k p ++ bText 4 (cSum (fBody v k p).data.toList)))
theorem fBody_size (v k : UInt8) (p : ByteArray) : (fBody v k p).size = 2 + (vText p.size).size + p.size := by
  unfold fBody
  simp only [ByteArray.size_append, one_size]
  omega
theorem fEnc_size (v k : UInt8) (p : ByteArray) : (fEnc v k p).size = 8 + (vText p.size).size + p.size := by
  unfold fEnc
  simp only [ByteArray.size_append, one_size, bText_size, fBody_size]
  omega

/-! ### what is written is read -/
theorem byte_back {T t r : ByteArray} {c : UInt8} (h : T = t ++ (one c ++ r)) : cByte T t.size 0 = (c.toNat : Int) ∧ cErr T t.size 0 1 = 0 ∧ cAt T t.size 0 1 = (t.size : Int) + 1 := by
  have hsz : T.size = t.size + (1 + r.size) := by rw [h]; simp only [ByteArray.size_append, one_size]
  refine ⟨?_, ?_, ?_⟩
  · unfold cByte byteAt
    rw [if_pos ⟨rfl, by omega⟩]
    have e0 : ((t.size : Int)).toNat = t.data.toList.length := by simp
    rw [e0, h, ByteArray.data_append, Array.toList_append, List.getD_eq_getElem?_getD, List.getElem?_append_right (Nat.le_refl _), Nat.sub_self, ByteArray.data_append, Array.toList_append]
    rfl
  · unfold cErr; rw [if_neg (by decide), if_neg (by decide), if_pos (by omega)]
  · unfold cAt; rw [if_pos ⟨rfl, by decide, by omega⟩]
theorem fix_back {T t r : ByteArray} {n : Nat} (hn : n < 4294967296) (h : T = t ++ (bText 4 n ++ r)) : fNum T t.size 0 4 = n ∧ fErr T t.size 0 4 = 0 ∧ fAt T t.size 0 4 = (t.size : Int) + 4 := by
  have hsz : T.size = t.size + (4 + r.size) := by rw [h]; simp only [ByteArray.size_append, bText_size]
  obtain ⟨h1, h2, h3⟩ := fTake_yes (s := T) (a := t.size) (x := 0) (k := 4) rfl
  have hc : (0 : Int) = 0 ∧ (0 : Int) ≤ 4 ∧ (4 : Int) ≤ T.size - (t.size : Int) := by omega
  rw [h1, h2, h3]
  refine ⟨?_, ?_, ?_⟩
  · have e : cBytes T t.size 0 4 = bText 4 n := by
      unfold cBytes
      rw [if_pos hc]
      have := cut_mid (t := t) (s := bText 4 n) (r := r)
      rw [bText_size, ← h] at this
      exact this
    rw [e, bText_list, bNum_enc]
    exact Nat.mod_eq_of_lt hn
  · unfold cErr; rw [if_neg (by decide), if_neg (by decide), if_pos hc.2.2]
  · unfold cAt; rw [if_pos hc]
theorem frame_back {T t p r : ByteArray} {v k : UInt8} (hv : qV (v.toNat : Int) = true) (hp : p.size ≤ 65536) (h : T = t ++ (fEnc v k p ++ r)) :
    qErr T t.size 0 = 0 ∧ qFr T t.size 0 = fr (v.toNat : Int) (k.toNat : Int) p ∧ qAt T t.size 0 = (t.size : Int) + (fEnc v k p).size := by
  obtain ⟨n, hn⟩ : ∃ n, n = cSum (fBody v k p).data.toList := ⟨_, rfl⟩
  have e0 : T = t ++ (one 215 ++ (one 78 ++ (fBody v k p ++ (bText 4 n ++ r)))) := by
    rw [h, hn]; unfold fEnc; simp only [ByteArray.append_assoc]
  have e1 : T = (t ++ one 215) ++ (one 78 ++ (fBody v k p ++ (bText 4 n ++ r))) := by rw [e0]; simp only [ByteArray.append_assoc]
  have e2 : T = (t ++ one 215 ++ one 78) ++ (fBody v k p ++ (bText 4 n ++ r)) := by rw [e0]; simp only [ByteArray.append_assoc]
  have e2' : T = (t ++ one 215 ++ one 78) ++ (one v ++ (one k ++ (vText p.size ++ (p ++ (bText 4 n ++ r))))) := by rw [e2]; unfold fBody; simp only [ByteArray.append_assoc]
  have e3 : T = (t ++ one 215 ++ one 78 ++ one v) ++ (one k ++ (vText p.size ++ (p ++ (bText 4 n ++ r)))) := by rw [e2']; simp only [ByteArray.append_assoc]
  have e4 : T = (t ++ one 215 ++ one 78 ++ one v ++ one k) ++ (vText p.size ++ (p ++ (bText 4 n ++ r))) := by rw [e2']; simp only [ByteArray.append_assoc]
  have e5 : T = (t ++ one 215 ++ one 78 ++ one v ++ one k ++ vText p.size ++ p) ++ (bText 4 n ++ r) := by rw [e2']; simp only [ByteArray.append_assoc]
  have s1 : (((t ++ one 215).size : Nat) : Int) = (t.size : Int) + 1 := by simp only [ByteArray.size_append, one_size]; omega
  have s2 : (((t ++ one 215 ++ one 78).size : Nat) : Int) = (t.size : Int) + 2 := by simp only [ByteArray.size_append, one_size]; omega
  have s3 : (((t ++ one 215 ++ one 78 ++ one v).size : Nat) : Int) = (t.size : Int) + 3 := by simp only [ByteArray.size_append, one_size]; omega
  have s4 : (((t ++ one 215 ++ one 78 ++ one v ++ one k).size : Nat) : Int) = (t.size : Int) + 4 := by simp only [ByteArray.size_append, one_size]; omega
  have s5 : (((t ++ one 215 ++ one 78 ++ one v ++ one k ++ vText p.size ++ p).size : Nat) : Int) = (t.size : Int) + 4 + (vText p.size).size + p.size := by simp only [ByteArray.size_append, one_size]; omega
  obtain ⟨b0, c0, d0⟩ := byte_back e0
  obtain ⟨b1, c1, d1⟩ := byte_back e1
  obtain ⟨b2, c2, d2⟩ := byte_back e2'
  obtain ⟨b3, c3, d3⟩ := byte_back e3
  obtain ⟨b4, c4, d4⟩ := blob_back (m := 65536) (by omega) (by show (p.size : Int) ≤ 65536; omega) e4
  obtain ⟨b5, c5, d5⟩ := fix_back (by rw [hn]; exact cMore_lt 0 _) e5
  rw [s1] at b1 c1 d1
  rw [s2] at b2 c2 d2
  rw [s3] at b3 c3 d3
  rw [s4] at b4 c4 d4
  rw [s5] at b5 c5 d5
  have g0 : mE T t.size 0 215 = 0 := by unfold mE; rw [if_neg (fun e => e.2 b0), c0]
  have g1 : mE T ((t.size : Int) + 1) 0 78 = 0 := by unfold mE; rw [if_neg (fun e => e.2 b1), c1]
  have g2 : vE T ((t.size : Int) + 2) = 0 := by unfold vE; rw [b2, hv, if_neg (fun e => Bool.noConfusion e.2), c2]
  have p4 : q4A T ((t.size : Int) + 3) = (t.size : Int) + 4 := d3.trans (by omega)
  have x4 : q4E T ((t.size : Int) + 3) = 0 := c3
  have p5 : q5A T ((t.size : Int) + 3) = (t.size : Int) + 4 + (vText p.size).size + p.size := by unfold q5A; rw [p4, x4, d4]
  have x5 : q5E T ((t.size : Int) + 3) = 0 := by unfold q5E; rw [p4, x4, c4]
  have t5 : q5T T ((t.size : Int) + 3) = p := by unfold q5T; rw [p4, x4, b4]
  have g3 : q6E T ((t.size : Int) + 3) = 0 := by unfold q6E; rw [p5, x5, c5]
  have hcut : cut T ((t.size : Int) + 2) (q5A T ((t.size : Int) + 3)) = fBody v k p := by
    have := cut_mid (t := t ++ one 215 ++ one 78) (s := fBody v k p) (r := bText 4 n ++ r)
    rw [← e2, s2, fBody_size] at this
    rw [p5]
    rw [show (t.size : Int) + 4 + (vText p.size).size + p.size = (t.size : Int) + 2 + ((2 + (vText p.size).size + p.size : Nat) : Int) from by omega]
    exact this
  have g4 : q6N T ((t.size : Int) + 3) = qSum T t.size := by
    unfold q6N qSum
    rw [hcut, p5, x5, b5, hn]
  have hE := q_F g0 g1 g2 g3 g4
  refine ⟨hE, ?_, ?_⟩
  · rw [qFr_yes hE, b2, b3, t5]
  · rw [q_at g0 g1 g2]
    unfold q6A
    rw [p5, x5, d5, fEnc_size]
    omega

/-! ### what is read is written -/
theorem cut_split {s : ByteArray} {i j k : Int} (h1 : i ≤ j) (h2 : j ≤ k) : cut s i k = cut s i j ++ cut s j k := by
  unfold cut
  apply ByteArray.ext
  apply Array.toList_inj.1
  rw [ByteArray.data_append, Array.toList_append, ByteArray.data_extract, ByteArray.data_extract, ByteArray.data_extract, Array.toList_extract, Array.toList_extract, Array.toList_extract,
    List.extract_eq_take_drop, List.extract_eq_take_drop, List.extract_eq_take_drop]
  have e1 : k.toNat - i.toNat = (j.toNat - i.toNat) + (k.toNat - j.toNat) := by omega
  have e2 : s.data.toList.drop j.toNat = (s.data.toList.drop i.toNat).drop (j.toNat - i.toNat) := by
    rw [List.drop_drop]
    congr 1
    omega
  rw [e1, e2, List.take_add]
theorem cut_byte {s : ByteArray} {a : Int} (h0 : 0 ≤ a) (h : a < s.size) : cut s a (a + 1) = one (UInt8.ofNat (cByte s a 0).toNat) := by
  obtain ⟨c, h1, h2⟩ := cut_one s a h0 h
  have e : cByte s a 0 = (c.toNat : Int) := by unfold cByte; rw [if_pos ⟨rfl, h⟩, h2]
  rw [h1, e, Int.toNat_natCast]
  simp [one]
theorem cut_num {s : ByteArray} {a : Int} (h0 : 0 ≤ a) (he : tErr s a 0 = 0) : cut s a (tAt s a 0) = vText (tNum s a 0).toNat := by
  have hE : (vRd 10 (vBytes s a)).2.2 = 0 := by unfold tErr at he; rwa [if_pos rfl] at he
  obtain ⟨hb, _⟩ := vRd_back 9 (vBytes s a) (by decide) hE
  have e1 : tAt s a 0 = a + (vRd 10 (vBytes s a)).2.1 := if_pos rfl
  have e2 : tNum s a 0 = (vRd 10 (vBytes s a)).1 := if_pos ⟨rfl, hE⟩
  rw [e1, e2, Int.toNat_natCast]
  unfold cut vText
  apply ByteArray.ext
  apply Array.toList_inj.1
  rw [ByteArray.data_extract, Array.toList_extract, List.extract_eq_take_drop]
  have e3 : (a + ((vRd 10 (vBytes s a)).2.1 : Int)).toNat - a.toNat = (vRd 10 (vBytes s a)).2.1 := by omega
  rw [e3]
  exact hb
theorem bEnc_num : ∀ (k : Nat) (l : List UInt8), l.length = k → bEnc k (bNum l) = l
  | 0, l, h => by
    obtain rfl : l = [] := List.length_eq_zero_iff.1 h
    rfl
  | k + 1, l, h => by
    have hne : l ≠ [] := by intro e; rw [e] at h; simp at h
    obtain ⟨r, c, rfl⟩ : ∃ r c, l = r ++ [c] := ⟨l.dropLast, l.getLast hne, (List.dropLast_concat_getLast hne).symm⟩
    have hr : r.length = k := by simpa using h
    rw [bNum_snoc]
    have hc : c.toNat < 256 := c.toNat_lt
    show bEnc k ((bNum r * 256 + c.toNat) / 256) ++ [UInt8.ofNat ((bNum r * 256 + c.toNat) % 256)] = r ++ [c]
    rw [show (bNum r * 256 + c.toNat) / 256 = bNum r from by omega, show (bNum r * 256 + c.toNat) % 256 = c.toNat from by omega, bEnc_num k r hr]
    simp
theorem cut_fix {s : ByteArray} {a : Int} (h0 : 0 ≤ a) (he : fErr s a 0 4 = 0) : a + 4 ≤ s.size ∧ fAt s a 0 4 = a + 4 ∧ cut s a (a + 4) = bText 4 (fNum s a 0 4) := by
  obtain ⟨h1, h2, h3⟩ := fTake_yes (s := s) (a := a) (x := 0) (k := 4) rfl
  rw [h3] at he
  have hle : (4 : Int) ≤ s.size - a := by
    unfold cErr at he
    rw [if_neg (by decide), if_neg (by decide)] at he
    by_cases hl : (4 : Int) ≤ s.size - a
    · exact hl
    · rw [if_neg hl] at he
      exact absurd he (by decide)
  have hc : (0 : Int) = 0 ∧ (0 : Int) ≤ 4 ∧ (4 : Int) ≤ s.size - a := ⟨rfl, by decide, hle⟩
  have e : cBytes s a 0 4 = cut s a (a + 4) := if_pos hc
  refine ⟨by omega, ?_, ?_⟩
  · rw [h2]; exact if_pos hc
  · rw [h1, e]
    have hl : (cut s a (a + 4)).data.toList.length = 4 := by
      unfold cut
      rw [ByteArray.data_extract, Array.toList_extract, List.extract_eq_take_drop, List.length_take, List.length_drop]
      have : s.data.toList.length = s.size := by simp
      omega
    unfold bText
    rw [bEnc_num 4 _ hl]
theorem blob_zero {s : ByteArray} {a x m : Int} (h : bErr s a x m = 0) : x = 0 ∧ tErr s a 0 = 0 ∧ tNum s a 0 ≤ pMax m ∧ tNum s a 0 ≤ s.size - tAt s a 0 ∧ bTxt s a x m = cut s (tAt s a 0) (tAt s a 0 + tNum s a 0) ∧ bAt s a x m = tAt s a 0 + tNum s a 0 := by
  have ht := tNum_lt s a 0
  by_cases hx : x = 0
  · subst hx
    by_cases he : tErr s a 0 = 0
    · by_cases ho : pMax m < tNum s a 0
      · obtain ⟨q1, q2⟩ := k_over he ho
        have : bErr s a 0 m = 3 := by unfold bErr; rw [q1, q2]; rfl
        rw [this] at h
        exact absurd h (by decide)
      · obtain ⟨q1, q2⟩ := k_ok he ho
        unfold bErr at h
        unfold bTxt bAt
        rw [q1, q2] at h ⊢
        unfold cErr at h
        rw [if_neg (by decide), if_neg (by omega)] at h
        by_cases hl : tNum s a 0 ≤ s.size - tAt s a 0
        · have hc : (0 : Int) = 0 ∧ 0 ≤ tNum s a 0 ∧ tNum s a 0 ≤ s.size - tAt s a 0 := ⟨rfl, ht.1, hl⟩
          exact ⟨rfl, he, by omega, hl, if_pos hc, if_pos hc⟩
        · rw [if_neg hl] at h
          exact absurd h (by decide)
    · obtain ⟨q1, q2⟩ := k_err (m := m) he
      have : bErr s a 0 m = tErr s a 0 := by unfold bErr; rw [q1, q2]; exact if_pos he
      rw [this] at h
      exact absurd h he
  · rw [(b_bad m hx).2.2] at h
    exact absurd h hx
/-- A frame that is read: its parts, and its bytes. -/
theorem frame_read {s : ByteArray} {a x : Int} (h0 : 0 ≤ a) (h : qErr s a x = 0) :
    ∃ (v k : UInt8) (p : ByteArray), x = 0 ∧ qV (v.toNat : Int) = true ∧ p.size ≤ 65536 ∧ qFr s a x = fr (v.toNat : Int) (k.toNat : Int) p ∧ qAt s a x ≤ s.size ∧ qAt s a x = a + (fEnc v k p).size ∧ cut s a (qAt s a x) = fEnc v k p := by
  obtain ⟨g0, g1, g2, g3, g4⟩ := q_zero h
  obtain ⟨rfl, c0, b0, d0⟩ := mE_zero g0
  obtain ⟨_, c1, b1, d1⟩ := mE_zero g1
  obtain ⟨c2, b2, d2⟩ := vE_zero g2
  have l0 := (cErr_byte c0).2.1
  have l1 := (cErr_byte c1).2.1
  have l2 := (cErr_byte c2).2.1
  have x5 : q5E s (a + 3) = 0 := by
    refine Decidable.byContradiction fun e => ?_
    have := (f_bad (s := s) (a := q5A s (a + 3)) e).2.2
    unfold q6E at g3
    rw [this] at g3
    exact e g3
  obtain ⟨x4, t0, tm, tl, tt, ta⟩ := blob_zero (s := s) (a := q4A s (a + 3)) (x := q4E s (a + 3)) (m := 65536) x5
  have c3 : cErr s (a + 3) 0 1 = 0 := x4
  obtain ⟨_, l3, d3⟩ := cErr_byte c3
  have p4 : q4A s (a + 3) = a + 4 := d3.trans (by omega)
  rw [p4] at t0 tm tl tt ta
  have tlt := tNum_lt s (a + 4) 0
  have tle := tAt_le (s := s) (a := a + 4) (x := 0) (by omega) (by omega)
  have tge : a + 4 ≤ tAt s (a + 4) 0 := by
    have : tAt s (a + 4) 0 = a + 4 + (vRd 10 (vBytes s (a + 4))).2.1 := if_pos rfl
    omega
  have p5 : q5A s (a + 3) = tAt s (a + 4) 0 + tNum s (a + 4) 0 := by unfold q5A; rw [p4]; exact ta
  have t5 : q5T s (a + 3) = cut s (tAt s (a + 4) 0) (tAt s (a + 4) 0 + tNum s (a + 4) 0) := by unfold q5T; rw [p4]; exact tt
  have f0 : fErr s (q5A s (a + 3)) 0 4 = 0 := by unfold q6E at g3; rw [x5] at g3; exact g3
  obtain ⟨f1, f2, f3⟩ := cut_fix (by rw [p5]; omega) f0
  have pm : pMax 65536 = 65536 := rfl
  have n6 : fNum s (q5A s (a + 3)) 0 4 = qSum s a := by rw [← g4]; unfold q6N; rw [x5]
  have psz : (q5T s (a + 3)).size = (tNum s (a + 4) 0).toNat := by
    rw [t5]
    unfold cut
    rw [ByteArray.size_extract]
    omega
  have w2 := byteAt_lt s (a + 2).toNat
  have w3 := byteAt_lt s (a + 3).toNat
  have y2 := cByte_bd s (a + 2) 0
  have y3 := cByte_bd s (a + 3) 0
  have v2 : ((UInt8.ofNat (cByte s (a + 2) 0).toNat).toNat : Int) = cByte s (a + 2) 0 := by rw [byte_nat (by omega)]; omega
  have v3 : ((UInt8.ofNat (cByte s (a + 3) 0).toNat).toNat : Int) = cByte s (a + 3) 0 := by rw [byte_nat (by omega)]; omega
  have hA := q_at g0 g1 g2
  have a6 : q6A s (a + 3) = q5A s (a + 3) + 4 := by unfold q6A; rw [x5]; exact f2
  have num : vText (q5T s (a + 3)).size = cut s (a + 4) (tAt s (a + 4) 0) := by rw [psz]; exact (cut_num (by omega) t0).symm
  have body : fBody (UInt8.ofNat (cByte s (a + 2) 0).toNat) (UInt8.ofNat (cByte s (a + 3) 0).toNat) (q5T s (a + 3)) = cut s (a + 2) (q5A s (a + 3)) := by
    have q5 : tAt s (a + 4) 0 ≤ q5A s (a + 3) := by rw [p5]; omega
    have k1 := cut_split (s := s) (i := a + 2) (j := a + 2 + 1) (k := q5A s (a + 3)) (by omega) (by omega)
    have k2 := cut_split (s := s) (i := a + 3) (j := a + 3 + 1) (k := q5A s (a + 3)) (by omega) (by omega)
    have k3 := cut_split (s := s) (i := a + 4) (j := tAt s (a + 4) 0) (k := q5A s (a + 3)) tge q5
    rw [cut_byte (by omega) l2, show a + 2 + 1 = a + 3 from by omega] at k1
    rw [cut_byte (by omega) l3, show a + 3 + 1 = a + 4 from by omega] at k2
    unfold fBody
    rw [k1, k2, k3, num, t5, p5]
  have whole : cut s a (q5A s (a + 3) + 4) = fEnc (UInt8.ofNat (cByte s (a + 2) 0).toNat) (UInt8.ofNat (cByte s (a + 3) 0).toNat) (q5T s (a + 3)) := by
    unfold fEnc
    rw [body]
    have z0 : one 215 = cut s a (a + 1) := by rw [cut_byte h0 l0, b0]; rfl
    have z1 : one 78 = cut s (a + 1) (a + 1 + 1) := by rw [cut_byte (by omega) l1, b1]; rfl
    have z6 : bText 4 (cSum (cut s (a + 2) (q5A s (a + 3))).data.toList) = cut s (q5A s (a + 3)) (q5A s (a + 3) + 4) := by
      rw [f3, n6]; rfl
    have q5 : a + 4 ≤ q5A s (a + 3) := by rw [p5]; omega
    have k0 := cut_split (s := s) (i := a) (j := a + 1) (k := q5A s (a + 3) + 4) (by omega) (by omega)
    have k1 := cut_split (s := s) (i := a + 1) (j := a + 1 + 1) (k := q5A s (a + 3) + 4) (by omega) (by omega)
    have k2 := cut_split (s := s) (i := a + 2) (j := q5A s (a + 3)) (k := q5A s (a + 3) + 4) (by omega) (by omega)
    rw [← z0] at k0
    rw [← z1, show a + 1 + 1 = a + 2 from by omega] at k1
    rw [k0, k1, k2, z6]
  refine ⟨UInt8.ofNat (cByte s (a + 2) 0).toNat, UInt8.ofNat (cByte s (a + 3) 0).toNat, q5T s (a + 3), rfl, by rw [v2]; exact b2, by rw [psz]; omega, by rw [qFr_yes h, v2, v3], by rw [hA, a6]; exact f1, ?_, by rw [hA, a6]; exact whole⟩
  have hs := congrArg ByteArray.size whole
  rw [← hs, hA, a6]
  unfold cut
  rw [ByteArray.size_extract]
  have q5 : a + 4 ≤ q5A s (a + 3) := by rw [p5]; omega
  omega
end Go.Proofs.Ytmgfalkelembkaa
/-
  A region that draws its order, walked move by move, whose held condition is made stronger on the way (what a callee has left).
  Conditions: none.
-/
namespace Go.Proofs.Ytmgfalkelembkaa
open Go.RowKit

/-- What is held may be made stronger. -/
theorem wpAnyH_more {P : Program} {md : Region.Mode} {ops : Array Oper} {Q : Exit → Act → World → Prop} {S S' : World → Prop} (h : ∀ w, S' w → S w) :
    ∀ (fuel : Nat) (listed : Array Bool) (a : Act) (w : World), wpAnyH P md ops Q S' fuel listed a w → wpAnyH P md ops Q S fuel listed a w
  | 0, _, _, _, hh => hh
  | fuel + 1, _, _, _, hh => ⟨hh.1, fun i hi => wpOp_mono (fun a' w' h' => ⟨h _ h'.1, wpAnyH_more h fuel _ a' w' h'.2⟩) (hh.2 i hi)⟩
theorem wpAnyH_strong {P : Program} {md : Region.Mode} {ops : Array Oper} {Q : Exit → Act → World → Prop} {S S' : World → Prop} {fuel : Nat} {listed : Array Bool} {a : Act} {w : World} (h : ∀ w, S' w → S w) (hS : S' w)
    (k : S' w → wpAnyH P md ops Q S' fuel listed a w) : wpAnyH P md ops Q S fuel listed a w := wpAnyH_more h _ _ _ _ (k hS)
end Go.Proofs.Ytmgfalkelembkaa
/-
  Contracts of the document's own frames (the statements' reference of layer 7), each proved over this seat's translation.
  Conditions: a text takes at most the greatest length that a string may have.
-/
namespace Go.Proofs.Ytmgfalkelembkaa
open Go.RowKit

/-- A frame in memory. -/
structure FrAt (w : World) (g : Nat) (v k : Int) (t : ByteArray) : Prop where
  blk : ∃ ty, w.heap[g]? = some (.cells #[.int .u8 v, .int .u8 k, .string t] ty)
theorem FrAt.lt {w : World} {g : Nat} {v k : Int} {t : ByteArray} (h : FrAt w g v k t) : g < w.heap.size := by
  obtain ⟨ty, hk⟩ := h.blk
  exact (Array.getElem?_eq_some_iff.mp hk).1
theorem FrAt.cells {w : World} {g : Nat} {v k : Int} {t : ByteArray} (h : FrAt w g v k t) :
    w.cell? ⟨g, 0, none⟩ = some (.int .u8 v) ∧ w.cell? ⟨g, 1, none⟩ = some (.int .u8 k) ∧ w.cell? ⟨g, 2, none⟩ = some (.string t) ∧ w.frozen? ⟨g, 0, none⟩ = false ∧ w.frozen? ⟨g, 1, none⟩ = false ∧ w.frozen? ⟨g, 2, none⟩ = false := by
  obtain ⟨ty, hk⟩ := h.blk
  simp [World.cell?, World.frozen?, hk]
theorem FrAt.keep {R : Nat → Prop} {w w' : World} {g : Nat} {v k : Int} {t : ByteArray} (h : FrAt w g v k t) (K : Keep R w w') (hn : ¬ R g) : FrAt w' g v k t := by
  obtain ⟨ty, hk⟩ := h.blk
  exact ⟨ty, by rw [K.block g h.lt hn]; exact hk⟩
theorem FrAt.keep0 {w w' : World} {g : Nat} {v k : Int} {t : ByteArray} (h : FrAt w g v k t) (K : Keep0 w w') : FrAt w' g v k t := h.keep K (fun f => f)
theorem FrAt.new (w : World) (v k : Int) (t : ByteArray) (ty : TypeId) : FrAt (w.alloc (.cells #[.int .u8 v, .int .u8 k, .string t] ty)) w.heap.size v k t := ⟨ty, (MapKept.heap_alloc w _).1⟩
theorem FrAt.put {w : World} {g : Nat} {v k : Int} {t : ByteArray} (h : FrAt w g v k t) (v' k' : Int) (t' : ByteArray) :
    FrAt (((w.setCell ⟨g, 0, none⟩ (.int .u8 v')).setCell ⟨g, 1, none⟩ (.int .u8 k')).setCell ⟨g, 2, none⟩ (.string t')) g v' k' t' := by
  obtain ⟨ty, hk⟩ := h.blk
  exact ⟨ty, by rw [heap_setCell_at (heap_setCell_at (heap_setCell_at hk _) _)]; rfl⟩
theorem FrAt.put_keep (w : World) (g : Nat) (v' k' : Int) (t' : ByteArray) : Keep1 g w (((w.setCell ⟨g, 0, none⟩ (.int .u8 v')).setCell ⟨g, 1, none⟩ (.int .u8 k')).setCell ⟨g, 2, none⟩ (.string t')) :=
  (((Keep.refl _ w).set1 _ _).set1 _ _).set1 _ _
/-- A frame that is answered alone. -/
theorem retFr {fn : Func} {p : Tmp} (h : fn.results = #[.cell p 46]) (tmps : Array Value) (w : World) (g : Nat) {v k : Int} {t : ByteArray}
    (hp : tmps.getD p undef = .pointer (some ⟨g, 0, none⟩)) (hg : FrAt w g v k t) : (results fn tmps).run Try.prog w = .ok (fr v k t) w := by
  obtain ⟨ty, hk⟩ := hg.blk
  exact results_cell_row h tmps w g ty _ _ _ hp hk Try.underlying46 rfl (by kernel_rfl)
/-- A frame that is answered with two others. -/
theorem retFr3 {fn : Func} {p u z : Tmp} (h : fn.results = #[.cell p 46, .tmp u, .tmp z]) (tmps : Array Value) (w : World) (g : Nat) {v k : Int} {t : ByteArray}
    (hp : tmps.getD p undef = .pointer (some ⟨g, 0, none⟩)) (hg : FrAt w g v k t) : (results fn tmps).run Try.prog w = .ok (.tuple #[fr v k t, tmps.getD u undef, tmps.getD z undef]) w := by
  obtain ⟨ty, hk⟩ := hg.blk
  have hp' : tmps[p]?.getD undef = .pointer (some ⟨g, 0, none⟩) := by simpa using hp
  have hl := run_loadVar_row w g ty 46 _ _ _ hk Try.underlying46 rfl (by kernel_rfl)
  simp [results, h, hp', asAddr, hl]
  rfl

/-! ### readings with an error -/
theorem cAt_ge (s : ByteArray) (a x n : Int) : a ≤ cAt s a x n := by unfold cAt; split <;> omega
theorem tAt_ge (s : ByteArray) (a x : Int) : a ≤ tAt s a x := by unfold tAt; split <;> omega
theorem q5A_ge (s : ByteArray) (a : Int) : a ≤ q5A s a := by
  have h1 := cAt_ge s a 0 1
  have h2 := tAt_ge s (q4A s a) (q4E s a)
  have h3 := cAt_ge s (tAt s (q4A s a) (q4E s a)) (kErr s (q4A s a) (q4E s a) 65536) (kNum s (q4A s a) (q4E s a) 65536)
  exact Int.le_trans h1 (Int.le_trans h2 h3)
theorem rbyte_bad {w : World} {b : Nat} {s : ByteArray} {a x : Int} (h : Cur w b s a x) (hx : x ≠ 0) : Calls Try.prog 42 #[ptr b] w fun e w' => e = .returned (.int .i64 0) ∧ Cur w' b s a x ∧ Keep1 b w w' := by
  have := rbyte_any h
  rwa [cByte_bad hx, cAt_bad _ hx, cErr_bad _ hx] at this
theorem rblob_bad {w : World} {b : Nat} {s : ByteArray} {a x : Int} (h : Cur w b s a x) (hx : x ≠ 0) : Calls Try.prog 43 #[ptr b, .int .i64 65536] w fun e w' => e = .returned (.string ⟨#[]⟩) ∧ Cur w' b s a x ∧ Keep1 b w w' := by
  have := rblob_any 65536 (by decide) h
  obtain ⟨e1, e2, e3⟩ := b_bad (s := s) (a := a) 65536 hx
  rwa [e1, e2, e3] at this
theorem rtake4_bad {w : World} {b : Nat} {s : ByteArray} {a x : Int} (h : Cur w b s a x) (hx : x ≠ 0) : Calls Try.prog 44 #[ptr b, .int .i64 4] w fun e w' => e = .returned (.int .u64 0) ∧ Cur w' b s a x ∧ Keep1 b w w' := by
  have := rtake4_any 4 h
  obtain ⟨e1, e2, e3⟩ := f_bad (s := s) (a := a) hx
  rwa [e1, e2, e3] at this
set_option maxRecDepth 100000 in
set_option maxHeartbeats 4000000 in
theorem rtake7_A1 {w : World} {b : Nat} {s : ByteArray} {a x : Int} (h : Cur w b s a x) (gb : mE s a x 215 ≠ 0) (gc : cErr s a x 1 ≠ 0) (ge : mE s a x 215 = cErr s a x 1) (gz : cByte s a x = 0) :
    Calls Try.prog 34 #[ptr b] w fun e w' => e = .returned (qFr s a x) ∧ Cur w' b s (qAt s a x) (qErr s a x) ∧ Keep1 b w w' := by
  have hlt := h.lt
  have r0 := FrAt.new w 0 0 ⟨#[]⟩ 46
  have k0 : Keep0 w (w.alloc (.cells #[.int .u8 0, .int .u8 0, .string ⟨#[]⟩] 46)) := (Keep.refl _ w).alloc _
  have h0 := h.keep0 k0
  have K0 : Keep1 b w _ := k0.any
  clear h k0
  obtain ⟨q1, q2⟩ := q_A gb
  rw [qFr_no (by rw [q1]; exact gb), q1, q2, ge]
  clear q1 q2 gb ge
  have y0 := fun W (h : Cur W b s a x) => rbyte_any h
  rw [gz] at y0
  clear gz
  generalize cErr s a x 1 = E at *
  generalize cAt s a x 1 = A at *
  have e1 : (E == 0) = false := by simpa using gc
  have e2 : (E != 0) = true := by simpa using gc
  go_enter Try.func34, Try.ntmps34
  go_wp2_with fail
  generalize hW0 : w.alloc (.cells #[.int .u8 0, .int .u8 0, .string ⟨#[]⟩] 46) = W0 at *
  clear hW0
  refine (y0 _ h0).mono ?_
  rintro e w1 ⟨rfl, h1, k1⟩
  have K1 := K0.trans k1
  have r1 := r0.keep k1 (by omega)
  obtain ⟨c0, c1, c2, c3, c4⟩ := h1.cells
  go_wp2_with fail
  clear c0 c1 c2 c3 c4
  refine (rbyte_bad h1 gc).mono ?_
  rintro e w2 ⟨rfl, h2, k2⟩
  have K2 := K1.trans k2
  have r2 := r1.keep k2 (by omega)
  obtain ⟨c0, c1, c2, c3, c4⟩ := h2.cells
  go_wp2_with fail
  clear c0 c1 c2 c3 c4
  refine (rbyte_bad h2 gc).mono ?_
  rintro e w3 ⟨rfl, h3, k3⟩
  have K3 := K2.trans k3
  have r3 := r2.keep k3 (by omega)
  obtain ⟨c0, c1, c2, c3, c4⟩ := h3.cells
  go_wp2_with fail
  clear c0 c1 c2 c3 c4
  refine (rbyte_bad h3 gc).mono ?_
  rintro e w4 ⟨rfl, h4, k4⟩
  have K4 := K3.trans k4
  have r4 := r3.keep k4 (by omega)
  go_wp2_with fail
  refine (rblob_bad h4 gc).mono ?_
  rintro e w5 ⟨rfl, h5, k5⟩
  have K5 := K4.trans k5
  have r5 := r4.keep k5 (by omega)
  obtain ⟨c0, c1, c2, c3, c4⟩ := h5.cells
  go_wp2_with fail
  clear c0 c1 c2 c3 c4
  refine (rtake4_bad h5 gc).mono ?_
  rintro e w6 ⟨rfl, h6, k6⟩
  have K6 := K5.trans k6
  have r6 := r5.keep k6 (by omega)
  obtain ⟨c0, c1, c2, c3, c4⟩ := h6.cells
  obtain ⟨d0, d1, d2, d3, d4, d5⟩ := r6.cells
  go_wp2
  refine bodyPost_ret (retFr rfl _ _ _ rfl (r6.put 0 0 ⟨#[]⟩)) rfl ?_
  exact ⟨rfl, h6.keep (FrAt.put_keep _ _ 0 0 ⟨#[]⟩) (by omega), K6.step1 (FrAt.put_keep _ _ 0 0 ⟨#[]⟩) (Nat.le_refl _)⟩
set_option maxRecDepth 100000 in
set_option maxHeartbeats 4000000 in
theorem rtake7_A2 {w : World} {b : Nat} {s : ByteArray} {a x : Int} (h : Cur w b s a x) (gb : mE s a x 215 ≠ 0) (gc : cErr s a x 1 = 0) (gn : cByte s a x ≠ 215) (ge : mE s a x 215 = 9) :
    Calls Try.prog 34 #[ptr b] w fun e w' => e = .returned (qFr s a x) ∧ Cur w' b s (qAt s a x) (qErr s a x) ∧ Keep1 b w w' := by
  have hlt := h.lt
  have r0 := FrAt.new w 0 0 ⟨#[]⟩ 46
  have k0 : Keep0 w (w.alloc (.cells #[.int .u8 0, .int .u8 0, .string ⟨#[]⟩] 46)) := (Keep.refl _ w).alloc _
  have h0 := h.keep0 k0
  have K0 : Keep1 b w _ := k0.any
  clear h k0
  obtain ⟨q1, q2⟩ := q_A gb
  rw [qFr_no (by rw [q1]; exact gb), q1, q2, ge]
  clear q1 q2 gb ge
  have y0 := fun W (h : Cur W b s a x) => rbyte_any h
  rw [gc] at y0
  clear gc
  generalize cByte s a x = B at *
  generalize cAt s a x 1 = A at *
  have e1 : (B != 215) = true := by simpa using gn
  clear gn
  go_enter Try.func34, Try.ntmps34
  go_wp2_with fail
  generalize hW0 : w.alloc (.cells #[.int .u8 0, .int .u8 0, .string ⟨#[]⟩] 46) = W0 at *
  clear hW0
  refine (y0 _ h0).mono ?_
  rintro e w1 ⟨rfl, h1, k1⟩
  have K1 := K0.trans k1
  have r1 := r0.keep k1 (by omega)
  obtain ⟨c0, c1, c2, c3, c4⟩ := h1.cells
  go_wp2_with fail
  clear c0 c1 c2 c3 c4
  have h2 := h1.setErr 9
  have K2 := K1.set1 2 (.int .i64 9)
  have r2 := r1.keep ((Keep.refl (fun k => k = b) w1).set1 2 (.int .i64 9)) (by omega)
  generalize w1.setCell ⟨b, 2, none⟩ (.int .i64 9) = w2 at *
  refine (rbyte_bad h2 (by decide)).mono ?_
  rintro e w3 ⟨rfl, h3, k3⟩
  have K3 := K2.trans k3
  have r3 := r2.keep k3 (by omega)
  obtain ⟨c0, c1, c2, c3, c4⟩ := h3.cells
  go_wp2_with fail
  clear c0 c1 c2 c3 c4
  refine (rbyte_bad h3 (by decide)).mono ?_
  rintro e w4 ⟨rfl, h4, k4⟩
  have K4 := K3.trans k4
  have r4 := r3.keep k4 (by omega)
  obtain ⟨c0, c1, c2, c3, c4⟩ := h4.cells
  go_wp2_with fail
  clear c0 c1 c2 c3 c4
  refine (rbyte_bad h4 (by decide)).mono ?_
  rintro e w5 ⟨rfl, h5, k5⟩
  have K5 := K4.trans k5
  have r5 := r4.keep k5 (by omega)
  go_wp2_with fail
  refine (rblob_bad h5 (by decide)).mono ?_
  rintro e w6 ⟨rfl, h6, k6⟩
  have K6 := K5.trans k6
  have r6 := r5.keep k6 (by omega)
  obtain ⟨c0, c1, c2, c3, c4⟩ := h6.cells
  go_wp2_with fail
  clear c0 c1 c2 c3 c4
  refine (rtake4_bad h6 (by decide)).mono ?_
  rintro e w7 ⟨rfl, h7, k7⟩
  have K7 := K6.trans k7
  have r7 := r6.keep k7 (by omega)
  obtain ⟨c0, c1, c2, c3, c4⟩ := h7.cells
  obtain ⟨d0, d1, d2, d3, d4, d5⟩ := r7.cells
  go_wp2
  refine bodyPost_ret (retFr rfl _ _ _ rfl (r7.put 0 0 ⟨#[]⟩)) rfl ?_
  exact ⟨rfl, h7.keep (FrAt.put_keep _ _ 0 0 ⟨#[]⟩) (by omega), K7.step1 (FrAt.put_keep _ _ 0 0 ⟨#[]⟩) (Nat.le_refl _)⟩
set_option maxRecDepth 100000 in
set_option maxHeartbeats 4000000 in
theorem rtake7_B1 {w : World} {b : Nat} {s : ByteArray} {a x : Int} (h : Cur w b s a x) (g0 : mE s a x 215 = 0) (gb : mE s (a + 1) 0 78 ≠ 0) (gc : cErr s (a + 1) 0 1 ≠ 0) (ge : mE s (a + 1) 0 78 = cErr s (a + 1) 0 1) (gz : cByte s (a + 1) 0 = 0) :
    Calls Try.prog 34 #[ptr b] w fun e w' => e = .returned (qFr s a x) ∧ Cur w' b s (qAt s a x) (qErr s a x) ∧ Keep1 b w w' := by
  have hlt := h.lt
  have r0 := FrAt.new w 0 0 ⟨#[]⟩ 46
  have k0 : Keep0 w (w.alloc (.cells #[.int .u8 0, .int .u8 0, .string ⟨#[]⟩] 46)) := (Keep.refl _ w).alloc _
  have h0 := h.keep0 k0
  have K0 : Keep1 b w _ := k0.any
  clear h k0
  obtain ⟨q1, q2⟩ := q_B g0 gb
  rw [qFr_no (by rw [q1]; exact gb), q1, q2, ge]
  clear q1 q2 gb ge
  obtain ⟨rfl, z1, z2, z3⟩ := mE_zero g0
  have y0 := fun W (h : Cur W b s a 0) => rbyte_any h
  rw [z2, z1, z3] at y0
  clear z1 z2 z3
  have y1 := fun W (h : Cur W b s (a + 1) 0) => rbyte_any h
  rw [gz] at y1
  clear gz
  generalize cErr s (a + 1) 0 1 = E at *
  generalize cAt s (a + 1) 0 1 = A at *
  have e1 : (E == 0) = false := by simpa using gc
  have e2 : (E != 0) = true := by simpa using gc
  go_enter Try.func34, Try.ntmps34
  go_wp2_with fail
  generalize hW0 : w.alloc (.cells #[.int .u8 0, .int .u8 0, .string ⟨#[]⟩] 46) = W0 at *
  clear hW0
  refine (y0 _ h0).mono ?_
  rintro e w1 ⟨rfl, h1, k1⟩
  have K1 := K0.trans k1
  have r1 := r0.keep k1 (by omega)
  obtain ⟨c0, c1, c2, c3, c4⟩ := h1.cells
  go_wp2_with fail
  clear c0 c1 c2 c3 c4
  refine (y1 _ h1).mono ?_
  rintro e w2 ⟨rfl, h2, k2⟩
  have K2 := K1.trans k2
  have r2 := r1.keep k2 (by omega)
  obtain ⟨c0, c1, c2, c3, c4⟩ := h2.cells
  go_wp2_with fail
  clear c0 c1 c2 c3 c4
  refine (rbyte_bad h2 gc).mono ?_
  rintro e w3 ⟨rfl, h3, k3⟩
  have K3 := K2.trans k3
  have r3 := r2.keep k3 (by omega)
  obtain ⟨c0, c1, c2, c3, c4⟩ := h3.cells
  go_wp2_with fail
  clear c0 c1 c2 c3 c4
  refine (rbyte_bad h3 gc).mono ?_
  rintro e w4 ⟨rfl, h4, k4⟩
  have K4 := K3.trans k4
  have r4 := r3.keep k4 (by omega)
  go_wp2_with fail
  refine (rblob_bad h4 gc).mono ?_
  rintro e w5 ⟨rfl, h5, k5⟩
  have K5 := K4.trans k5
  have r5 := r4.keep k5 (by omega)
  obtain ⟨c0, c1, c2, c3, c4⟩ := h5.cells
  go_wp2_with fail
  clear c0 c1 c2 c3 c4
  refine (rtake4_bad h5 gc).mono ?_
  rintro e w6 ⟨rfl, h6, k6⟩
  have K6 := K5.trans k6
  have r6 := r5.keep k6 (by omega)
  obtain ⟨c0, c1, c2, c3, c4⟩ := h6.cells
  obtain ⟨d0, d1, d2, d3, d4, d5⟩ := r6.cells
  go_wp2
  refine bodyPost_ret (retFr rfl _ _ _ rfl (r6.put 0 0 ⟨#[]⟩)) rfl ?_
  exact ⟨rfl, h6.keep (FrAt.put_keep _ _ 0 0 ⟨#[]⟩) (by omega), K6.step1 (FrAt.put_keep _ _ 0 0 ⟨#[]⟩) (Nat.le_refl _)⟩
set_option maxRecDepth 100000 in
set_option maxHeartbeats 4000000 in
theorem rtake7_B2 {w : World} {b : Nat} {s : ByteArray} {a x : Int} (h : Cur w b s a x) (g0 : mE s a x 215 = 0) (gb : mE s (a + 1) 0 78 ≠ 0) (gc : cErr s (a + 1) 0 1 = 0) (gn : cByte s (a + 1) 0 ≠ 78) (ge : mE s (a + 1) 0 78 = 9) :
    Calls Try.prog 34 #[ptr b] w fun e w' => e = .returned (qFr s a x) ∧ Cur w' b s (qAt s a x) (qErr s a x) ∧ Keep1 b w w' := by
  have hlt := h.lt
  have r0 := FrAt.new w 0 0 ⟨#[]⟩ 46
  have k0 : Keep0 w (w.alloc (.cells #[.int .u8 0, .int .u8 0, .string ⟨#[]⟩] 46)) := (Keep.refl _ w).alloc _
  have h0 := h.keep0 k0
  have K0 : Keep1 b w _ := k0.any
  clear h k0
  obtain ⟨q1, q2⟩ := q_B g0 gb
  rw [qFr_no (by rw [q1]; exact gb), q1, q2, ge]
  clear q1 q2 gb ge
  obtain ⟨rfl, z1, z2, z3⟩ := mE_zero g0
  have y0 := fun W (h : Cur W b s a 0) => rbyte_any h
  rw [z2, z1, z3] at y0
  clear z1 z2 z3
  have y1 := fun W (h : Cur W b s (a + 1) 0) => rbyte_any h
  rw [gc] at y1
  clear gc
  generalize cByte s (a + 1) 0 = B at *
  generalize cAt s (a + 1) 0 1 = A at *
  have e1 : (B != 78) = true := by simpa using gn
  clear gn
  go_enter Try.func34, Try.ntmps34
  go_wp2_with fail
  generalize hW0 : w.alloc (.cells #[.int .u8 0, .int .u8 0, .string ⟨#[]⟩] 46) = W0 at *
  clear hW0
  refine (y0 _ h0).mono ?_
  rintro e w1 ⟨rfl, h1, k1⟩
  have K1 := K0.trans k1
  have r1 := r0.keep k1 (by omega)
  obtain ⟨c0, c1, c2, c3, c4⟩ := h1.cells
  go_wp2_with fail
  clear c0 c1 c2 c3 c4
  refine (y1 _ h1).mono ?_
  rintro e w2 ⟨rfl, h2, k2⟩
  have K2 := K1.trans k2
  have r2 := r1.keep k2 (by omega)
  obtain ⟨c0, c1, c2, c3, c4⟩ := h2.cells
  go_wp2_with fail
  clear c0 c1 c2 c3 c4
  have h3 := h2.setErr 9
  have K3 := K2.set1 2 (.int .i64 9)
  have r3 := r2.keep ((Keep.refl (fun k => k = b) w2).set1 2 (.int .i64 9)) (by omega)
  generalize w2.setCell ⟨b, 2, none⟩ (.int .i64 9) = w3 at *
  refine (rbyte_bad h3 (by decide)).mono ?_
  rintro e w4 ⟨rfl, h4, k4⟩
  have K4 := K3.trans k4
  have r4 := r3.keep k4 (by omega)
  obtain ⟨c0, c1, c2, c3, c4⟩ := h4.cells
  go_wp2_with fail
  clear c0 c1 c2 c3 c4
  refine (rbyte_bad h4 (by decide)).mono ?_
  rintro e w5 ⟨rfl, h5, k5⟩
  have K5 := K4.trans k5
  have r5 := r4.keep k5 (by omega)
  go_wp2_with fail
  refine (rblob_bad h5 (by decide)).mono ?_
  rintro e w6 ⟨rfl, h6, k6⟩
  have K6 := K5.trans k6
  have r6 := r5.keep k6 (by omega)
  obtain ⟨c0, c1, c2, c3, c4⟩ := h6.cells
  go_wp2_with fail
  clear c0 c1 c2 c3 c4
  refine (rtake4_bad h6 (by decide)).mono ?_
  rintro e w7 ⟨rfl, h7, k7⟩
  have K7 := K6.trans k7
  have r7 := r6.keep k7 (by omega)
  obtain ⟨c0, c1, c2, c3, c4⟩ := h7.cells
  obtain ⟨d0, d1, d2, d3, d4, d5⟩ := r7.cells
  go_wp2
  refine bodyPost_ret (retFr rfl _ _ _ rfl (r7.put 0 0 ⟨#[]⟩)) rfl ?_
  exact ⟨rfl, h7.keep (FrAt.put_keep _ _ 0 0 ⟨#[]⟩) (by omega), K7.step1 (FrAt.put_keep _ _ 0 0 ⟨#[]⟩) (Nat.le_refl _)⟩
set_option maxRecDepth 100000 in
set_option maxHeartbeats 4000000 in
theorem rtake7_C1 {w : World} {b : Nat} {s : ByteArray} {a x : Int} (h : Cur w b s a x) (g0 : mE s a x 215 = 0) (g1 : mE s (a + 1) 0 78 = 0) (gb : vE s (a + 2) ≠ 0) (gc : cErr s (a + 2) 0 1 ≠ 0) (ge : vE s (a + 2) = cErr s (a + 2) 0 1) (gz : cByte s (a + 2) 0 = 0) :
    Calls Try.prog 34 #[ptr b] w fun e w' => e = .returned (qFr s a x) ∧ Cur w' b s (qAt s a x) (qErr s a x) ∧ Keep1 b w w' := by
  have hlt := h.lt
  have r0 := FrAt.new w 0 0 ⟨#[]⟩ 46
  have k0 : Keep0 w (w.alloc (.cells #[.int .u8 0, .int .u8 0, .string ⟨#[]⟩] 46)) := (Keep.refl _ w).alloc _
  have h0 := h.keep0 k0
  have K0 : Keep1 b w _ := k0.any
  clear h k0
  obtain ⟨q1, q2⟩ := q_C g0 g1 gb
  rw [qFr_no (by rw [q1]; exact gb), q1, q2, ge]
  clear q1 q2 gb ge
  obtain ⟨rfl, z1, z2, z3⟩ := mE_zero g0
  have y0 := fun W (h : Cur W b s a 0) => rbyte_any h
  rw [z2, z1, z3] at y0
  clear z1 z2 z3
  obtain ⟨_, z1, z2, z3⟩ := mE_zero g1
  rw [show a + 1 + 1 = a + 2 from by omega] at z3
  have y1 := fun W (h : Cur W b s (a + 1) 0) => rbyte_any h
  rw [z2, z1, z3] at y1
  clear z1 z2 z3
  have y2 := fun W (h : Cur W b s (a + 2) 0) => rbyte_any h
  rw [gz] at y2
  clear gz
  generalize cErr s (a + 2) 0 1 = E at *
  generalize cAt s (a + 2) 0 1 = A at *
  have e1 : (E == 0) = false := by simpa using gc
  have e2 : (E != 0) = true := by simpa using gc
  go_enter Try.func34, Try.ntmps34
  go_wp2_with fail
  generalize hW0 : w.alloc (.cells #[.int .u8 0, .int .u8 0, .string ⟨#[]⟩] 46) = W0 at *
  clear hW0
  refine (y0 _ h0).mono ?_
  rintro e w1 ⟨rfl, h1, k1⟩
  have K1 := K0.trans k1
  have r1 := r0.keep k1 (by omega)
  obtain ⟨c0, c1, c2, c3, c4⟩ := h1.cells
  go_wp2_with fail
  clear c0 c1 c2 c3 c4
  refine (y1 _ h1).mono ?_
  rintro e w2 ⟨rfl, h2, k2⟩
  have K2 := K1.trans k2
  have r2 := r1.keep k2 (by omega)
  obtain ⟨c0, c1, c2, c3, c4⟩ := h2.cells
  go_wp2_with fail
  clear c0 c1 c2 c3 c4
  refine (y2 _ h2).mono ?_
  rintro e w3 ⟨rfl, h3, k3⟩
  have K3 := K2.trans k3
  have r3 := r2.keep k3 (by omega)
  obtain ⟨c0, c1, c2, c3, c4⟩ := h3.cells
  go_wp2_with fail
  clear c0 c1 c2 c3 c4
  refine (rbyte_bad h3 gc).mono ?_
  rintro e w4 ⟨rfl, h4, k4⟩
  have K4 := K3.trans k4
  have r4 := r3.keep k4 (by omega)
  go_wp2_with fail
  refine (rblob_bad h4 gc).mono ?_
  rintro e w5 ⟨rfl, h5, k5⟩
  have K5 := K4.trans k5
  have r5 := r4.keep k5 (by omega)
  obtain ⟨c0, c1, c2, c3, c4⟩ := h5.cells
  go_wp2_with fail
  clear c0 c1 c2 c3 c4
  refine (rtake4_bad h5 gc).mono ?_
  rintro e w6 ⟨rfl, h6, k6⟩
  have K6 := K5.trans k6
  have r6 := r5.keep k6 (by omega)
  obtain ⟨c0, c1, c2, c3, c4⟩ := h6.cells
  obtain ⟨d0, d1, d2, d3, d4, d5⟩ := r6.cells
  go_wp2
  refine bodyPost_ret (retFr rfl _ _ _ rfl (r6.put 0 0 ⟨#[]⟩)) rfl ?_
  exact ⟨rfl, h6.keep (FrAt.put_keep _ _ 0 0 ⟨#[]⟩) (by omega), K6.step1 (FrAt.put_keep _ _ 0 0 ⟨#[]⟩) (Nat.le_refl _)⟩
set_option maxRecDepth 100000 in
set_option maxHeartbeats 4000000 in
theorem rtake7_C2 {w : World} {b : Nat} {s : ByteArray} {a x : Int} (h : Cur w b s a x) (g0 : mE s a x 215 = 0) (g1 : mE s (a + 1) 0 78 = 0) (gb : vE s (a + 2) ≠ 0) (gn : qV (cByte s (a + 2) 0) = false) (gc : cErr s (a + 2) 0 1 = 0) (ge : vE s (a + 2) = 10) :
    Calls Try.prog 34 #[ptr b] w fun e w' => e = .returned (qFr s a x) ∧ Cur w' b s (qAt s a x) (qErr s a x) ∧ Keep1 b w w' := by
  have hlt := h.lt
  have r0 := FrAt.new w 0 0 ⟨#[]⟩ 46
  have k0 : Keep0 w (w.alloc (.cells #[.int .u8 0, .int .u8 0, .string ⟨#[]⟩] 46)) := (Keep.refl _ w).alloc _
  have h0 := h.keep0 k0
  have K0 : Keep1 b w _ := k0.any
  clear h k0
  obtain ⟨q1, q2⟩ := q_C g0 g1 gb
  rw [qFr_no (by rw [q1]; exact gb), q1, q2, ge]
  clear q1 q2 gb ge
  obtain ⟨rfl, z1, z2, z3⟩ := mE_zero g0
  have y0 := fun W (h : Cur W b s a 0) => rbyte_any h
  rw [z2, z1, z3] at y0
  clear z1 z2 z3
  obtain ⟨_, z1, z2, z3⟩ := mE_zero g1
  rw [show a + 1 + 1 = a + 2 from by omega] at z3
  have y1 := fun W (h : Cur W b s (a + 1) 0) => rbyte_any h
  rw [z2, z1, z3] at y1
  clear z1 z2 z3
  have y2 := fun W (h : Cur W b s (a + 2) 0) => rbyte_any h
  rw [gc] at y2
  clear gc
  generalize cByte s (a + 2) 0 = B at *
  generalize cAt s (a + 2) 0 1 = A at *
  have gn := of_decide_eq_false gn
  have e1 : (B != 1) = true := by simp; omega
  have e2 : (B != 2) = true := by simp; omega
  clear gn
  go_enter Try.func34, Try.ntmps34
  go_wp2_with fail
  generalize hW0 : w.alloc (.cells #[.int .u8 0, .int .u8 0, .string ⟨#[]⟩] 46) = W0 at *
  clear hW0
  refine (y0 _ h0).mono ?_
  rintro e w1 ⟨rfl, h1, k1⟩
  have K1 := K0.trans k1
  have r1 := r0.keep k1 (by omega)
  obtain ⟨c0, c1, c2, c3, c4⟩ := h1.cells
  go_wp2_with fail
  clear c0 c1 c2 c3 c4
  refine (y1 _ h1).mono ?_
  rintro e w2 ⟨rfl, h2, k2⟩
  have K2 := K1.trans k2
  have r2 := r1.keep k2 (by omega)
  obtain ⟨c0, c1, c2, c3, c4⟩ := h2.cells
  go_wp2_with fail
  clear c0 c1 c2 c3 c4
  refine (y2 _ h2).mono ?_
  rintro e w3 ⟨rfl, h3, k3⟩
  have K3 := K2.trans k3
  have r3 := r2.keep k3 (by omega)
  obtain ⟨c0, c1, c2, c3, c4⟩ := h3.cells
  go_wp2_with fail
  clear c0 c1 c2 c3 c4
  have h4 := h3.setErr 10
  have K4 := K3.set1 2 (.int .i64 10)
  have r4 := r3.keep ((Keep.refl (fun k => k = b) w3).set1 2 (.int .i64 10)) (by omega)
  generalize w3.setCell ⟨b, 2, none⟩ (.int .i64 10) = w4 at *
  refine (rbyte_bad h4 (by decide)).mono ?_
  rintro e w5 ⟨rfl, h5, k5⟩
  have K5 := K4.trans k5
  have r5 := r4.keep k5 (by omega)
  go_wp2_with fail
  refine (rblob_bad h5 (by decide)).mono ?_
  rintro e w6 ⟨rfl, h6, k6⟩
  have K6 := K5.trans k6
  have r6 := r5.keep k6 (by omega)
  obtain ⟨c0, c1, c2, c3, c4⟩ := h6.cells
  go_wp2_with fail
  clear c0 c1 c2 c3 c4
  refine (rtake4_bad h6 (by decide)).mono ?_
  rintro e w7 ⟨rfl, h7, k7⟩
  have K7 := K6.trans k7
  have r7 := r6.keep k7 (by omega)
  obtain ⟨c0, c1, c2, c3, c4⟩ := h7.cells
  obtain ⟨d0, d1, d2, d3, d4, d5⟩ := r7.cells
  go_wp2
  refine bodyPost_ret (retFr rfl _ _ _ rfl (r7.put 0 0 ⟨#[]⟩)) rfl ?_
  exact ⟨rfl, h7.keep (FrAt.put_keep _ _ 0 0 ⟨#[]⟩) (by omega), K7.step1 (FrAt.put_keep _ _ 0 0 ⟨#[]⟩) (Nat.le_refl _)⟩
set_option maxRecDepth 100000 in
set_option maxHeartbeats 4000000 in
theorem rtake7_D1 {w : World} {b : Nat} {s : ByteArray} {a x : Int} (h : Cur w b s a x) (g0 : mE s a x 215 = 0) (g1 : mE s (a + 1) 0 78 = 0) (g2 : vE s (a + 2) = 0) (hv : cByte s (a + 2) 0 = 1) (g3 : q6E s (a + 3) ≠ 0) :
    Calls Try.prog 34 #[ptr b] w fun e w' => e = .returned (qFr s a x) ∧ Cur w' b s (qAt s a x) (qErr s a x) ∧ Keep1 b w w' := by
  have hlt := h.lt
  have r0 := FrAt.new w 0 0 ⟨#[]⟩ 46
  have k0 : Keep0 w (w.alloc (.cells #[.int .u8 0, .int .u8 0, .string ⟨#[]⟩] 46)) := (Keep.refl _ w).alloc _
  have h0 := h.keep0 k0
  have K0 : Keep1 b w _ := k0.any
  clear h k0
  have q1 := q_D g0 g1 g2 g3
  rw [qFr_no (by rw [q1]; exact g3), q1, q_at g0 g1 g2]
  clear q1
  obtain ⟨rfl, z1, z2, z3⟩ := mE_zero g0
  have y0 := fun W (h : Cur W b s a 0) => rbyte_any h
  rw [z2, z1, z3] at y0
  clear z1 z2 z3
  obtain ⟨_, z1, z2, z3⟩ := mE_zero g1
  rw [show a + 1 + 1 = a + 2 from by omega] at z3
  have y1 := fun W (h : Cur W b s (a + 1) 0) => rbyte_any h
  rw [z2, z1, z3] at y1
  clear z1 z2 z3
  obtain ⟨z1, z2, z3⟩ := vE_zero g2
  rw [show a + 2 + 1 = a + 3 from by omega] at z3
  have y2 := fun W (h : Cur W b s (a + 2) 0) => rbyte_any h
  rw [hv, z1, z3] at y2
  clear z1 z2 z3
  clear hv
  have y3 : ∀ W, Cur W b s (a + 3) 0 → Calls Try.prog 42 #[ptr b] W fun e w' => e = .returned (.int .i64 (cByte s (a + 3) 0)) ∧ Cur w' b s (q4A s (a + 3)) (q4E s (a + 3)) ∧ Keep1 b W w' := fun W h => rbyte_any h
  have y4 : ∀ W, Cur W b s (q4A s (a + 3)) (q4E s (a + 3)) → Calls Try.prog 43 #[ptr b, .int .i64 65536] W fun e w' => e = .returned (.string (q5T s (a + 3))) ∧ Cur w' b s (q5A s (a + 3)) (q5E s (a + 3)) ∧ Keep1 b W w' := fun W h => rblob_any 65536 (by decide) h
  have y5 : ∀ W, Cur W b s (q5A s (a + 3)) (q5E s (a + 3)) → Calls Try.prog 44 #[ptr b, .int .i64 4] W fun e w' => e = .returned (.int .u64 (q6N s (a + 3))) ∧ Cur w' b s (q6A s (a + 3)) (q6E s (a + 3)) ∧ Keep1 b W w' := fun W h => rtake4_any 4 h
  have ge := q5A_ge s (a + 3)
  have bk := cByte_bd s (a + 3) 0
  have lo := h0.lo
  have ssz := h0.sz
  have e1 : (q6E s (a + 3) == 0) = false := by simpa using g3
  have e2 : (q6E s (a + 3) != 0) = true := by simpa using g3
  clear g3
  generalize cByte s (a + 3) 0 = KD at *
  generalize q4A s (a + 3) = A4 at *
  generalize q4E s (a + 3) = E4 at *
  generalize q5T s (a + 3) = T5 at *
  generalize q5A s (a + 3) = A5 at *
  generalize q5E s (a + 3) = E5 at *
  generalize q6N s (a + 3) = N6 at *
  generalize q6A s (a + 3) = A6 at *
  generalize q6E s (a + 3) = E6 at *
  go_enter Try.func34, Try.ntmps34
  go_wp2_with fail
  generalize hW0 : w.alloc (.cells #[.int .u8 0, .int .u8 0, .string ⟨#[]⟩] 46) = W0 at *
  clear hW0
  refine (y0 _ h0).mono ?_
  rintro e w1 ⟨rfl, h1, k1⟩
  have K1 := K0.trans k1
  have r1 := r0.keep k1 (by omega)
  obtain ⟨c0, c1, c2, c3, c4⟩ := h1.cells
  go_wp2_with fail
  clear c0 c1 c2 c3 c4
  refine (y1 _ h1).mono ?_
  rintro e w2 ⟨rfl, h2, k2⟩
  have K2 := K1.trans k2
  have r2 := r1.keep k2 (by omega)
  obtain ⟨c0, c1, c2, c3, c4⟩ := h2.cells
  go_wp2_with fail
  clear c0 c1 c2 c3 c4
  refine (y2 _ h2).mono ?_
  rintro e w3 ⟨rfl, h3, k3⟩
  have K3 := K2.trans k3
  have r3 := r2.keep k3 (by omega)
  obtain ⟨c0, c1, c2, c3, c4⟩ := h3.cells
  go_wp2_with fail
  clear c0 c1 c2 c3 c4
  refine (y3 _ h3).mono ?_
  rintro e w4 ⟨rfl, h4, k4⟩
  have K4 := K3.trans k4
  have r4 := r3.keep k4 (by omega)
  go_wp2_with fail
  refine (y4 _ h4).mono ?_
  rintro e w5 ⟨rfl, h5, k5⟩
  have K5 := K4.trans k5
  have r5 := r4.keep k5 (by omega)
  obtain ⟨c0, c1, c2, c3, c4⟩ := h5.cells
  go_wp2_with fail
  clear c0 c1 c2 c3 c4
  refine (y5 _ h5).mono ?_
  rintro e w6 ⟨rfl, h6, k6⟩
  have K6 := K5.trans k6
  have r6 := r5.keep k6 (by omega)
  obtain ⟨c0, c1, c2, c3, c4⟩ := h6.cells
  obtain ⟨d0, d1, d2, d3, d4, d5⟩ := r6.cells
  go_wp2
  refine bodyPost_ret (retFr rfl _ _ _ rfl (r6.put 0 0 ⟨#[]⟩)) rfl ?_
  exact ⟨rfl, h6.keep (FrAt.put_keep _ _ 0 0 ⟨#[]⟩) (by omega), K6.step1 (FrAt.put_keep _ _ 0 0 ⟨#[]⟩) (Nat.le_refl _)⟩
set_option maxRecDepth 100000 in
set_option maxHeartbeats 4000000 in
theorem rtake7_D2 {w : World} {b : Nat} {s : ByteArray} {a x : Int} (h : Cur w b s a x) (g0 : mE s a x 215 = 0) (g1 : mE s (a + 1) 0 78 = 0) (g2 : vE s (a + 2) = 0) (hv : cByte s (a + 2) 0 = 2) (g3 : q6E s (a + 3) ≠ 0) :
    Calls Try.prog 34 #[ptr b] w fun e w' => e = .returned (qFr s a x) ∧ Cur w' b s (qAt s a x) (qErr s a x) ∧ Keep1 b w w' := by
  have hlt := h.lt
  have r0 := FrAt.new w 0 0 ⟨#[]⟩ 46
  have k0 : Keep0 w (w.alloc (.cells #[.int .u8 0, .int .u8 0, .string ⟨#[]⟩] 46)) := (Keep.refl _ w).alloc _
  have h0 := h.keep0 k0
  have K0 : Keep1 b w _ := k0.any
  clear h k0
  have q1 := q_D g0 g1 g2 g3
  rw [qFr_no (by rw [q1]; exact g3), q1, q_at g0 g1 g2]
  clear q1
  obtain ⟨rfl, z1, z2, z3⟩ := mE_zero g0
  have y0 := fun W (h : Cur W b s a 0) => rbyte_any h
  rw [z2, z1, z3] at y0
  clear z1 z2 z3
  obtain ⟨_, z1, z2, z3⟩ := mE_zero g1
  rw [show a + 1 + 1 = a + 2 from by omega] at z3
  have y1 := fun W (h : Cur W b s (a + 1) 0) => rbyte_any h
  rw [z2, z1, z3] at y1
  clear z1 z2 z3
  obtain ⟨z1, z2, z3⟩ := vE_zero g2
  rw [show a + 2 + 1 = a + 3 from by omega] at z3
  have y2 := fun W (h : Cur W b s (a + 2) 0) => rbyte_any h
  rw [hv, z1, z3] at y2
  clear z1 z2 z3
  clear hv
  have y3 : ∀ W, Cur W b s (a + 3) 0 → Calls Try.prog 42 #[ptr b] W fun e w' => e = .returned (.int .i64 (cByte s (a + 3) 0)) ∧ Cur w' b s (q4A s (a + 3)) (q4E s (a + 3)) ∧ Keep1 b W w' := fun W h => rbyte_any h
  have y4 : ∀ W, Cur W b s (q4A s (a + 3)) (q4E s (a + 3)) → Calls Try.prog 43 #[ptr b, .int .i64 65536] W fun e w' => e = .returned (.string (q5T s (a + 3))) ∧ Cur w' b s (q5A s (a + 3)) (q5E s (a + 3)) ∧ Keep1 b W w' := fun W h => rblob_any 65536 (by decide) h
  have y5 : ∀ W, Cur W b s (q5A s (a + 3)) (q5E s (a + 3)) → Calls Try.prog 44 #[ptr b, .int .i64 4] W fun e w' => e = .returned (.int .u64 (q6N s (a + 3))) ∧ Cur w' b s (q6A s (a + 3)) (q6E s (a + 3)) ∧ Keep1 b W w' := fun W h => rtake4_any 4 h
  have ge := q5A_ge s (a + 3)
  have bk := cByte_bd s (a + 3) 0
  have lo := h0.lo
  have ssz := h0.sz
  have e1 : (q6E s (a + 3) == 0) = false := by simpa using g3
  have e2 : (q6E s (a + 3) != 0) = true := by simpa using g3
  clear g3
  generalize cByte s (a + 3) 0 = KD at *
  generalize q4A s (a + 3) = A4 at *
  generalize q4E s (a + 3) = E4 at *
  generalize q5T s (a + 3) = T5 at *
  generalize q5A s (a + 3) = A5 at *
  generalize q5E s (a + 3) = E5 at *
  generalize q6N s (a + 3) = N6 at *
  generalize q6A s (a + 3) = A6 at *
  generalize q6E s (a + 3) = E6 at *
  go_enter Try.func34, Try.ntmps34
  go_wp2_with fail
  generalize hW0 : w.alloc (.cells #[.int .u8 0, .int .u8 0, .string ⟨#[]⟩] 46) = W0 at *
  clear hW0
  refine (y0 _ h0).mono ?_
  rintro e w1 ⟨rfl, h1, k1⟩
  have K1 := K0.trans k1
  have r1 := r0.keep k1 (by omega)
  obtain ⟨c0, c1, c2, c3, c4⟩ := h1.cells
  go_wp2_with fail
  clear c0 c1 c2 c3 c4
  refine (y1 _ h1).mono ?_
  rintro e w2 ⟨rfl, h2, k2⟩
  have K2 := K1.trans k2
  have r2 := r1.keep k2 (by omega)
  obtain ⟨c0, c1, c2, c3, c4⟩ := h2.cells
  go_wp2_with fail
  clear c0 c1 c2 c3 c4
  refine (y2 _ h2).mono ?_
  rintro e w3 ⟨rfl, h3, k3⟩
  have K3 := K2.trans k3
  have r3 := r2.keep k3 (by omega)
  obtain ⟨c0, c1, c2, c3, c4⟩ := h3.cells
  go_wp2_with fail
  clear c0 c1 c2 c3 c4
  refine (y3 _ h3).mono ?_
  rintro e w4 ⟨rfl, h4, k4⟩
  have K4 := K3.trans k4
  have r4 := r3.keep k4 (by omega)
  go_wp2_with fail
  refine (y4 _ h4).mono ?_
  rintro e w5 ⟨rfl, h5, k5⟩
  have K5 := K4.trans k5
  have r5 := r4.keep k5 (by omega)
  obtain ⟨c0, c1, c2, c3, c4⟩ := h5.cells
  go_wp2_with fail
  clear c0 c1 c2 c3 c4
  refine (y5 _ h5).mono ?_
  rintro e w6 ⟨rfl, h6, k6⟩
  have K6 := K5.trans k6
  have r6 := r5.keep k6 (by omega)
  obtain ⟨c0, c1, c2, c3, c4⟩ := h6.cells
  obtain ⟨d0, d1, d2, d3, d4, d5⟩ := r6.cells
  go_wp2
  refine bodyPost_ret (retFr rfl _ _ _ rfl (r6.put 0 0 ⟨#[]⟩)) rfl ?_
  exact ⟨rfl, h6.keep (FrAt.put_keep _ _ 0 0 ⟨#[]⟩) (by omega), K6.step1 (FrAt.put_keep _ _ 0 0 ⟨#[]⟩) (Nat.le_refl _)⟩
set_option maxRecDepth 100000 in
set_option maxHeartbeats 4000000 in
theorem rtake7_E1 {w : World} {b : Nat} {s : ByteArray} {a x : Int} (h : Cur w b s a x) (g0 : mE s a x 215 = 0) (g1 : mE s (a + 1) 0 78 = 0) (g2 : vE s (a + 2) = 0) (hv : cByte s (a + 2) 0 = 1) (g3 : q6E s (a + 3) = 0) (g4 : q6N s (a + 3) ≠ qSum s a) :
    Calls Try.prog 34 #[ptr b] w fun e w' => e = .returned (qFr s a x) ∧ Cur w' b s (qAt s a x) (qErr s a x) ∧ Keep1 b w w' := by
  have hlt := h.lt
  have r0 := FrAt.new w 0 0 ⟨#[]⟩ 46
  have k0 : Keep0 w (w.alloc (.cells #[.int .u8 0, .int .u8 0, .string ⟨#[]⟩] 46)) := (Keep.refl _ w).alloc _
  have h0 := h.keep0 k0
  have K0 : Keep1 b w _ := k0.any
  clear h k0
  have q1 := q_E g0 g1 g2 g3 g4
  rw [qFr_no (by rw [q1]; decide), q1, q_at g0 g1 g2]
  clear q1
  obtain ⟨rfl, z1, z2, z3⟩ := mE_zero g0
  have y0 := fun W (h : Cur W b s a 0) => rbyte_any h
  rw [z2, z1, z3] at y0
  clear z1 z2 z3
  obtain ⟨_, z1, z2, z3⟩ := mE_zero g1
  rw [show a + 1 + 1 = a + 2 from by omega] at z3
  have y1 := fun W (h : Cur W b s (a + 1) 0) => rbyte_any h
  rw [z2, z1, z3] at y1
  clear z1 z2 z3
  obtain ⟨z1, z2, z3⟩ := vE_zero g2
  rw [show a + 2 + 1 = a + 3 from by omega] at z3
  have y2 := fun W (h : Cur W b s (a + 2) 0) => rbyte_any h
  rw [hv, z1, z3] at y2
  clear z1 z2 z3
  clear hv
  have y3 : ∀ W, Cur W b s (a + 3) 0 → Calls Try.prog 42 #[ptr b] W fun e w' => e = .returned (.int .i64 (cByte s (a + 3) 0)) ∧ Cur w' b s (q4A s (a + 3)) (q4E s (a + 3)) ∧ Keep1 b W w' := fun W h => rbyte_any h
  have y4 : ∀ W, Cur W b s (q4A s (a + 3)) (q4E s (a + 3)) → Calls Try.prog 43 #[ptr b, .int .i64 65536] W fun e w' => e = .returned (.string (q5T s (a + 3))) ∧ Cur w' b s (q5A s (a + 3)) (q5E s (a + 3)) ∧ Keep1 b W w' := fun W h => rblob_any 65536 (by decide) h
  have y5 : ∀ W, Cur W b s (q5A s (a + 3)) (q5E s (a + 3)) → Calls Try.prog 44 #[ptr b, .int .i64 4] W fun e w' => e = .returned (.int .u64 (q6N s (a + 3))) ∧ Cur w' b s (q6A s (a + 3)) (q6E s (a + 3)) ∧ Keep1 b W w' := fun W h => rtake4_any 4 h
  have ge := q5A_ge s (a + 3)
  have bk := cByte_bd s (a + 3) 0
  have lo := h0.lo
  have ssz := h0.sz
  rw [g3] at y5
  clear g3
  have hsum : ∀ W, Calls Try.prog 28 #[.string (cut s (a + 2) (q5A s (a + 3)))] W fun e w' => e = .returned (.int .u32 (qSum s a)) ∧ W = w' := fun W => rsum5_any W _ (by
    unfold cut
    rw [ByteArray.size_extract]
    omega)
  have qlt : qSum s a < 4294967296 := cMore_lt 0 _
  have e1 : ((q6N s (a + 3) : Int) != (qSum s a : Int)) = true := by simp; omega
  clear g4
  generalize cByte s (a + 3) 0 = KD at *
  generalize q4A s (a + 3) = A4 at *
  generalize q4E s (a + 3) = E4 at *
  generalize q5T s (a + 3) = T5 at *
  generalize q5A s (a + 3) = A5 at *
  generalize q5E s (a + 3) = E5 at *
  generalize q6N s (a + 3) = N6 at *
  generalize q6A s (a + 3) = A6 at *
  generalize qSum s a = QS at *
  go_enter Try.func34, Try.ntmps34
  go_wp2_with fail
  generalize hW0 : w.alloc (.cells #[.int .u8 0, .int .u8 0, .string ⟨#[]⟩] 46) = W0 at *
  clear hW0
  refine (y0 _ h0).mono ?_
  rintro e w1 ⟨rfl, h1, k1⟩
  have K1 := K0.trans k1
  have r1 := r0.keep k1 (by omega)
  obtain ⟨c0, c1, c2, c3, c4⟩ := h1.cells
  go_wp2_with fail
  clear c0 c1 c2 c3 c4
  refine (y1 _ h1).mono ?_
  rintro e w2 ⟨rfl, h2, k2⟩
  have K2 := K1.trans k2
  have r2 := r1.keep k2 (by omega)
  obtain ⟨c0, c1, c2, c3, c4⟩ := h2.cells
  go_wp2_with fail
  clear c0 c1 c2 c3 c4
  refine (y2 _ h2).mono ?_
  rintro e w3 ⟨rfl, h3, k3⟩
  have K3 := K2.trans k3
  have r3 := r2.keep k3 (by omega)
  obtain ⟨c0, c1, c2, c3, c4⟩ := h3.cells
  go_wp2_with fail
  clear c0 c1 c2 c3 c4
  refine (y3 _ h3).mono ?_
  rintro e w4 ⟨rfl, h4, k4⟩
  have K4 := K3.trans k4
  have r4 := r3.keep k4 (by omega)
  go_wp2_with fail
  refine (y4 _ h4).mono ?_
  rintro e w5 ⟨rfl, h5, k5⟩
  have K5 := K4.trans k5
  have r5 := r4.keep k5 (by omega)
  obtain ⟨c0, c1, c2, c3, c4⟩ := h5.cells
  go_wp2_with fail
  clear c0 c1 c2 c3 c4
  have hi5 := h5.hi
  refine (y5 _ h5).mono ?_
  rintro e w6 ⟨rfl, h6, k6⟩
  have K6 := K5.trans k6
  have r6 := r5.keep k6 (by omega)
  obtain ⟨c0, c1, c2, c3, c4⟩ := h6.cells
  go_wp2_with fail
  refine (hsum _).mono ?_
  rintro e w7 ⟨rfl, rfl⟩
  obtain ⟨d0, d1, d2, d3, d4, d5⟩ := r6.cells
  go_wp2
  have h7 := h6.setErr 12
  have K7 := K6.set1 2 (.int .i64 12)
  have r7 := r6.keep ((Keep.refl (fun k => k = b) w6).set1 2 (.int .i64 12)) (by omega)
  generalize w6.setCell ⟨b, 2, none⟩ (.int .i64 12) = w7 at *
  refine bodyPost_ret (retFr rfl _ _ _ rfl (r7.put 0 0 ⟨#[]⟩)) rfl ?_
  exact ⟨rfl, h7.keep (FrAt.put_keep _ _ 0 0 ⟨#[]⟩) (by omega), K7.step1 (FrAt.put_keep _ _ 0 0 ⟨#[]⟩) (Nat.le_refl _)⟩
set_option maxRecDepth 100000 in
set_option maxHeartbeats 4000000 in
theorem rtake7_E2 {w : World} {b : Nat} {s : ByteArray} {a x : Int} (h : Cur w b s a x) (g0 : mE s a x 215 = 0) (g1 : mE s (a + 1) 0 78 = 0) (g2 : vE s (a + 2) = 0) (hv : cByte s (a + 2) 0 = 2) (g3 : q6E s (a + 3) = 0) (g4 : q6N s (a + 3) ≠ qSum s a) :
    Calls Try.prog 34 #[ptr b] w fun e w' => e = .returned (qFr s a x) ∧ Cur w' b s (qAt s a x) (qErr s a x) ∧ Keep1 b w w' := by
  have hlt := h.lt
  have r0 := FrAt.new w 0 0 ⟨#[]⟩ 46
  have k0 : Keep0 w (w.alloc (.cells #[.int .u8 0, .int .u8 0, .string ⟨#[]⟩] 46)) := (Keep.refl _ w).alloc _
  have h0 := h.keep0 k0
  have K0 : Keep1 b w _ := k0.any
  clear h k0
  have q1 := q_E g0 g1 g2 g3 g4
  rw [qFr_no (by rw [q1]; decide), q1, q_at g0 g1 g2]
  clear q1
  obtain ⟨rfl, z1, z2, z3⟩ := mE_zero g0
  have y0 := fun W (h : Cur W b s a 0) => rbyte_any h
  rw [z2, z1, z3] at y0
  clear z1 z2 z3
  obtain ⟨_, z1, z2, z3⟩ := mE_zero g1
  rw [show a + 1 + 1 = a + 2 from by omega] at z3
  have y1 := fun W (h : Cur W b s (a + 1) 0) => rbyte_any h
  rw [z2, z1, z3] at y1
  clear z1 z2 z3
  obtain ⟨z1, z2, z3⟩ := vE_zero g2
  rw [show a + 2 + 1 = a + 3 from by omega] at z3
  have y2 := fun W (h : Cur W b s (a + 2) 0) => rbyte_any h
  rw [hv, z1, z3] at y2
  clear z1 z2 z3
  clear hv
  have y3 : ∀ W, Cur W b s (a + 3) 0 → Calls Try.prog 42 #[ptr b] W fun e w' => e = .returned (.int .i64 (cByte s (a + 3) 0)) ∧ Cur w' b s (q4A s (a + 3)) (q4E s (a + 3)) ∧ Keep1 b W w' := fun W h => rbyte_any h
  have y4 : ∀ W, Cur W b s (q4A s (a + 3)) (q4E s (a + 3)) → Calls Try.prog 43 #[ptr b, .int .i64 65536] W fun e w' => e = .returned (.string (q5T s (a + 3))) ∧ Cur w' b s (q5A s (a + 3)) (q5E s (a + 3)) ∧ Keep1 b W w' := fun W h => rblob_any 65536 (by decide) h
  have y5 : ∀ W, Cur W b s (q5A s (a + 3)) (q5E s (a + 3)) → Calls Try.prog 44 #[ptr b, .int .i64 4] W fun e w' => e = .returned (.int .u64 (q6N s (a + 3))) ∧ Cur w' b s (q6A s (a + 3)) (q6E s (a + 3)) ∧ Keep1 b W w' := fun W h => rtake4_any 4 h
  have ge := q5A_ge s (a + 3)
  have bk := cByte_bd s (a + 3) 0
  have lo := h0.lo
  have ssz := h0.sz
  rw [g3] at y5
  clear g3
  have hsum : ∀ W, Calls Try.prog 28 #[.string (cut s (a + 2) (q5A s (a + 3)))] W fun e w' => e = .returned (.int .u32 (qSum s a)) ∧ W = w' := fun W => rsum5_any W _ (by
    unfold cut
    rw [ByteArray.size_extract]
    omega)
  have qlt : qSum s a < 4294967296 := cMore_lt 0 _
  have e1 : ((q6N s (a + 3) : Int) != (qSum s a : Int)) = true := by simp; omega
  clear g4
  generalize cByte s (a + 3) 0 = KD at *
  generalize q4A s (a + 3) = A4 at *
  generalize q4E s (a + 3) = E4 at *
  generalize q5T s (a + 3) = T5 at *
  generalize q5A s (a + 3) = A5 at *
  generalize q5E s (a + 3) = E5 at *
  generalize q6N s (a + 3) = N6 at *
  generalize q6A s (a + 3) = A6 at *
  generalize qSum s a = QS at *
  go_enter Try.func34, Try.ntmps34
  go_wp2_with fail
  generalize hW0 : w.alloc (.cells #[.int .u8 0, .int .u8 0, .string ⟨#[]⟩] 46) = W0 at *
  clear hW0
  refine (y0 _ h0).mono ?_
  rintro e w1 ⟨rfl, h1, k1⟩
  have K1 := K0.trans k1
  have r1 := r0.keep k1 (by omega)
  obtain ⟨c0, c1, c2, c3, c4⟩ := h1.cells
  go_wp2_with fail
  clear c0 c1 c2 c3 c4
  refine (y1 _ h1).mono ?_
  rintro e w2 ⟨rfl, h2, k2⟩
  have K2 := K1.trans k2
  have r2 := r1.keep k2 (by omega)
  obtain ⟨c0, c1, c2, c3, c4⟩ := h2.cells
  go_wp2_with fail
  clear c0 c1 c2 c3 c4
  refine (y2 _ h2).mono ?_
  rintro e w3 ⟨rfl, h3, k3⟩
  have K3 := K2.trans k3
  have r3 := r2.keep k3 (by omega)
  obtain ⟨c0, c1, c2, c3, c4⟩ := h3.cells
  go_wp2_with fail
  clear c0 c1 c2 c3 c4
  refine (y3 _ h3).mono ?_
  rintro e w4 ⟨rfl, h4, k4⟩
  have K4 := K3.trans k4
  have r4 := r3.keep k4 (by omega)
  go_wp2_with fail
  refine (y4 _ h4).mono ?_
  rintro e w5 ⟨rfl, h5, k5⟩
  have K5 := K4.trans k5
  have r5 := r4.keep k5 (by omega)
  obtain ⟨c0, c1, c2, c3, c4⟩ := h5.cells
  go_wp2_with fail
  clear c0 c1 c2 c3 c4
  have hi5 := h5.hi
  refine (y5 _ h5).mono ?_
  rintro e w6 ⟨rfl, h6, k6⟩
  have K6 := K5.trans k6
  have r6 := r5.keep k6 (by omega)
  obtain ⟨c0, c1, c2, c3, c4⟩ := h6.cells
  go_wp2_with fail
  refine (hsum _).mono ?_
  rintro e w7 ⟨rfl, rfl⟩
  obtain ⟨d0, d1, d2, d3, d4, d5⟩ := r6.cells
  go_wp2
  have h7 := h6.setErr 12
  have K7 := K6.set1 2 (.int .i64 12)
  have r7 := r6.keep ((Keep.refl (fun k => k = b) w6).set1 2 (.int .i64 12)) (by omega)
  generalize w6.setCell ⟨b, 2, none⟩ (.int .i64 12) = w7 at *
  refine bodyPost_ret (retFr rfl _ _ _ rfl (r7.put 0 0 ⟨#[]⟩)) rfl ?_
  exact ⟨rfl, h7.keep (FrAt.put_keep _ _ 0 0 ⟨#[]⟩) (by omega), K7.step1 (FrAt.put_keep _ _ 0 0 ⟨#[]⟩) (Nat.le_refl _)⟩
set_option maxRecDepth 100000 in
set_option maxHeartbeats 4000000 in
theorem rtake7_F1 {w : World} {b : Nat} {s : ByteArray} {a x : Int} (h : Cur w b s a x) (g0 : mE s a x 215 = 0) (g1 : mE s (a + 1) 0 78 = 0) (g2 : vE s (a + 2) = 0) (hv : cByte s (a + 2) 0 = 1) (g3 : q6E s (a + 3) = 0) (g4 : q6N s (a + 3) = qSum s a) :
    Calls Try.prog 34 #[ptr b] w fun e w' => e = .returned (qFr s a x) ∧ Cur w' b s (qAt s a x) (qErr s a x) ∧ Keep1 b w w' := by
  have hlt := h.lt
  have r0 := FrAt.new w 0 0 ⟨#[]⟩ 46
  have k0 : Keep0 w (w.alloc (.cells #[.int .u8 0, .int .u8 0, .string ⟨#[]⟩] 46)) := (Keep.refl _ w).alloc _
  have h0 := h.keep0 k0
  have K0 : Keep1 b w _ := k0.any
  clear h k0
  have q1 := q_F g0 g1 g2 g3 g4
  rw [qFr_yes q1, q1, q_at g0 g1 g2, hv]
  clear q1
  obtain ⟨rfl, z1, z2, z3⟩ := mE_zero g0
  have y0 := fun W (h : Cur W b s a 0) => rbyte_any h
  rw [z2, z1, z3] at y0
  clear z1 z2 z3
  obtain ⟨_, z1, z2, z3⟩ := mE_zero g1
  rw [show a + 1 + 1 = a + 2 from by omega] at z3
  have y1 := fun W (h : Cur W b s (a + 1) 0) => rbyte_any h
  rw [z2, z1, z3] at y1
  clear z1 z2 z3
  obtain ⟨z1, z2, z3⟩ := vE_zero g2
  rw [show a + 2 + 1 = a + 3 from by omega] at z3
  have y2 := fun W (h : Cur W b s (a + 2) 0) => rbyte_any h
  rw [hv, z1, z3] at y2
  clear z1 z2 z3
  clear hv
  have y3 : ∀ W, Cur W b s (a + 3) 0 → Calls Try.prog 42 #[ptr b] W fun e w' => e = .returned (.int .i64 (cByte s (a + 3) 0)) ∧ Cur w' b s (q4A s (a + 3)) (q4E s (a + 3)) ∧ Keep1 b W w' := fun W h => rbyte_any h
  have y4 : ∀ W, Cur W b s (q4A s (a + 3)) (q4E s (a + 3)) → Calls Try.prog 43 #[ptr b, .int .i64 65536] W fun e w' => e = .returned (.string (q5T s (a + 3))) ∧ Cur w' b s (q5A s (a + 3)) (q5E s (a + 3)) ∧ Keep1 b W w' := fun W h => rblob_any 65536 (by decide) h
  have y5 : ∀ W, Cur W b s (q5A s (a + 3)) (q5E s (a + 3)) → Calls Try.prog 44 #[ptr b, .int .i64 4] W fun e w' => e = .returned (.int .u64 (q6N s (a + 3))) ∧ Cur w' b s (q6A s (a + 3)) (q6E s (a + 3)) ∧ Keep1 b W w' := fun W h => rtake4_any 4 h
  have ge := q5A_ge s (a + 3)
  have bk := cByte_bd s (a + 3) 0
  have lo := h0.lo
  have ssz := h0.sz
  rw [g3] at y5
  clear g3
  have hsum : ∀ W, Calls Try.prog 28 #[.string (cut s (a + 2) (q5A s (a + 3)))] W fun e w' => e = .returned (.int .u32 (qSum s a)) ∧ W = w' := fun W => rsum5_any W _ (by
    unfold cut
    rw [ByteArray.size_extract]
    omega)
  have qlt : qSum s a < 4294967296 := cMore_lt 0 _
  have e1 : ((q6N s (a + 3) : Int) != (qSum s a : Int)) = false := by simp; omega
  clear g4
  generalize cByte s (a + 3) 0 = KD at *
  generalize q4A s (a + 3) = A4 at *
  generalize q4E s (a + 3) = E4 at *
  generalize q5T s (a + 3) = T5 at *
  generalize q5A s (a + 3) = A5 at *
  generalize q5E s (a + 3) = E5 at *
  generalize q6N s (a + 3) = N6 at *
  generalize q6A s (a + 3) = A6 at *
  generalize qSum s a = QS at *
  go_enter Try.func34, Try.ntmps34
  go_wp2_with fail
  generalize hW0 : w.alloc (.cells #[.int .u8 0, .int .u8 0, .string ⟨#[]⟩] 46) = W0 at *
  clear hW0
  refine (y0 _ h0).mono ?_
  rintro e w1 ⟨rfl, h1, k1⟩
  have K1 := K0.trans k1
  have r1 := r0.keep k1 (by omega)
  obtain ⟨c0, c1, c2, c3, c4⟩ := h1.cells
  go_wp2_with fail
  clear c0 c1 c2 c3 c4
  refine (y1 _ h1).mono ?_
  rintro e w2 ⟨rfl, h2, k2⟩
  have K2 := K1.trans k2
  have r2 := r1.keep k2 (by omega)
  obtain ⟨c0, c1, c2, c3, c4⟩ := h2.cells
  go_wp2_with fail
  clear c0 c1 c2 c3 c4
  refine (y2 _ h2).mono ?_
  rintro e w3 ⟨rfl, h3, k3⟩
  have K3 := K2.trans k3
  have r3 := r2.keep k3 (by omega)
  obtain ⟨c0, c1, c2, c3, c4⟩ := h3.cells
  go_wp2_with fail
  clear c0 c1 c2 c3 c4
  refine (y3 _ h3).mono ?_
  rintro e w4 ⟨rfl, h4, k4⟩
  have K4 := K3.trans k4
  have r4 := r3.keep k4 (by omega)
  go_wp2_with fail
  refine (y4 _ h4).mono ?_
  rintro e w5 ⟨rfl, h5, k5⟩
  have K5 := K4.trans k5
  have r5 := r4.keep k5 (by omega)
  obtain ⟨c0, c1, c2, c3, c4⟩ := h5.cells
  go_wp2_with fail
  clear c0 c1 c2 c3 c4
  have hi5 := h5.hi
  refine (y5 _ h5).mono ?_
  rintro e w6 ⟨rfl, h6, k6⟩
  have K6 := K5.trans k6
  have r6 := r5.keep k6 (by omega)
  obtain ⟨c0, c1, c2, c3, c4⟩ := h6.cells
  go_wp2_with fail
  refine (hsum _).mono ?_
  rintro e w7 ⟨rfl, rfl⟩
  obtain ⟨d0, d1, d2, d3, d4, d5⟩ := r6.cells
  go_wp2
  refine bodyPost_ret (retFr rfl _ _ _ rfl (r6.put 1 KD T5)) rfl ?_
  exact ⟨rfl, h6.keep (FrAt.put_keep _ _ 1 KD T5) (by omega), K6.step1 (FrAt.put_keep _ _ 1 KD T5) (Nat.le_refl _)⟩
set_option maxRecDepth 100000 in
set_option maxHeartbeats 4000000 in
theorem rtake7_F2 {w : World} {b : Nat} {s : ByteArray} {a x : Int} (h : Cur w b s a x) (g0 : mE s a x 215 = 0) (g1 : mE s (a + 1) 0 78 = 0) (g2 : vE s (a + 2) = 0) (hv : cByte s (a + 2) 0 = 2) (g3 : q6E s (a + 3) = 0) (g4 : q6N s (a + 3) = qSum s a) :
    Calls Try.prog 34 #[ptr b] w fun e w' => e = .returned (qFr s a x) ∧ Cur w' b s (qAt s a x) (qErr s a x) ∧ Keep1 b w w' := by
  have hlt := h.lt
  have r0 := FrAt.new w 0 0 ⟨#[]⟩ 46
  have k0 : Keep0 w (w.alloc (.cells #[.int .u8 0, .int .u8 0, .string ⟨#[]⟩] 46)) := (Keep.refl _ w).alloc _
  have h0 := h.keep0 k0
  have K0 : Keep1 b w _ := k0.any
  clear h k0
  have q1 := q_F g0 g1 g2 g3 g4
  rw [qFr_yes q1, q1, q_at g0 g1 g2, hv]
  clear q1
  obtain ⟨rfl, z1, z2, z3⟩ := mE_zero g0
  have y0 := fun W (h : Cur W b s a 0) => rbyte_any h
  rw [z2, z1, z3] at y0
  clear z1 z2 z3
  obtain ⟨_, z1, z2, z3⟩ := mE_zero g1
  rw [show a + 1 + 1 = a + 2 from by omega] at z3
  have y1 := fun W (h : Cur W b s (a + 1) 0) => rbyte_any h
  rw [z2, z1, z3] at y1
  clear z1 z2 z3
  obtain ⟨z1, z2, z3⟩ := vE_zero g2
  rw [show a + 2 + 1 = a + 3 from by omega] at z3
  have y2 := fun W (h : Cur W b s (a + 2) 0) => rbyte_any h
  rw [hv, z1, z3] at y2
  clear z1 z2 z3
  clear hv
  have y3 : ∀ W, Cur W b s (a + 3) 0 → Calls Try.prog 42 #[ptr b] W fun e w' => e = .returned (.int .i64 (cByte s (a + 3) 0)) ∧ Cur w' b s (q4A s (a + 3)) (q4E s (a + 3)) ∧ Keep1 b W w' := fun W h => rbyte_any h
  have y4 : ∀ W, Cur W b s (q4A s (a + 3)) (q4E s (a + 3)) → Calls Try.prog 43 #[ptr b, .int .i64 65536] W fun e w' => e = .returned (.string (q5T s (a + 3))) ∧ Cur w' b s (q5A s (a + 3)) (q5E s (a + 3)) ∧ Keep1 b W w' := fun W h => rblob_any 65536 (by decide) h
  have y5 : ∀ W, Cur W b s (q5A s (a + 3)) (q5E s (a + 3)) → Calls Try.prog 44 #[ptr b, .int .i64 4] W fun e w' => e = .returned (.int .u64 (q6N s (a + 3))) ∧ Cur w' b s (q6A s (a + 3)) (q6E s (a + 3)) ∧ Keep1 b W w' := fun W h => rtake4_any 4 h
  have ge := q5A_ge s (a + 3)
  have bk := cByte_bd s (a + 3) 0
  have lo := h0.lo
  have ssz := h0.sz
  rw [g3] at y5
  clear g3
  have hsum : ∀ W, Calls Try.prog 28 #[.string (cut s (a + 2) (q5A s (a + 3)))] W fun e w' => e = .returned (.int .u32 (qSum s a)) ∧ W = w' := fun W => rsum5_any W _ (by
    unfold cut
    rw [ByteArray.size_extract]
    omega)
  have qlt : qSum s a < 4294967296 := cMore_lt 0 _
  have e1 : ((q6N s (a + 3) : Int) != (qSum s a : Int)) = false := by simp; omega
  clear g4
  generalize cByte s (a + 3) 0 = KD at *
  generalize q4A s (a + 3) = A4 at *
  generalize q4E s (a + 3) = E4 at *
  generalize q5T s (a + 3) = T5 at *
  generalize q5A s (a + 3) = A5 at *
  generalize q5E s (a + 3) = E5 at *
  generalize q6N s (a + 3) = N6 at *
  generalize q6A s (a + 3) = A6 at *
  generalize qSum s a = QS at *
  go_enter Try.func34, Try.ntmps34
  go_wp2_with fail
  generalize hW0 : w.alloc (.cells #[.int .u8 0, .int .u8 0, .string ⟨#[]⟩] 46) = W0 at *
  clear hW0
  refine (y0 _ h0).mono ?_
  rintro e w1 ⟨rfl, h1, k1⟩
  have K1 := K0.trans k1
  have r1 := r0.keep k1 (by omega)
  obtain ⟨c0, c1, c2, c3, c4⟩ := h1.cells
  go_wp2_with fail
  clear c0 c1 c2 c3 c4
  refine (y1 _ h1).mono ?_
  rintro e w2 ⟨rfl, h2, k2⟩
  have K2 := K1.trans k2
  have r2 := r1.keep k2 (by omega)
  obtain ⟨c0, c1, c2, c3, c4⟩ := h2.cells
  go_wp2_with fail
  clear c0 c1 c2 c3 c4
  refine (y2 _ h2).mono ?_
  rintro e w3 ⟨rfl, h3, k3⟩
  have K3 := K2.trans k3
  have r3 := r2.keep k3 (by omega)
  obtain ⟨c0, c1, c2, c3, c4⟩ := h3.cells
  go_wp2_with fail
  clear c0 c1 c2 c3 c4
  refine (y3 _ h3).mono ?_
  rintro e w4 ⟨rfl, h4, k4⟩
  have K4 := K3.trans k4
  have r4 := r3.keep k4 (by omega)
  go_wp2_with fail
  refine (y4 _ h4).mono ?_
  rintro e w5 ⟨rfl, h5, k5⟩
  have K5 := K4.trans k5
  have r5 := r4.keep k5 (by omega)
  obtain ⟨c0, c1, c2, c3, c4⟩ := h5.cells
  go_wp2_with fail
  clear c0 c1 c2 c3 c4
  have hi5 := h5.hi
  refine (y5 _ h5).mono ?_
  rintro e w6 ⟨rfl, h6, k6⟩
  have K6 := K5.trans k6
  have r6 := r5.keep k6 (by omega)
  obtain ⟨c0, c1, c2, c3, c4⟩ := h6.cells
  go_wp2_with fail
  refine (hsum _).mono ?_
  rintro e w7 ⟨rfl, rfl⟩
  obtain ⟨d0, d1, d2, d3, d4, d5⟩ := r6.cells
  go_wp2
  refine bodyPost_ret (retFr rfl _ _ _ rfl (r6.put 2 KD T5)) rfl ?_
  exact ⟨rfl, h6.keep (FrAt.put_keep _ _ 2 KD T5) (by omega), K6.step1 (FrAt.put_keep _ _ 2 KD T5) (Nat.le_refl _)⟩
theorem rtake7_any {w : World} {b : Nat} {s : ByteArray} {a x : Int} (h : Cur w b s a x) :
    Calls Try.prog 34 #[ptr b] w fun e w' => e = .returned (qFr s a x) ∧ Cur w' b s (qAt s a x) (qErr s a x) ∧ Keep1 b w w' := by
  by_cases g0 : mE s a x 215 = 0
  · by_cases g1 : mE s (a + 1) 0 78 = 0
    · by_cases g2 : vE s (a + 2) = 0
      · have hv := of_decide_eq_true (vE_zero g2).2.1
        by_cases g3 : q6E s (a + 3) = 0
        · by_cases g4 : q6N s (a + 3) = qSum s a
          · rcases hv with hv | hv
            · exact rtake7_F1 h g0 g1 g2 hv g3 g4
            · exact rtake7_F2 h g0 g1 g2 hv g3 g4
          · rcases hv with hv | hv
            · exact rtake7_E1 h g0 g1 g2 hv g3 g4
            · exact rtake7_E2 h g0 g1 g2 hv g3 g4
        · rcases hv with hv | hv
          · exact rtake7_D1 h g0 g1 g2 hv g3
          · exact rtake7_D2 h g0 g1 g2 hv g3
      · obtain ⟨gn, ⟨gc, ge, gz⟩ | ⟨gc, ge⟩⟩ := vE_bad g2
        · exact rtake7_C1 h g0 g1 g2 gc ge gz
        · exact rtake7_C2 h g0 g1 g2 gn gc ge
    · obtain ⟨gc, ge, gz⟩ | ⟨gc, gn, ge⟩ := mE_bad g1
      · exact rtake7_B1 h g0 g1 gc ge gz
      · exact rtake7_B2 h g0 g1 gc gn ge
  · obtain ⟨gc, ge, gz⟩ | ⟨gc, gn, ge⟩ := mE_bad g0
    · exact rtake7_A1 h g0 gc ge gz
    · exact rtake7_A2 h g0 gc gn ge

/-- How many bytes Decode tells. -/
def qLen (s : ByteArray) : Int := if qErr s 0 0 = 0 then qAt s 0 0 else 0
end Go.Proofs.Ytmgfalkelembkaa
/-
  Contracts of the document's own Decode and Encode of frames, each proved over this seat's translation.
  Conditions: a text takes at most the greatest length that a string may have.
-/
namespace Go.Proofs.Ytmgfalkelembkaa
open Go.RowKit

set_option maxRecDepth 100000 in
set_option maxHeartbeats 4000000 in
theorem rdecode7_any (w : World) (s : ByteArray) (hs : s.size ≤ maxLen) :
    Calls Try.prog 24 #[.string s] w fun e w' => e = .returned (.tuple #[qFr s 0 0, .int .i64 (qLen s), .int .i64 (qErr s 0 0)]) ∧ Keep0 w w' := by
  have y := fun W b (h : Cur W b s 0 0) => rtake7_any h
  have hF := FrAt.new w 0 0 ⟨#[]⟩ 46
  have kS : Keep0 w (w.alloc (.cells #[.int .u8 0, .int .u8 0, .string ⟨#[]⟩] 46)) := (Keep.refl _ w).alloc _
  have hC := Cur.new (w.alloc (.cells #[.int .u8 0, .int .u8 0, .string ⟨#[]⟩] 46)) s 81 hs
  have kC := (Keep.refl (fun _ => False) (w.alloc (.cells #[.int .u8 0, .int .u8 0, .string ⟨#[]⟩] 46))).alloc (.cells #[.string s, .int .i64 0, .int .i64 0] 81)
  have hF := hF.keep0 kC
  have kS := kS.trans kC
  rw [World.size_alloc] at hC
  clear kC
  unfold qLen
  by_cases hE : qErr s 0 0 = 0
  · rw [if_pos hE, hE]
    rw [hE] at y
    unfold qFr fr at *
    generalize qVer s 0 0 = V at *
    generalize qKind s 0 0 = KD at *
    generalize qTxt s 0 0 = T at *
    generalize qAt s 0 0 = A at *
    clear hE
    go_enter Try.func24, Try.ntmps24
    go_wp2_with fail
    generalize (w.alloc (.cells #[.int .u8 0, .int .u8 0, .string ⟨#[]⟩] 46)).alloc (.cells #[.string s, .int .i64 0, .int .i64 0] 81) = W0 at *
    refine (y _ _ hC).mono ?_
    rintro e w1 ⟨rfl, h1, k1⟩
    have k2 : Keep0 w1 (w1.alloc (.cells #[.int .u8 V, .int .u8 KD, .string T] 46)) := (Keep.refl _ w1).alloc _
    have f2 := FrAt.new w1 V KD T 46
    have h2 := h1.keep0 k2
    have r2 := (hF.keep k1 (by omega)).keep0 k2
    have K2 := (kS.step1 k1 (by omega)).step0 k2
    obtain ⟨c0, c1, c2, c3, c4⟩ := h2.cells
    obtain ⟨d0, d1, d2, d3, d4, d5⟩ := f2.cells
    obtain ⟨i0, i1, i2, i3, i4, i5⟩ := r2.cells
    clear hC hF kS k1 h1 k2 y
    go_wp2_with fail
    generalize w1.alloc (.cells #[.int .u8 V, .int .u8 KD, .string T] 46) = W2 at *
    generalize w1.heap.size = B2 at *
    go_region_with (fail)
    all_goals go_wp2
    all_goals (refine bodyPost_ret (retFr3 rfl _ _ _ rfl ((r2.put V KD T).keep0 (Keep.refl _ _).drew)) rfl ?_)
    all_goals exact ⟨rfl, (K2.step1 (FrAt.put_keep _ _ V KD T) (Nat.le_refl _)).drew⟩
  · rw [if_neg hE]
    unfold qFr fr at *
    generalize qVer s 0 0 = V at *
    generalize qKind s 0 0 = KD at *
    generalize qTxt s 0 0 = T at *
    generalize qAt s 0 0 = A at *
    have e2 : (qErr s 0 0 != 0) = true := by simpa using hE
    generalize qErr s 0 0 = E at *
    clear hE
    go_enter Try.func24, Try.ntmps24
    go_wp2_with fail
    generalize (w.alloc (.cells #[.int .u8 0, .int .u8 0, .string ⟨#[]⟩] 46)).alloc (.cells #[.string s, .int .i64 0, .int .i64 0] 81) = W0 at *
    refine (y _ _ hC).mono ?_
    rintro e w1 ⟨rfl, h1, k1⟩
    have k2 : Keep0 w1 (w1.alloc (.cells #[.int .u8 V, .int .u8 KD, .string T] 46)) := (Keep.refl _ w1).alloc _
    have f2 := FrAt.new w1 V KD T 46
    have h2 := h1.keep0 k2
    have r2 := (hF.keep k1 (by omega)).keep0 k2
    have K2 := (kS.step1 k1 (by omega)).step0 k2
    obtain ⟨c0, c1, c2, c3, c4⟩ := h2.cells
    obtain ⟨d0, d1, d2, d3, d4, d5⟩ := f2.cells
    obtain ⟨i0, i1, i2, i3, i4, i5⟩ := r2.cells
    clear hC hF kS k1 h1 k2 y
    go_wp2_with fail
    generalize w1.alloc (.cells #[.int .u8 V, .int .u8 KD, .string T] 46) = W2 at *
    generalize w1.heap.size = B2 at *
    go_region_with (fail)
    all_goals go_wp2
    all_goals (refine bodyPost_ret (retFr3 rfl _ _ _ rfl ((r2.put V KD T).keep0 (Keep.refl _ _).drew)) rfl ?_)
    all_goals exact ⟨rfl, (K2.step1 (FrAt.put_keep _ _ V KD T) (Nat.le_refl _)).drew⟩

/-! ### Encode -/
/-- Why a frame has no bytes; its bytes. -/
def eErr7 (v : UInt8) (p : ByteArray) : Int := if qV (v.toNat : Int) = false then 10 else if 65536 < p.size then 3 else 0
def eTxt7 (v k : UInt8) (p : ByteArray) : ByteArray := if eErr7 v p = 0 then fEnc v k p else ⟨#[]⟩
theorem e7_ver {v : UInt8} (k : UInt8) (p : ByteArray) (h : qV (v.toNat : Int) = false) : eErr7 v p = 10 ∧ eTxt7 v k p = ⟨#[]⟩ := by
  have e : eErr7 v p = 10 := if_pos h
  exact ⟨e, if_neg (by rw [e]; decide)⟩
theorem e7_long {v : UInt8} (k : UInt8) {p : ByteArray} (h : qV (v.toNat : Int) = true) (h1 : 65536 < p.size) : eErr7 v p = 3 ∧ eTxt7 v k p = ⟨#[]⟩ := by
  have e : eErr7 v p = 3 := by unfold eErr7; rw [h, if_neg (by decide), if_pos h1]
  exact ⟨e, if_neg (by rw [e]; decide)⟩
theorem e7_ok {v : UInt8} (k : UInt8) {p : ByteArray} (h : qV (v.toNat : Int) = true) (h1 : ¬ 65536 < p.size) : eErr7 v p = 0 ∧ eTxt7 v k p = fEnc v k p := by
  have e : eErr7 v p = 0 := by unfold eErr7; rw [h, if_neg (by decide), if_neg h1]
  exact ⟨e, if_pos e⟩
/-- A list of two bytes as a text. -/
theorem run_two {src dst : TypeId} (hs : Try.prog.underlying src = some (.slice 5)) (hd : Try.prog.underlying dst = some .string) (W : World) (g : Nat) (c d : UInt8)
    (hc : W.cell? ⟨g, 0, none⟩ = some (.int .u8 (c.toNat : Int))) (hc1 : W.cell? ⟨g, 1, none⟩ = some (.int .u8 (d.toNat : Int))) :
    (convert src dst (.slice (some ⟨g, 0, none⟩) 2 2)).run Try.prog W = .ok (.string (one c ++ one d)) W := by
  have h := run_convert_bytes_back (P := Try.prog) W src dst 5 ⟨g, 0, none⟩ 2 [c, d] hs Try.underlying5 hd (fun j hj => by
    have hj : j < 2 := by simpa using hj
    match j, hj with
    | 0, _ => exact hc
    | 1, _ => exact hc1)
  exact h
theorem bText4_put {n : Nat} (hn : n < 4294967296) : pPut 4 4 (⟨#[]⟩, 0) n = (bText 4 n, 0) := by
  have e : eErr 4 n = 0 := eErr_ok rfl (by show ¬ (4294967295 : Int) < n; omega)
  rw [pPut_ok e]
  have h4 : ((4 : Int)).toNat = 4 := rfl
  rw [h4, pOne_yes (by rw [bText_size]; decide)]
  congr 1
theorem fEnc_left (v k : UInt8) (p : ByteArray) : (⟨#[215, 78]⟩ : ByteArray) ++ (one v ++ one k ++ vText p.size ++ p) ++ bText 4 (cSum (one v ++ one k ++ vText p.size ++ p).data.toList) = fEnc v k p := by
  have e : (⟨#[215, 78]⟩ : ByteArray) = one 215 ++ one 78 := rfl
  have e1 : one v ++ one k ++ vText p.size ++ p = fBody v k p := by unfold fBody; simp only [ByteArray.append_assoc]
  rw [e, e1]
  unfold fEnc
  simp only [ByteArray.append_assoc]
set_option maxRecDepth 100000 in
theorem rencode7_ver (w : World) (v k : UInt8) (p : ByteArray) (h : qV (v.toNat : Int) = false) :
    Calls Try.prog 19 #[fr (v.toNat : Int) (k.toNat : Int) p] w fun e w' => e = .returned (.tuple #[.string ⟨#[]⟩, .int .i64 10]) ∧ Keep0 w w' := by
  have hn := of_decide_eq_false h
  have e1 : ((v.toNat : Int) != 1) = true := by simp; omega
  have e2 : ((v.toNat : Int) != 2) = true := by simp; omega
  clear hn h
  unfold fr
  go_enter Try.func19, Try.ntmps19
  go_wp2
  go_ret2
  exact ⟨rfl, (Keep.refl _ w).alloc _⟩
set_option maxRecDepth 100000 in
theorem rencode7_long (w : World) (v k : UInt8) (p : ByteArray) (hp : p.size ≤ maxLen) (h : qV (v.toNat : Int) = true) (h1 : 65536 < p.size) :
    Calls Try.prog 19 #[fr (v.toNat : Int) (k.toNat : Int) p] w fun e w' => e = .returned (.tuple #[.string ⟨#[]⟩, .int .i64 3]) ∧ Keep0 w w' := by
  have hn := of_decide_eq_true h
  have h1' : (65536 : Int) < p.size := by omega
  have hp' : (p.size : Int) ≤ 9223372036854775807 := by unfold maxLen at hp; omega
  clear h h1 hp
  unfold fr
  rcases hn with hn | hn
  · have e1 : ((v.toNat : Int) != 1) = false := by rw [hn]; rfl
    clear hn
    go_enter Try.func19, Try.ntmps19
    go_wp2
    go_ret2
    exact ⟨rfl, (Keep.refl _ w).alloc _⟩
  · have e1 : ((v.toNat : Int) != 1) = true := by rw [hn]; rfl
    have e2 : ((v.toNat : Int) != 2) = false := by rw [hn]; rfl
    clear hn
    go_enter Try.func19, Try.ntmps19
    go_wp2
    go_ret2
    exact ⟨rfl, (Keep.refl _ w).alloc _⟩
end Go.Proofs.Ytmgfalkelembkaa
/-
  The contract of the document's own Encode of frames, proved over this seat's translation.
  Conditions: a text takes at most the greatest length that a string may have.
-/
namespace Go.Proofs.Ytmgfalkelembkaa
open Go.RowKit

set_option maxRecDepth 100000 in
set_option maxHeartbeats 4000000 in
theorem rencode7_ok1 (w : World) (v k : UInt8) (p : ByteArray) (hn : (v.toNat : Int) = 1) (h1 : ¬ 65536 < p.size) :
    Calls Try.prog 19 #[fr (v.toNat : Int) (k.toNat : Int) p] w fun e w' => e = .returned (.tuple #[.string (fEnc v k p), .int .i64 0]) ∧ Keep0 w w' := by
  have e1 : ((v.toNat : Int) != 1) = false := by rw [hn]; rfl
  have h1' : ¬ (65536 : Int) < p.size := by omega
  have hsz : (p.size : Int) ≤ 65536 := by omega
  have hwr : IntKind.u64.wrap (p.size : Int) = p.size := by rw [IntKind.wrap_u64]; omega
  have f0 := FrAt.new w (v.toNat : Int) (k.toNat : Int) p 46
  have k0 : Keep0 w (w.alloc (.cells #[.int .u8 (v.toNat : Int), .int .u8 (k.toNat : Int), .string p] 46)) := (Keep.refl _ w).alloc _
  obtain ⟨d0, d1, d2, d3, d4, d5⟩ := f0.cells
  have y := fun W => rencode_any p.size W (by omega)
  have hcv : ∀ (W : World) (g : Nat), W.cell? ⟨g, 0, none⟩ = some (.int .u8 (v.toNat : Int)) → W.cell? ⟨g, 1, none⟩ = some (.int .u8 (k.toNat : Int)) → (convert 44 9 (.slice (some ⟨g, 0, none⟩) 2 2)).run Try.prog W = .ok (.string (one v ++ one k)) W :=
    fun W g hc hc1 => run_two (src := 44) (dst := 9) Try.underlying44 Try.underlying9 W g v k hc hc1
  have hv2 : (one v ++ one k).size = 2 := by rw [ByteArray.size_append, one_size, one_size]
  have hvt := vText_le (n := p.size) (by omega)
  have z1 : (one v ++ one k).size + (vText p.size).size ≤ 4611686018427387904 := by omega
  have z2 : (one v ++ one k ++ vText p.size).size + p.size ≤ 4611686018427387904 := by rw [ByteArray.size_append]; omega
  have z3 : (one v ++ one k).size + (vText p.size).size + p.size ≤ 4611686018427387904 := by omega
  have hB : (one v ++ one k ++ vText p.size ++ p).size = (one v ++ one k).size + (vText p.size).size + p.size := by rw [ByteArray.size_append, ByteArray.size_append]
  have x1 : ¬ 9223372036854775807 < 2 + (vText p.size).size := by omega
  have x2 : ¬ 9223372036854775807 < 2 + (vText p.size).size + p.size := by omega
  have hfin := fEnc_left v k p
  have hlt : cSum (one v ++ one k ++ vText p.size ++ p).data.toList < 4294967296 := cMore_lt 0 _
  have hbt : (bText 4 (cSum (one v ++ one k ++ vText p.size ++ p).data.toList)).size = 4 := bText_size _ _
  have hsum := fun W => rsum5_any W (one v ++ one k ++ vText p.size ++ p) (by unfold maxLen; omega)
  have hput := fun W b (h : RPen W b ⟨#[]⟩ 4 0) => rput4_any 4 (cSum (one v ++ one k ++ vText p.size ++ p).data.toList) (by omega) h (by decide)
  rw [bText4_put hlt] at hput
  have hnew := fun W => rpnew_any W 4
  have h4 : pMax 4 = 4 := rfl
  rw [h4] at hnew
  clear h4
  have e215 : (⟨#[215, 78]⟩ : ByteArray).size = 2 := rfl
  have HF : Hid ((⟨#[215, 78]⟩ : ByteArray) ++ (one v ++ one k ++ vText p.size ++ p) ++ bText 4 (cSum (one v ++ one k ++ vText p.size ++ p).data.toList) = fEnc v k p) := hfin
  clear hfin
  generalize cSum (one v ++ one k ++ vText p.size ++ p).data.toList = N at *
  generalize bText 4 N = BT at *
  generalize fEnc v k p = F at *
  generalize one v ++ one k = D at *
  unfold fr
  clear hn h1
  go_enter Try.func19, Try.ntmps19
  go_wp2_with fail
  generalize w.alloc (.cells #[.int .u8 (v.toNat : Int), .int .u8 (k.toNat : Int), .string p] 46) = W0 at *
  generalize w.heap.size = g at *
  clear d3 d4 d5 f0
  have kD : Keep0 w W0.drew := k0.drew
  have d0 : W0.drew.cell? ⟨g, 0, none⟩ = some (.int .u8 (v.toNat : Int)) := d0
  have d1 : W0.drew.cell? ⟨g, 1, none⟩ = some (.int .u8 (k.toNat : Int)) := d1
  have d2 : W0.drew.cell? ⟨g, 2, none⟩ = some (.string p) := d2
  refine wp_region_held_drew (S := fun w' => w'.cell? ⟨g, 0, none⟩ = some (.int .u8 (v.toNat : Int)) ∧ w'.cell? ⟨g, 1, none⟩ = some (.int .u8 (k.toNat : Int)) ∧ w'.cell? ⟨g, 2, none⟩ = some (.string p)) (by kernel_rfl) ⟨d0, d1, d2⟩ (fun hHeld => ?_)
  generalize W0.drew = WD at *
  clear k0
  refine wpAnyH_take (i := 0) (v := ?t0v) (by simp only [List.getElem?_toArray, List.getElem?_cons_zero] <;> rfl) (by kernel_rfl) (by kernel_rfl) (by kernel_rfl) (by exact fun _ _ _ h => h) (Or.inl ⟨by rfl, ?t0y⟩) hHeld ?t0r
  case t0y => intro w hSw; (try dsimp only at hSw); go_simp <;> rfl
  simp only [Act.put, List.setIfInBounds_toArray, List.set_cons_zero, List.set_cons_succ]
  refine wpAnyH_take (i := 1) (v := ?t1v) (by simp only [List.getElem?_toArray, List.getElem?_cons_succ, List.getElem?_cons_zero] <;> rfl) (by kernel_rfl) (by kernel_rfl) (by kernel_rfl) (by exact fun _ _ _ h => h) (Or.inl ⟨by rfl, ?t1y⟩) hHeld ?t1r
  case t1y => intro w hSw; (try dsimp only at hSw); go_simp <;> rfl
  simp only [Act.put, List.setIfInBounds_toArray, List.set_cons_zero, List.set_cons_succ]
  refine wpAnyH_take (i := 2) (v := ?t2v) (by simp only [List.getElem?_toArray, List.getElem?_cons_succ, List.getElem?_cons_zero] <;> rfl) (by kernel_rfl) (by kernel_rfl) (by kernel_rfl) (by exact fun _ _ _ h => h) (Or.inl ⟨by rfl, ?t2y⟩) hHeld ?t2r
  case t2y => intro w hSw; (try dsimp only at hSw); go_simp <;> rfl
  simp only [Act.put, List.setIfInBounds_toArray, List.set_cons_zero, List.set_cons_succ]
  refine wpAnyH_take (i := 3) (v := ?t3v) (by simp only [List.getElem?_toArray, List.getElem?_cons_succ, List.getElem?_cons_zero] <;> rfl) (by kernel_rfl) (by kernel_rfl) (by kernel_rfl) (by exact fun _ _ _ h => h) (Or.inl ⟨by rfl, ?t3y⟩) hHeld ?t3r
  case t3y => intro w hSw; (try dsimp only at hSw); go_simp <;> rfl
  simp only [Act.put, List.setIfInBounds_toArray, List.set_cons_zero, List.set_cons_succ]
  refine wpAnyH_take (i := 6) (v := ?t4v) (by simp only [List.getElem?_toArray, List.getElem?_cons_succ, List.getElem?_cons_zero] <;> rfl) (by kernel_rfl) (by kernel_rfl) (by kernel_rfl) (by exact fun _ _ _ h => h) (Or.inl ⟨by rfl, ?t4y⟩) hHeld ?t4r
  case t4y => intro w hSw; (try dsimp only at hSw); go_simp <;> rfl
  simp only [Act.put, List.setIfInBounds_toArray, List.set_cons_zero, List.set_cons_succ]
  refine wpAnyH_take (i := 7) (v := ?t5v) (by simp only [List.getElem?_toArray, List.getElem?_cons_succ, List.getElem?_cons_zero] <;> rfl) (by kernel_rfl) (by kernel_rfl) (by kernel_rfl) (by exact fun _ _ _ h => h) (Or.inl ⟨by rfl, ?t5y⟩) hHeld ?t5r
  case t5y => intro w hSw; (try dsimp only at hSw); go_simp <;> rfl
  simp only [Act.put, List.setIfInBounds_toArray, List.set_cons_zero, List.set_cons_succ]
  refine wpAnyH_take (i := 8) (v := ?t6v) (by simp only [List.getElem?_toArray, List.getElem?_cons_succ, List.getElem?_cons_zero] <;> rfl) (by kernel_rfl) (by kernel_rfl) (by kernel_rfl) (by exact fun _ _ _ h => h) (Or.inl ⟨by rfl, ?t6y⟩) hHeld ?t6r
  case t6y => intro w hSw; (try dsimp only at hSw); go_simp <;> rfl
  simp only [Act.put, List.setIfInBounds_toArray, List.set_cons_zero, List.set_cons_succ]
  refine wpAnyH_take (i := 9) (v := ?t7v) (by simp only [List.getElem?_toArray, List.getElem?_cons_succ, List.getElem?_cons_zero] <;> rfl) (by kernel_rfl) (by kernel_rfl) (by kernel_rfl) (by exact fun _ _ _ h => h) (Or.inl ⟨by rfl, ?t7y⟩) hHeld ?t7r
  case t7y => intro w hSw; (try dsimp only at hSw); go_simp <;> rfl
  simp only [Act.put, List.setIfInBounds_toArray, List.set_cons_zero, List.set_cons_succ]
  refine wpAnyH_take (i := 12) (v := ?t8v) (by simp only [List.getElem?_toArray, List.getElem?_cons_succ, List.getElem?_cons_zero] <;> rfl) (by kernel_rfl) (by kernel_rfl) (by kernel_rfl) (by exact fun _ _ _ h => h) (Or.inl ⟨by rfl, ?t8y⟩) hHeld ?t8r
  case t8y => intro w hSw; (try dsimp only at hSw); go_simp <;> rfl
  simp only [Act.put, List.setIfInBounds_toArray, List.set_cons_zero, List.set_cons_succ]
  refine wpAnyH_take (i := 13) (v := ?t9v) (by simp only [List.getElem?_toArray, List.getElem?_cons_succ, List.getElem?_cons_zero] <;> rfl) (by kernel_rfl) (by kernel_rfl) (by kernel_rfl) (by exact fun _ _ _ h => h) (Or.inl ⟨by rfl, ?t9y⟩) hHeld ?t9r
  case t9y => intro w hSw; (try dsimp only at hSw); go_simp <;> rfl
  simp only [Act.put, List.setIfInBounds_toArray, List.set_cons_zero, List.set_cons_succ]
  refine wpAnyH_ready (rs := [4, 10]) (by kernel_rfl) (by simp) ?_
  refine AllReadyH.cons (by simp only [List.getElem?_toArray, List.getElem?_cons_succ, List.getElem?_cons_zero] <;> rfl) (fun K hK => ?_) (AllReadyH.cons (by simp only [List.getElem?_toArray, List.getElem?_cons_succ, List.getElem?_cons_zero] <;> rfl) (fun K hK => ?_) AllReadyH.nil)
  · go_simp
    have k4 : Keep0 WD (WD.alloc (.cells #[.int .u8 (v.toNat : Int), .int .u8 (k.toNat : Int)] 5)) := (Keep.refl _ _).alloc _
    have n4 := cell_alloc WD (c := #[.int .u8 (v.toNat : Int), .int .u8 (k.toNat : Int)]) 5 (i := 0) rfl
    have m4 := cell_alloc WD (c := #[.int .u8 (v.toNat : Int), .int .u8 (k.toNat : Int)]) 5 (i := 1) rfl
    refine hK.out _ _ ⟨k4.cell d0 (fun f => f), k4.cell d1 (fun f => f), k4.cell d2 (fun f => f)⟩ (fun hHeld => ?_)
    clear hK K
    have K4 := kD.step0 k4
    have hs4 := hHeld
    clear hHeld
    refine wpAnyH_strong (S' := fun w' => (w'.cell? ⟨g, 0, none⟩ = some (.int .u8 (v.toNat : Int)) ∧ w'.cell? ⟨g, 1, none⟩ = some (.int .u8 (k.toNat : Int)) ∧ w'.cell? ⟨g, 2, none⟩ = some (.string p)) ∧ w'.cell? ⟨WD.heap.size, 0, none⟩ = some (.int .u8 (v.toNat : Int)) ∧ w'.cell? ⟨WD.heap.size, 1, none⟩ = some (.int .u8 (k.toNat : Int))) (fun _ h => h.1) ⟨hs4, n4, m4⟩ (fun hHeld => ?_)
    generalize WD.alloc (.cells #[.int .u8 (v.toNat : Int), .int .u8 (k.toNat : Int)] 5) = W4 at *
    refine wpAnyH_take (i := 5) (v := ?x0v) (by simp only [List.getElem?_toArray, List.getElem?_cons_succ, List.getElem?_cons_zero] <;> rfl) (by kernel_rfl) (by kernel_rfl) (by kernel_rfl) (by exact fun _ _ _ h => h) (Or.inl ⟨by rfl, ?x0y⟩) hHeld ?x0r
    case x0y => intro w hSw; (try dsimp only at hSw); go_simp <;> rfl
    simp only [Act.put, List.setIfInBounds_toArray, List.set_cons_zero, List.set_cons_succ]
    refine wpAnyH_ready (rs := [10]) (by kernel_rfl) (by simp) ?_
    refine AllReadyH.cons (by simp only [List.getElem?_toArray, List.getElem?_cons_succ, List.getElem?_cons_zero] <;> rfl) (fun K hK => ?_) AllReadyH.nil
    go_simp
    refine (y _).mono ?_
    rintro e w1 ⟨rfl, k1⟩
    have K1 := K4.step0 k1
    go_wp2_with fail
    refine hK.out _ _ ⟨⟨k1.cell hs4.1 (fun f => f), k1.cell hs4.2.1 (fun f => f), k1.cell hs4.2.2 (fun f => f)⟩, k1.cell n4 (fun f => f), k1.cell m4 (fun f => f)⟩ (fun hHeld => ?_)
    clear hK K
    refine wpAnyH_take (i := 11) (v := ?x1v) (by simp only [List.getElem?_toArray, List.getElem?_cons_succ, List.getElem?_cons_zero] <;> rfl) (by kernel_rfl) (by kernel_rfl) (by kernel_rfl) (by exact fun _ _ _ h => h) (Or.inl ⟨by rfl, ?x1y⟩) hHeld ?x1r
    case x1y => intro w hSw; (try dsimp only at hSw); go_simp <;> rfl
    simp only [Act.put, List.setIfInBounds_toArray, List.set_cons_zero, List.set_cons_succ]
    refine wpAnyH_take (i := 14) (v := ?x2v) (by simp only [List.getElem?_toArray, List.getElem?_cons_succ, List.getElem?_cons_zero] <;> rfl) (by kernel_rfl) (by kernel_rfl) (by kernel_rfl) (by exact fun _ _ _ h => h) (Or.inl ⟨by rfl, ?x2y⟩) hHeld ?x2r
    case x2y => intro w hSw; (try dsimp only at hSw); go_simp <;> rfl
    simp only [Act.put, List.setIfInBounds_toArray, List.set_cons_zero, List.set_cons_succ]
    refine wpAnyH_take (i := 15) (v := ?x3v) (by simp only [List.getElem?_toArray, List.getElem?_cons_succ, List.getElem?_cons_zero] <;> rfl) (by kernel_rfl) (by kernel_rfl) (by kernel_rfl) (by exact fun _ _ _ h => h) (Or.inl ⟨by rfl, ?x3y⟩) hHeld ?x3r
    case x3y => intro w hSw; (try dsimp only at hSw); go_simp <;> rfl
    simp only [Act.put, List.setIfInBounds_toArray, List.set_cons_zero, List.set_cons_succ]
    refine wpAnyH_done (by kernel_rfl) ?_ _
    clear hHeld
    have s1 := K1.size
    generalize D ++ vText p.size ++ p = B at *
    have y1 : (⟨#[215, 78]⟩ : ByteArray).size + B.size ≤ 4611686018427387904 := by rw [e215]; omega
    have y2 : ((⟨#[215, 78]⟩ : ByteArray) ++ B).size + BT.size ≤ 4611686018427387904 := by rw [ByteArray.size_append, e215]; omega
    have y3 : (⟨#[215, 78]⟩ : ByteArray).size + B.size + BT.size ≤ 4611686018427387904 := by rw [e215]; omega
    have y4 : ¬ 9223372036854775807 < 2 + B.size := by omega
    have y5 : ¬ 9223372036854775807 < 2 + B.size + BT.size := by omega
    clear hB hbt hwr z1 z2 z3 hvt y e215
    go_wp2_with fail
    refine (hnew _).mono ?_
    rintro e w5 ⟨rfl, h5, k5⟩
    have K5 := K1.step0 k5
    clear hnew
    go_wp2_with fail
    refine (hsum _).mono ?_
    rintro e w' ⟨rfl, rfl⟩
    clear hsum
    go_wp2_with fail
    refine (hput _ _ h5).mono ?_
    rintro e w6 ⟨rfl, h6, k6⟩
    have K6 := K5.step1 k6 s1
    obtain ⟨j0, j1, j2, j3, j4⟩ := h6.cells
    clear hput h5 k5 k6 K5
    go_wp2
    go_ret2
    refine ⟨?_, K6⟩
    rw [← HF.out]
    rfl
  · go_simp
    refine (y _).mono ?_
    rintro e w1 ⟨rfl, k1⟩
    have K1 := kD.step0 k1
    go_wp2_with fail
    refine hK.out _ _ ⟨k1.cell d0 (fun f => f), k1.cell d1 (fun f => f), k1.cell d2 (fun f => f)⟩ (fun hHeld => ?_)
    clear hK K
    have hs1 := hHeld
    refine wpAnyH_ready (rs := [4]) (by kernel_rfl) (by simp) ?_
    refine AllReadyH.cons (by simp only [List.getElem?_toArray, List.getElem?_cons_succ, List.getElem?_cons_zero] <;> rfl) (fun K hK => ?_) AllReadyH.nil
    go_simp
    have k4 : Keep0 w1 (w1.alloc (.cells #[.int .u8 (v.toNat : Int), .int .u8 (k.toNat : Int)] 5)) := (Keep.refl _ _).alloc _
    have n4 := cell_alloc w1 (c := #[.int .u8 (v.toNat : Int), .int .u8 (k.toNat : Int)]) 5 (i := 0) rfl
    have m4 := cell_alloc w1 (c := #[.int .u8 (v.toNat : Int), .int .u8 (k.toNat : Int)]) 5 (i := 1) rfl
    refine hK.out _ _ ⟨k4.cell hs1.1 (fun f => f), k4.cell hs1.2.1 (fun f => f), k4.cell hs1.2.2 (fun f => f)⟩ (fun hHeld => ?_)
    clear hK K
    have K4 := K1.step0 k4
    have hs4 := hHeld
    clear hHeld
    refine wpAnyH_strong (S' := fun w' => (w'.cell? ⟨g, 0, none⟩ = some (.int .u8 (v.toNat : Int)) ∧ w'.cell? ⟨g, 1, none⟩ = some (.int .u8 (k.toNat : Int)) ∧ w'.cell? ⟨g, 2, none⟩ = some (.string p)) ∧ w'.cell? ⟨w1.heap.size, 0, none⟩ = some (.int .u8 (v.toNat : Int)) ∧ w'.cell? ⟨w1.heap.size, 1, none⟩ = some (.int .u8 (k.toNat : Int))) (fun _ h => h.1) ⟨hs4, n4, m4⟩ (fun hHeld => ?_)
    clear K1
    have K1 := K4
    generalize w1.alloc (.cells #[.int .u8 (v.toNat : Int), .int .u8 (k.toNat : Int)] 5) = W4 at *
    refine wpAnyH_take (i := 5) (v := ?z0v) (by simp only [List.getElem?_toArray, List.getElem?_cons_succ, List.getElem?_cons_zero] <;> rfl) (by kernel_rfl) (by kernel_rfl) (by kernel_rfl) (by exact fun _ _ _ h => h) (Or.inl ⟨by rfl, ?z0y⟩) hHeld ?z0r
    case z0y => intro w hSw; (try dsimp only at hSw); go_simp <;> rfl
    simp only [Act.put, List.setIfInBounds_toArray, List.set_cons_zero, List.set_cons_succ]
    refine wpAnyH_take (i := 11) (v := ?z1v) (by simp only [List.getElem?_toArray, List.getElem?_cons_succ, List.getElem?_cons_zero] <;> rfl) (by kernel_rfl) (by kernel_rfl) (by kernel_rfl) (by exact fun _ _ _ h => h) (Or.inl ⟨by rfl, ?z1y⟩) hHeld ?z1r
    case z1y => intro w hSw; (try dsimp only at hSw); go_simp <;> rfl
    simp only [Act.put, List.setIfInBounds_toArray, List.set_cons_zero, List.set_cons_succ]
    refine wpAnyH_take (i := 14) (v := ?z2v) (by simp only [List.getElem?_toArray, List.getElem?_cons_succ, List.getElem?_cons_zero] <;> rfl) (by kernel_rfl) (by kernel_rfl) (by kernel_rfl) (by exact fun _ _ _ h => h) (Or.inl ⟨by rfl, ?z2y⟩) hHeld ?z2r
    case z2y => intro w hSw; (try dsimp only at hSw); go_simp <;> rfl
    simp only [Act.put, List.setIfInBounds_toArray, List.set_cons_zero, List.set_cons_succ]
    refine wpAnyH_take (i := 15) (v := ?z3v) (by simp only [List.getElem?_toArray, List.getElem?_cons_succ, List.getElem?_cons_zero] <;> rfl) (by kernel_rfl) (by kernel_rfl) (by kernel_rfl) (by exact fun _ _ _ h => h) (Or.inl ⟨by rfl, ?z3y⟩) hHeld ?z3r
    case z3y => intro w hSw; (try dsimp only at hSw); go_simp <;> rfl
    simp only [Act.put, List.setIfInBounds_toArray, List.set_cons_zero, List.set_cons_succ]
    refine wpAnyH_done (by kernel_rfl) ?_ _
    clear hHeld
    have s1 := K1.size
    generalize D ++ vText p.size ++ p = B at *
    have y1 : (⟨#[215, 78]⟩ : ByteArray).size + B.size ≤ 4611686018427387904 := by rw [e215]; omega
    have y2 : ((⟨#[215, 78]⟩ : ByteArray) ++ B).size + BT.size ≤ 4611686018427387904 := by rw [ByteArray.size_append, e215]; omega
    have y3 : (⟨#[215, 78]⟩ : ByteArray).size + B.size + BT.size ≤ 4611686018427387904 := by rw [e215]; omega
    have y4 : ¬ 9223372036854775807 < 2 + B.size := by omega
    have y5 : ¬ 9223372036854775807 < 2 + B.size + BT.size := by omega
    clear hB hbt hwr z1 z2 z3 hvt y e215
    go_wp2_with fail
    refine (hnew _).mono ?_
    rintro e w5 ⟨rfl, h5, k5⟩
    have K5 := K1.step0 k5
    clear hnew
    go_wp2_with fail
    refine (hsum _).mono ?_
    rintro e w' ⟨rfl, rfl⟩
    clear hsum
    go_wp2_with fail
    refine (hput _ _ h5).mono ?_
    rintro e w6 ⟨rfl, h6, k6⟩
    have K6 := K5.step1 k6 s1
    obtain ⟨j0, j1, j2, j3, j4⟩ := h6.cells
    clear hput h5 k5 k6 K5
    go_wp2
    go_ret2
    refine ⟨?_, K6⟩
    rw [← HF.out]
    rfl
set_option maxRecDepth 100000 in
set_option maxHeartbeats 4000000 in
theorem rencode7_ok2 (w : World) (v k : UInt8) (p : ByteArray) (hn : (v.toNat : Int) = 2) (h1 : ¬ 65536 < p.size) :
    Calls Try.prog 19 #[fr (v.toNat : Int) (k.toNat : Int) p] w fun e w' => e = .returned (.tuple #[.string (fEnc v k p), .int .i64 0]) ∧ Keep0 w w' := by
  have e1 : ((v.toNat : Int) != 1) = true := by rw [hn]; rfl
  have e2 : ((v.toNat : Int) != 2) = false := by rw [hn]; rfl
  have h1' : ¬ (65536 : Int) < p.size := by omega
  have hsz : (p.size : Int) ≤ 65536 := by omega
  have hwr : IntKind.u64.wrap (p.size : Int) = p.size := by rw [IntKind.wrap_u64]; omega
  have f0 := FrAt.new w (v.toNat : Int) (k.toNat : Int) p 46
  have k0 : Keep0 w (w.alloc (.cells #[.int .u8 (v.toNat : Int), .int .u8 (k.toNat : Int), .string p] 46)) := (Keep.refl _ w).alloc _
  obtain ⟨d0, d1, d2, d3, d4, d5⟩ := f0.cells
  have y := fun W => rencode_any p.size W (by omega)
  have hcv : ∀ (W : World) (g : Nat), W.cell? ⟨g, 0, none⟩ = some (.int .u8 (v.toNat : Int)) → W.cell? ⟨g, 1, none⟩ = some (.int .u8 (k.toNat : Int)) → (convert 44 9 (.slice (some ⟨g, 0, none⟩) 2 2)).run Try.prog W = .ok (.string (one v ++ one k)) W :=
    fun W g hc hc1 => run_two (src := 44) (dst := 9) Try.underlying44 Try.underlying9 W g v k hc hc1
  have hv2 : (one v ++ one k).size = 2 := by rw [ByteArray.size_append, one_size, one_size]
  have hvt := vText_le (n := p.size) (by omega)
  have z1 : (one v ++ one k).size + (vText p.size).size ≤ 4611686018427387904 := by omega
  have z2 : (one v ++ one k ++ vText p.size).size + p.size ≤ 4611686018427387904 := by rw [ByteArray.size_append]; omega
  have z3 : (one v ++ one k).size + (vText p.size).size + p.size ≤ 4611686018427387904 := by omega
  have hB : (one v ++ one k ++ vText p.size ++ p).size = (one v ++ one k).size + (vText p.size).size + p.size := by rw [ByteArray.size_append, ByteArray.size_append]
  have x1 : ¬ 9223372036854775807 < 2 + (vText p.size).size := by omega
  have x2 : ¬ 9223372036854775807 < 2 + (vText p.size).size + p.size := by omega
  have hfin := fEnc_left v k p
  have hlt : cSum (one v ++ one k ++ vText p.size ++ p).data.toList < 4294967296 := cMore_lt 0 _
  have hbt : (bText 4 (cSum (one v ++ one k ++ vText p.size ++ p).data.toList)).size = 4 := bText_size _ _
  have hsum := fun W => rsum5_any W (one v ++ one k ++ vText p.size ++ p) (by unfold maxLen; omega)
  have hput := fun W b (h : RPen W b ⟨#[]⟩ 4 0) => rput4_any 4 (cSum (one v ++ one k ++ vText p.size ++ p).data.toList) (by omega) h (by decide)
  rw [bText4_put hlt] at hput
  have hnew := fun W => rpnew_any W 4
  have h4 : pMax 4 = 4 := rfl
  rw [h4] at hnew
  clear h4
  have e215 : (⟨#[215, 78]⟩ : ByteArray).size = 2 := rfl
  have HF : Hid ((⟨#[215, 78]⟩ : ByteArray) ++ (one v ++ one k ++ vText p.size ++ p) ++ bText 4 (cSum (one v ++ one k ++ vText p.size ++ p).data.toList) = fEnc v k p) := hfin
  clear hfin
  generalize cSum (one v ++ one k ++ vText p.size ++ p).data.toList = N at *
  generalize bText 4 N = BT at *
  generalize fEnc v k p = F at *
  generalize one v ++ one k = D at *
  unfold fr
  clear hn h1
  go_enter Try.func19, Try.ntmps19
  go_wp2_with fail
  generalize w.alloc (.cells #[.int .u8 (v.toNat : Int), .int .u8 (k.toNat : Int), .string p] 46) = W0 at *
  generalize w.heap.size = g at *
  clear d3 d4 d5 f0
  have kD : Keep0 w W0.drew := k0.drew
  have d0 : W0.drew.cell? ⟨g, 0, none⟩ = some (.int .u8 (v.toNat : Int)) := d0
  have d1 : W0.drew.cell? ⟨g, 1, none⟩ = some (.int .u8 (k.toNat : Int)) := d1
  have d2 : W0.drew.cell? ⟨g, 2, none⟩ = some (.string p) := d2
  refine wp_region_held_drew (S := fun w' => w'.cell? ⟨g, 0, none⟩ = some (.int .u8 (v.toNat : Int)) ∧ w'.cell? ⟨g, 1, none⟩ = some (.int .u8 (k.toNat : Int)) ∧ w'.cell? ⟨g, 2, none⟩ = some (.string p)) (by kernel_rfl) ⟨d0, d1, d2⟩ (fun hHeld => ?_)
  generalize W0.drew = WD at *
  clear k0
  refine wpAnyH_take (i := 0) (v := ?t0v) (by simp only [List.getElem?_toArray, List.getElem?_cons_zero] <;> rfl) (by kernel_rfl) (by kernel_rfl) (by kernel_rfl) (by exact fun _ _ _ h => h) (Or.inl ⟨by rfl, ?t0y⟩) hHeld ?t0r
  case t0y => intro w hSw; (try dsimp only at hSw); go_simp <;> rfl
  simp only [Act.put, List.setIfInBounds_toArray, List.set_cons_zero, List.set_cons_succ]
  refine wpAnyH_take (i := 1) (v := ?t1v) (by simp only [List.getElem?_toArray, List.getElem?_cons_succ, List.getElem?_cons_zero] <;> rfl) (by kernel_rfl) (by kernel_rfl) (by kernel_rfl) (by exact fun _ _ _ h => h) (Or.inl ⟨by rfl, ?t1y⟩) hHeld ?t1r
  case t1y => intro w hSw; (try dsimp only at hSw); go_simp <;> rfl
  simp only [Act.put, List.setIfInBounds_toArray, List.set_cons_zero, List.set_cons_succ]
  refine wpAnyH_take (i := 2) (v := ?t2v) (by simp only [List.getElem?_toArray, List.getElem?_cons_succ, List.getElem?_cons_zero] <;> rfl) (by kernel_rfl) (by kernel_rfl) (by kernel_rfl) (by exact fun _ _ _ h => h) (Or.inl ⟨by rfl, ?t2y⟩) hHeld ?t2r
  case t2y => intro w hSw; (try dsimp only at hSw); go_simp <;> rfl
  simp only [Act.put, List.setIfInBounds_toArray, List.set_cons_zero, List.set_cons_succ]
  refine wpAnyH_take (i := 3) (v := ?t3v) (by simp only [List.getElem?_toArray, List.getElem?_cons_succ, List.getElem?_cons_zero] <;> rfl) (by kernel_rfl) (by kernel_rfl) (by kernel_rfl) (by exact fun _ _ _ h => h) (Or.inl ⟨by rfl, ?t3y⟩) hHeld ?t3r
  case t3y => intro w hSw; (try dsimp only at hSw); go_simp <;> rfl
  simp only [Act.put, List.setIfInBounds_toArray, List.set_cons_zero, List.set_cons_succ]
  refine wpAnyH_take (i := 6) (v := ?t4v) (by simp only [List.getElem?_toArray, List.getElem?_cons_succ, List.getElem?_cons_zero] <;> rfl) (by kernel_rfl) (by kernel_rfl) (by kernel_rfl) (by exact fun _ _ _ h => h) (Or.inl ⟨by rfl, ?t4y⟩) hHeld ?t4r
  case t4y => intro w hSw; (try dsimp only at hSw); go_simp <;> rfl
  simp only [Act.put, List.setIfInBounds_toArray, List.set_cons_zero, List.set_cons_succ]
  refine wpAnyH_take (i := 7) (v := ?t5v) (by simp only [List.getElem?_toArray, List.getElem?_cons_succ, List.getElem?_cons_zero] <;> rfl) (by kernel_rfl) (by kernel_rfl) (by kernel_rfl) (by exact fun _ _ _ h => h) (Or.inl ⟨by rfl, ?t5y⟩) hHeld ?t5r
  case t5y => intro w hSw; (try dsimp only at hSw); go_simp <;> rfl
  simp only [Act.put, List.setIfInBounds_toArray, List.set_cons_zero, List.set_cons_succ]
  refine wpAnyH_take (i := 8) (v := ?t6v) (by simp only [List.getElem?_toArray, List.getElem?_cons_succ, List.getElem?_cons_zero] <;> rfl) (by kernel_rfl) (by kernel_rfl) (by kernel_rfl) (by exact fun _ _ _ h => h) (Or.inl ⟨by rfl, ?t6y⟩) hHeld ?t6r
  case t6y => intro w hSw; (try dsimp only at hSw); go_simp <;> rfl
  simp only [Act.put, List.setIfInBounds_toArray, List.set_cons_zero, List.set_cons_succ]
  refine wpAnyH_take (i := 9) (v := ?t7v) (by simp only [List.getElem?_toArray, List.getElem?_cons_succ, List.getElem?_cons_zero] <;> rfl) (by kernel_rfl) (by kernel_rfl) (by kernel_rfl) (by exact fun _ _ _ h => h) (Or.inl ⟨by rfl, ?t7y⟩) hHeld ?t7r
  case t7y => intro w hSw; (try dsimp only at hSw); go_simp <;> rfl
  simp only [Act.put, List.setIfInBounds_toArray, List.set_cons_zero, List.set_cons_succ]
  refine wpAnyH_take (i := 12) (v := ?t8v) (by simp only [List.getElem?_toArray, List.getElem?_cons_succ, List.getElem?_cons_zero] <;> rfl) (by kernel_rfl) (by kernel_rfl) (by kernel_rfl) (by exact fun _ _ _ h => h) (Or.inl ⟨by rfl, ?t8y⟩) hHeld ?t8r
  case t8y => intro w hSw; (try dsimp only at hSw); go_simp <;> rfl
  simp only [Act.put, List.setIfInBounds_toArray, List.set_cons_zero, List.set_cons_succ]
  refine wpAnyH_take (i := 13) (v := ?t9v) (by simp only [List.getElem?_toArray, List.getElem?_cons_succ, List.getElem?_cons_zero] <;> rfl) (by kernel_rfl) (by kernel_rfl) (by kernel_rfl) (by exact fun _ _ _ h => h) (Or.inl ⟨by rfl, ?t9y⟩) hHeld ?t9r
  case t9y => intro w hSw; (try dsimp only at hSw); go_simp <;> rfl
  simp only [Act.put, List.setIfInBounds_toArray, List.set_cons_zero, List.set_cons_succ]
  refine wpAnyH_ready (rs := [4, 10]) (by kernel_rfl) (by simp) ?_
  refine AllReadyH.cons (by simp only [List.getElem?_toArray, List.getElem?_cons_succ, List.getElem?_cons_zero] <;> rfl) (fun K hK => ?_) (AllReadyH.cons (by simp only [List.getElem?_toArray, List.getElem?_cons_succ, List.getElem?_cons_zero] <;> rfl) (fun K hK => ?_) AllReadyH.nil)
  · go_simp
    have k4 : Keep0 WD (WD.alloc (.cells #[.int .u8 (v.toNat : Int), .int .u8 (k.toNat : Int)] 5)) := (Keep.refl _ _).alloc _
    have n4 := cell_alloc WD (c := #[.int .u8 (v.toNat : Int), .int .u8 (k.toNat : Int)]) 5 (i := 0) rfl
    have m4 := cell_alloc WD (c := #[.int .u8 (v.toNat : Int), .int .u8 (k.toNat : Int)]) 5 (i := 1) rfl
    refine hK.out _ _ ⟨k4.cell d0 (fun f => f), k4.cell d1 (fun f => f), k4.cell d2 (fun f => f)⟩ (fun hHeld => ?_)
    clear hK K
    have K4 := kD.step0 k4
    have hs4 := hHeld
    clear hHeld
    refine wpAnyH_strong (S' := fun w' => (w'.cell? ⟨g, 0, none⟩ = some (.int .u8 (v.toNat : Int)) ∧ w'.cell? ⟨g, 1, none⟩ = some (.int .u8 (k.toNat : Int)) ∧ w'.cell? ⟨g, 2, none⟩ = some (.string p)) ∧ w'.cell? ⟨WD.heap.size, 0, none⟩ = some (.int .u8 (v.toNat : Int)) ∧ w'.cell? ⟨WD.heap.size, 1, none⟩ = some (.int .u8 (k.toNat : Int))) (fun _ h => h.1) ⟨hs4, n4, m4⟩ (fun hHeld => ?_)
    generalize WD.alloc (.cells #[.int .u8 (v.toNat : Int), .int .u8 (k.toNat : Int)] 5) = W4 at *
    refine wpAnyH_take (i := 5) (v := ?x0v) (by simp only [List.getElem?_toArray, List.getElem?_cons_succ, List.getElem?_cons_zero] <;> rfl) (by kernel_rfl) (by kernel_rfl) (by kernel_rfl) (by exact fun _ _ _ h => h) (Or.inl ⟨by rfl, ?x0y⟩) hHeld ?x0r
    case x0y => intro w hSw; (try dsimp only at hSw); go_simp <;> rfl
    simp only [Act.put, List.setIfInBounds_toArray, List.set_cons_zero, List.set_cons_succ]
    refine wpAnyH_ready (rs := [10]) (by kernel_rfl) (by simp) ?_
    refine AllReadyH.cons (by simp only [List.getElem?_toArray, List.getElem?_cons_succ, List.getElem?_cons_zero] <;> rfl) (fun K hK => ?_) AllReadyH.nil
    go_simp
    refine (y _).mono ?_
    rintro e w1 ⟨rfl, k1⟩
    have K1 := K4.step0 k1
    go_wp2_with fail
    refine hK.out _ _ ⟨⟨k1.cell hs4.1 (fun f => f), k1.cell hs4.2.1 (fun f => f), k1.cell hs4.2.2 (fun f => f)⟩, k1.cell n4 (fun f => f), k1.cell m4 (fun f => f)⟩ (fun hHeld => ?_)
    clear hK K
    refine wpAnyH_take (i := 11) (v := ?x1v) (by simp only [List.getElem?_toArray, List.getElem?_cons_succ, List.getElem?_cons_zero] <;> rfl) (by kernel_rfl) (by kernel_rfl) (by kernel_rfl) (by exact fun _ _ _ h => h) (Or.inl ⟨by rfl, ?x1y⟩) hHeld ?x1r
    case x1y => intro w hSw; (try dsimp only at hSw); go_simp <;> rfl
    simp only [Act.put, List.setIfInBounds_toArray, List.set_cons_zero, List.set_cons_succ]
    refine wpAnyH_take (i := 14) (v := ?x2v) (by simp only [List.getElem?_toArray, List.getElem?_cons_succ, List.getElem?_cons_zero] <;> rfl) (by kernel_rfl) (by kernel_rfl) (by kernel_rfl) (by exact fun _ _ _ h => h) (Or.inl ⟨by rfl, ?x2y⟩) hHeld ?x2r
    case x2y => intro w hSw; (try dsimp only at hSw); go_simp <;> rfl
    simp only [Act.put, List.setIfInBounds_toArray, List.set_cons_zero, List.set_cons_succ]
    refine wpAnyH_take (i := 15) (v := ?x3v) (by simp only [List.getElem?_toArray, List.getElem?_cons_succ, List.getElem?_cons_zero] <;> rfl) (by kernel_rfl) (by kernel_rfl) (by kernel_rfl) (by exact fun _ _ _ h => h) (Or.inl ⟨by rfl, ?x3y⟩) hHeld ?x3r
    case x3y => intro w hSw; (try dsimp only at hSw); go_simp <;> rfl
    simp only [Act.put, List.setIfInBounds_toArray, List.set_cons_zero, List.set_cons_succ]
    refine wpAnyH_done (by kernel_rfl) ?_ _
    clear hHeld
    have s1 := K1.size
    generalize D ++ vText p.size ++ p = B at *
    have y1 : (⟨#[215, 78]⟩ : ByteArray).size + B.size ≤ 4611686018427387904 := by rw [e215]; omega
    have y2 : ((⟨#[215, 78]⟩ : ByteArray) ++ B).size + BT.size ≤ 4611686018427387904 := by rw [ByteArray.size_append, e215]; omega
    have y3 : (⟨#[215, 78]⟩ : ByteArray).size + B.size + BT.size ≤ 4611686018427387904 := by rw [e215]; omega
    have y4 : ¬ 9223372036854775807 < 2 + B.size := by omega
    have y5 : ¬ 9223372036854775807 < 2 + B.size + BT.size := by omega
    clear hB hbt hwr z1 z2 z3 hvt y e215
    go_wp2_with fail
    refine (hnew _).mono ?_
    rintro e w5 ⟨rfl, h5, k5⟩
    have K5 := K1.step0 k5
    clear hnew
    go_wp2_with fail
    refine (hsum _).mono ?_
    rintro e w' ⟨rfl, rfl⟩
    clear hsum
    go_wp2_with fail
    refine (hput _ _ h5).mono ?_
    rintro e w6 ⟨rfl, h6, k6⟩
    have K6 := K5.step1 k6 s1
    obtain ⟨j0, j1, j2, j3, j4⟩ := h6.cells
    clear hput h5 k5 k6 K5
    go_wp2
    go_ret2
    refine ⟨?_, K6⟩
    rw [← HF.out]
    rfl
  · go_simp
    refine (y _).mono ?_
    rintro e w1 ⟨rfl, k1⟩
    have K1 := kD.step0 k1
    go_wp2_with fail
    refine hK.out _ _ ⟨k1.cell d0 (fun f => f), k1.cell d1 (fun f => f), k1.cell d2 (fun f => f)⟩ (fun hHeld => ?_)
    clear hK K
    have hs1 := hHeld
    refine wpAnyH_ready (rs := [4]) (by kernel_rfl) (by simp) ?_
    refine AllReadyH.cons (by simp only [List.getElem?_toArray, List.getElem?_cons_succ, List.getElem?_cons_zero] <;> rfl) (fun K hK => ?_) AllReadyH.nil
    go_simp
    have k4 : Keep0 w1 (w1.alloc (.cells #[.int .u8 (v.toNat : Int), .int .u8 (k.toNat : Int)] 5)) := (Keep.refl _ _).alloc _
    have n4 := cell_alloc w1 (c := #[.int .u8 (v.toNat : Int), .int .u8 (k.toNat : Int)]) 5 (i := 0) rfl
    have m4 := cell_alloc w1 (c := #[.int .u8 (v.toNat : Int), .int .u8 (k.toNat : Int)]) 5 (i := 1) rfl
    refine hK.out _ _ ⟨k4.cell hs1.1 (fun f => f), k4.cell hs1.2.1 (fun f => f), k4.cell hs1.2.2 (fun f => f)⟩ (fun hHeld => ?_)
    clear hK K
    have K4 := K1.step0 k4
    have hs4 := hHeld
    clear hHeld
    refine wpAnyH_strong (S' := fun w' => (w'.cell? ⟨g, 0, none⟩ = some (.int .u8 (v.toNat : Int)) ∧ w'.cell? ⟨g, 1, none⟩ = some (.int .u8 (k.toNat : Int)) ∧ w'.cell? ⟨g, 2, none⟩ = some (.string p)) ∧ w'.cell? ⟨w1.heap.size, 0, none⟩ = some (.int .u8 (v.toNat : Int)) ∧ w'.cell? ⟨w1.heap.size, 1, none⟩ = some (.int .u8 (k.toNat : Int))) (fun _ h => h.1) ⟨hs4, n4, m4⟩ (fun hHeld => ?_)
    clear K1
    have K1 := K4
    generalize w1.alloc (.cells #[.int .u8 (v.toNat : Int), .int .u8 (k.toNat : Int)] 5) = W4 at *
    refine wpAnyH_take (i := 5) (v := ?z0v) (by simp only [List.getElem?_toArray, List.getElem?_cons_succ, List.getElem?_cons_zero] <;> rfl) (by kernel_rfl) (by kernel_rfl) (by kernel_rfl) (by exact fun _ _ _ h => h) (Or.inl ⟨by rfl, ?z0y⟩) hHeld ?z0r
    case z0y => intro w hSw; (try dsimp only at hSw); go_simp <;> rfl
    simp only [Act.put, List.setIfInBounds_toArray, List.set_cons_zero, List.set_cons_succ]
    refine wpAnyH_take (i := 11) (v := ?z1v) (by simp only [List.getElem?_toArray, List.getElem?_cons_succ, List.getElem?_cons_zero] <;> rfl) (by kernel_rfl) (by kernel_rfl) (by kernel_rfl) (by exact fun _ _ _ h => h) (Or.inl ⟨by rfl, ?z1y⟩) hHeld ?z1r
    case z1y => intro w hSw; (try dsimp only at hSw); go_simp <;> rfl
    simp only [Act.put, List.setIfInBounds_toArray, List.set_cons_zero, List.set_cons_succ]
    refine wpAnyH_take (i := 14) (v := ?z2v) (by simp only [List.getElem?_toArray, List.getElem?_cons_succ, List.getElem?_cons_zero] <;> rfl) (by kernel_rfl) (by kernel_rfl) (by kernel_rfl) (by exact fun _ _ _ h => h) (Or.inl ⟨by rfl, ?z2y⟩) hHeld ?z2r
    case z2y => intro w hSw; (try dsimp only at hSw); go_simp <;> rfl
    simp only [Act.put, List.setIfInBounds_toArray, List.set_cons_zero, List.set_cons_succ]
    refine wpAnyH_take (i := 15) (v := ?z3v) (by simp only [List.getElem?_toArray, List.getElem?_cons_succ, List.getElem?_cons_zero] <;> rfl) (by kernel_rfl) (by kernel_rfl) (by kernel_rfl) (by exact fun _ _ _ h => h) (Or.inl ⟨by rfl, ?z3y⟩) hHeld ?z3r
    case z3y => intro w hSw; (try dsimp only at hSw); go_simp <;> rfl
    simp only [Act.put, List.setIfInBounds_toArray, List.set_cons_zero, List.set_cons_succ]
    refine wpAnyH_done (by kernel_rfl) ?_ _
    clear hHeld
    have s1 := K1.size
    generalize D ++ vText p.size ++ p = B at *
    have y1 : (⟨#[215, 78]⟩ : ByteArray).size + B.size ≤ 4611686018427387904 := by rw [e215]; omega
    have y2 : ((⟨#[215, 78]⟩ : ByteArray) ++ B).size + BT.size ≤ 4611686018427387904 := by rw [ByteArray.size_append, e215]; omega
    have y3 : (⟨#[215, 78]⟩ : ByteArray).size + B.size + BT.size ≤ 4611686018427387904 := by rw [e215]; omega
    have y4 : ¬ 9223372036854775807 < 2 + B.size := by omega
    have y5 : ¬ 9223372036854775807 < 2 + B.size + BT.size := by omega
    clear hB hbt hwr z1 z2 z3 hvt y e215
    go_wp2_with fail
    refine (hnew _).mono ?_
    rintro e w5 ⟨rfl, h5, k5⟩
    have K5 := K1.step0 k5
    clear hnew
    go_wp2_with fail
    refine (hsum _).mono ?_
    rintro e w' ⟨rfl, rfl⟩
    clear hsum
    go_wp2_with fail
    refine (hput _ _ h5).mono ?_
    rintro e w6 ⟨rfl, h6, k6⟩
    have K6 := K5.step1 k6 s1
    obtain ⟨j0, j1, j2, j3, j4⟩ := h6.cells
    clear hput h5 k5 k6 K5
    go_wp2
    go_ret2
    refine ⟨?_, K6⟩
    rw [← HF.out]
    rfl
theorem rencode7_any (w : World) (v k : UInt8) (p : ByteArray) (hp : p.size ≤ maxLen) :
    Calls Try.prog 19 #[fr (v.toNat : Int) (k.toNat : Int) p] w fun e w' => e = .returned (.tuple #[.string (eTxt7 v k p), .int .i64 (eErr7 v p)]) ∧ Keep0 w w' := by
  cases hv : qV (v.toNat : Int) with
  | false =>
    rw [(e7_ver k p hv).1, (e7_ver k p hv).2]
    exact rencode7_ver w v k p hv
  | true =>
    by_cases h1 : 65536 < p.size
    · rw [(e7_long k hv h1).1, (e7_long k hv h1).2]
      exact rencode7_long w v k p hp hv h1
    · rw [(e7_ok k hv h1).1, (e7_ok k hv h1).2]
      rcases of_decide_eq_true hv with hn | hn
      · exact rencode7_ok1 w v k p hn h1
      · exact rencode7_ok2 w v k p hn h1
end Go.Proofs.Ytmgfalkelembkaa
