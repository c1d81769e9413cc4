/-
  Frames on rows of bytes: what is read, where it ends, and why there is none; what is written; each from the other. No program.
  Conditions: none.
-/
import Derived.Test.YtaleennijfefnaaGreatBlob
import Derived.Test.YtaleennijfefnaaGreatFixTake
import Derived.Test.YtaleennijfefnaaGreatCrc
namespace Go.Proofs.YtaleennijfefnaaGreat
open Go.RowKit

/-! ### readings with an error -/
theorem cByte_bad {s : ByteArray} {a x : Int} (h : x ≠ 0) : cByte s a x = 0 := if_neg (fun e => h e.1)
theorem cAt_bad {s : ByteArray} {a x : Int} (n : Int) (h : x ≠ 0) : cAt s a x n = a := if_neg (fun e => h e.1)
theorem cErr_bad {s : ByteArray} {a x : Int} (n : Int) (h : x ≠ 0) : cErr s a x n = x := if_pos h
theorem cBytes_bad {s : ByteArray} {a x : Int} (n : Int) (h : x ≠ 0) : cBytes s a x n = ⟨#[]⟩ := if_neg (fun e => h e.1)
theorem b_bad {s : ByteArray} {a x : Int} (m : Int) (h : x ≠ 0) : bTxt s a x m = ⟨#[]⟩ ∧ bAt s a x m = a ∧ bErr s a x m = x := by
  have h1 := tErr_err (s := s) (a := a) h
  obtain ⟨h2, h3⟩ := k_err (s := s) (a := a) (x := x) (m := m) (by rw [h1]; exact h)
  rw [h1] at h3
  unfold bTxt bAt bErr
  rw [h2, h3, tAt_err h]
  exact ⟨cBytes_bad _ h, cAt_bad _ h, cErr_bad _ h⟩
theorem f_bad {s : ByteArray} {a x : Int} (h : x ≠ 0) : fNum s a x 4 = 0 ∧ fAt s a x 4 = a ∧ fErr s a x 4 = x := by
  obtain ⟨h1, h2, h3⟩ := fTake_yes (s := s) (a := a) (x := x) (k := 4) rfl
  rw [h1, h2, h3, cBytes_bad _ h]
  exact ⟨rfl, cAt_bad _ h, cErr_bad _ h⟩

/-! ### reading a frame -/
/-- Behind a byte that must be c; behind a version. -/
def mE (s : ByteArray) (a x c : Int) : Int := if cErr s a x 1 = 0 ∧ cByte s a x ≠ c then 9 else cErr s a x 1
def qV (v : Int) : Bool := decide (v = 1 ∨ v = 2)
def vE (s : ByteArray) (a : Int) : Int := if cErr s a 0 1 = 0 ∧ qV (cByte s a 0) = false then 10 else cErr s a 0 1
/-- From a frame's kind on: the place and the error behind the kind; the payload, the place and the error behind it; the sum, the place and the error behind it. -/
def q4A (s : ByteArray) (a : Int) : Int := cAt s a 0 1
def q4E (s : ByteArray) (a : Int) : Int := cErr s a 0 1
def q5T (s : ByteArray) (a : Int) : ByteArray := bTxt s (q4A s a) (q4E s a) 65536
def q5A (s : ByteArray) (a : Int) : Int := bAt s (q4A s a) (q4E s a) 65536
def q5E (s : ByteArray) (a : Int) : Int := bErr s (q4A s a) (q4E s a) 65536
def q6N (s : ByteArray) (a : Int) : Nat := fNum s (q5A s a) (q5E s a) 4
def q6A (s : ByteArray) (a : Int) : Int := fAt s (q5A s a) (q5E s a) 4
def q6E (s : ByteArray) (a : Int) : Int := fErr s (q5A s a) (q5E s a) 4
/-- The sum that is right. -/
def qSum (s : ByteArray) (a : Int) : Nat := cSum (cut s (a + 2) (q5A s (a + 3))).data.toList
/-- The error; the place; the frame. -/
def qErr (s : ByteArray) (a x : Int) : Int :=
  if mE s a x 215 ≠ 0 then mE s a x 215 else if mE s (a + 1) 0 78 ≠ 0 then mE s (a + 1) 0 78 else if vE s (a + 2) ≠ 0 then vE s (a + 2)
  else if q6E s (a + 3) ≠ 0 then q6E s (a + 3) else if q6N s (a + 3) ≠ qSum s a then 12 else 0
def qAt (s : ByteArray) (a x : Int) : Int :=
  if mE s a x 215 ≠ 0 then cAt s a x 1 else if mE s (a + 1) 0 78 ≠ 0 then cAt s (a + 1) 0 1 else if vE s (a + 2) ≠ 0 then cAt s (a + 2) 0 1 else q6A s (a + 3)
def qVer (s : ByteArray) (a x : Int) : Int := if qErr s a x = 0 then cByte s (a + 2) 0 else 0
def qKind (s : ByteArray) (a x : Int) : Int := if qErr s a x = 0 then cByte s (a + 3) 0 else 0
def qTxt (s : ByteArray) (a x : Int) : ByteArray := if qErr s a x = 0 then q5T s (a + 3) else ⟨#[]⟩
def fr (v k : Int) (t : ByteArray) : Value := .agg #[.int .u8 v, .int .u8 k, .string t]
def qFr (s : ByteArray) (a x : Int) : Value := fr (qVer s a x) (qKind s a x) (qTxt s a x)

theorem cErr_byte {s : ByteArray} {a x : Int} (h : cErr s a x 1 = 0) : x = 0 ∧ a < s.size ∧ cAt s a x 1 = a + 1 := by
  unfold cErr at h
  by_cases hx : x = 0
  · subst hx
    rw [if_neg (by omega), if_neg (by omega)] at h
    by_cases hl : (1 : Int) ≤ s.size - a
    · exact ⟨rfl, by omega, if_pos ⟨rfl, by omega, hl⟩⟩
    · rw [if_neg hl] at h
      exact absurd h (by decide)
  · rw [if_pos hx] at h
    exact absurd h hx
theorem mE_zero {s : ByteArray} {a x c : Int} (h : mE s a x c = 0) : x = 0 ∧ cErr s a x 1 = 0 ∧ cByte s a x = c ∧ cAt s a x 1 = a + 1 := by
  unfold mE at h
  by_cases h1 : cErr s a x 1 = 0 ∧ cByte s a x ≠ c
  · rw [if_pos h1] at h
    exact absurd h (by decide)
  · rw [if_neg h1] at h
    obtain ⟨h2, h3, h4⟩ := cErr_byte h
    exact ⟨h2, h, Decidable.byContradiction fun h5 => h1 ⟨h, h5⟩, h4⟩
theorem mE_bad {s : ByteArray} {a x c : Int} (h : mE s a x c ≠ 0) : (cErr s a x 1 ≠ 0 ∧ mE s a x c = cErr s a x 1 ∧ cByte s a x = 0) ∨ (cErr s a x 1 = 0 ∧ cByte s a x ≠ c ∧ mE s a x c = 9) := by
  unfold mE at h ⊢
  by_cases h1 : cErr s a x 1 = 0 ∧ cByte s a x ≠ c
  · rw [if_pos h1]
    exact .inr ⟨h1.1, h1.2, rfl⟩
  · rw [if_neg h1] at h ⊢
    refine .inl ⟨h, rfl, ?_⟩
    unfold cErr at h
    unfold cByte
    by_cases hx : x = 0
    · subst hx
      rw [if_neg (by omega), if_neg (by omega)] at h
      rw [if_neg]
      rintro ⟨-, hl⟩
      rw [if_pos (by omega)] at h
      exact h rfl
    · exact if_neg (fun e => hx e.1)
theorem vE_zero {s : ByteArray} {a : Int} (h : vE s a = 0) : cErr s a 0 1 = 0 ∧ qV (cByte s a 0) = true ∧ cAt s a 0 1 = a + 1 := by
  unfold vE at h
  by_cases h1 : cErr s a 0 1 = 0 ∧ qV (cByte s a 0) = false
  · rw [if_pos h1] at h
    exact absurd h (by decide)
  · rw [if_neg h1] at h
    obtain ⟨_, _, h4⟩ := cErr_byte h
    exact ⟨h, by cases h5 : qV (cByte s a 0) with | true => rfl | false => exact absurd ⟨h, h5⟩ h1, h4⟩
theorem vE_bad {s : ByteArray} {a : Int} (h : vE s a ≠ 0) : qV (cByte s a 0) = false ∧ ((cErr s a 0 1 ≠ 0 ∧ vE s a = cErr s a 0 1 ∧ cByte s a 0 = 0) ∨ (cErr s a 0 1 = 0 ∧ vE s a = 10)) := by
  have h0 : mE s a 0 (cByte s a 0) = cErr s a 0 1 := if_neg (fun e => e.2 rfl)
  unfold vE at h ⊢
  by_cases h1 : cErr s a 0 1 = 0 ∧ qV (cByte s a 0) = false
  · rw [if_pos h1]
    exact ⟨h1.2, .inr ⟨h1.1, rfl⟩⟩
  · rw [if_neg h1] at h ⊢
    rcases mE_bad (c := cByte s a 0) (by rw [h0]; exact h) with ⟨_, _, h2⟩ | ⟨_, h2, _⟩
    · exact ⟨by rw [h2]; rfl, .inl ⟨h, rfl, h2⟩⟩
    · exact absurd rfl h2

/-! ### the cases of a reading -/
theorem q_A {s : ByteArray} {a x : Int} (h : mE s a x 215 ≠ 0) : qErr s a x = mE s a x 215 ∧ qAt s a x = cAt s a x 1 := ⟨if_pos h, if_pos h⟩
theorem q_B {s : ByteArray} {a x : Int} (h : mE s a x 215 = 0) (h1 : mE s (a + 1) 0 78 ≠ 0) : qErr s a x = mE s (a + 1) 0 78 ∧ qAt s a x = cAt s (a + 1) 0 1 := by
  unfold qErr qAt
  simp [h, h1]
theorem q_C {s : ByteArray} {a x : Int} (h : mE s a x 215 = 0) (h1 : mE s (a + 1) 0 78 = 0) (h2 : vE s (a + 2) ≠ 0) : qErr s a x = vE s (a + 2) ∧ qAt s a x = cAt s (a + 2) 0 1 := by
  unfold qErr qAt
  simp [h, h1, h2]
theorem q_at {s : ByteArray} {a x : Int} (h : mE s a x 215 = 0) (h1 : mE s (a + 1) 0 78 = 0) (h2 : vE s (a + 2) = 0) : qAt s a x = q6A s (a + 3) := by
  unfold qAt
  simp [h, h1, h2]
theorem q_D {s : ByteArray} {a x : Int} (h : mE s a x 215 = 0) (h1 : mE s (a + 1) 0 78 = 0) (h2 : vE s (a + 2) = 0) (h3 : q6E s (a + 3) ≠ 0) : qErr s a x = q6E s (a + 3) := by
  unfold qErr
  simp [h, h1, h2, h3]
theorem q_E {s : ByteArray} {a x : Int} (h : mE s a x 215 = 0) (h1 : mE s (a + 1) 0 78 = 0) (h2 : vE s (a + 2) = 0) (h3 : q6E s (a + 3) = 0) (h4 : q6N s (a + 3) ≠ qSum s a) : qErr s a x = 12 := by
  unfold qErr
  simp [h, h1, h2, h3, h4]
theorem q_F {s : ByteArray} {a x : Int} (h : mE s a x 215 = 0) (h1 : mE s (a + 1) 0 78 = 0) (h2 : vE s (a + 2) = 0) (h3 : q6E s (a + 3) = 0) (h4 : q6N s (a + 3) = qSum s a) : qErr s a x = 0 := by
  unfold qErr
  simp [h, h1, h2, h3, h4]
theorem q_zero {s : ByteArray} {a x : Int} (h : qErr s a x = 0) : mE s a x 215 = 0 ∧ mE s (a + 1) 0 78 = 0 ∧ vE s (a + 2) = 0 ∧ q6E s (a + 3) = 0 ∧ q6N s (a + 3) = qSum s a := by
  by_cases h0 : mE s a x 215 = 0
  · by_cases h1 : mE s (a + 1) 0 78 = 0
    · by_cases h2 : vE s (a + 2) = 0
      · by_cases h3 : q6E s (a + 3) = 0
        · by_cases h4 : q6N s (a + 3) = qSum s a
          · exact ⟨h0, h1, h2, h3, h4⟩
          · exact absurd ((q_E h0 h1 h2 h3 h4).symm.trans h) (by decide)
        · exact absurd ((q_D h0 h1 h2 h3).symm.trans h) h3
      · exact absurd ((q_C h0 h1 h2).1.symm.trans h) h2
    · exact absurd ((q_B h0 h1).1.symm.trans h) h1
  · exact absurd ((q_A h0).1.symm.trans h) h0
theorem qFr_no {s : ByteArray} {a x : Int} (h : qErr s a x ≠ 0) : qFr s a x = fr 0 0 ⟨#[]⟩ := by
  unfold qFr qVer qKind qTxt
  rw [if_neg h, if_neg h, if_neg h]
theorem qFr_yes {s : ByteArray} {a x : Int} (h : qErr s a x = 0) : qFr s a x = fr (cByte s (a + 2) 0) (cByte s (a + 3) 0) (q5T s (a + 3)) := by
  unfold qFr qVer qKind qTxt
  rw [if_pos h, if_pos h, if_pos h]

/-! ### writing a frame -/
def fBody (v k : UInt8) (p : ByteArray) : ByteArray := one v ++ (one k ++ (vText p.size ++ p))
def fEnc (v k : UInt8) (p : ByteArray) : ByteArray := one 215 ++ (one 78 ++ (fBody v k p ++ bText 4 (cSum (fBody v k p).data.toList)))
theorem fBody_size (v k : UInt8) (p : ByteArray) : (fBody v k p).size = 2 + (vText p.size).size + p.size := by
  unfold fBody
  simp only [ByteArray.size_append, one_size]
  omega
theorem fEnc_size (v k : UInt8) (p : ByteArray) : (fEnc v k p).size = 8 + (vText p.size).size + p.size := by
  unfold fEnc
  simp only [ByteArray.size_append, one_size, bText_size, fBody_size]
  omega

/-! ### what is written is read -/
theorem byte_back {T t r : ByteArray} {c : UInt8} (h : T = t ++ (one c ++ r)) : cByte T t.size 0 = (c.toNat : Int) ∧ cErr T t.size 0 1 = 0 ∧ cAt T t.size 0 1 = (t.size : Int) + 1 := by
  have hsz : T.size = t.size + (1 + r.size) := by rw [h]; simp only [ByteArray.size_append, one_size]
  refine ⟨?_, ?_, ?_⟩
  · unfold cByte byteAt
    rw [if_pos ⟨rfl, by omega⟩]
    have e0 : ((t.size : Int)).toNat = t.data.toList.length := by simp
    rw [e0, h, ByteArray.data_append, Array.toList_append, List.getD_eq_getElem?_getD, List.getElem?_append_right (Nat.le_refl _), Nat.sub_self, ByteArray.data_append, Array.toList_append]
    rfl
  · unfold cErr; rw [if_neg (by decide), if_neg (by decide), if_pos (by omega)]
  · unfold cAt; rw [if_pos ⟨rfl, by decide, by omega⟩]
theorem fix_back {T t r : ByteArray} {n : Nat} (hn : n < 4294967296) (h : T = t ++ (bText 4 n ++ r)) : fNum T t.size 0 4 = n ∧ fErr T t.size 0 4 = 0 ∧ fAt T t.size 0 4 = (t.size : Int) + 4 := by
  have hsz : T.size = t.size + (4 + r.size) := by rw [h]; simp only [ByteArray.size_append, bText_size]
  obtain ⟨h1, h2, h3⟩ := fTake_yes (s := T) (a := t.size) (x := 0) (k := 4) rfl
  have hc : (0 : Int) = 0 ∧ (0 : Int) ≤ 4 ∧ (4 : Int) ≤ T.size - (t.size : Int) := by omega
  rw [h1, h2, h3]
  refine ⟨?_, ?_, ?_⟩
  · have e : cBytes T t.size 0 4 = bText 4 n := by
      unfold cBytes
      rw [if_pos hc]
      have := cut_mid (t := t) (s := bText 4 n) (r := r)
      rw [bText_size, ← h] at this
      exact this
    rw [e, bText_list, bNum_enc]
    exact Nat.mod_eq_of_lt hn
  · unfold cErr; rw [if_neg (by decide), if_neg (by decide), if_pos hc.2.2]
  · unfold cAt; rw [if_pos hc]
theorem frame_back {T t p r : ByteArray} {v k : UInt8} (hv : qV (v.toNat : Int) = true) (hp : p.size ≤ 65536) (h : T = t ++ (fEnc v k p ++ r)) :
    qErr T t.size 0 = 0 ∧ qFr T t.size 0 = fr (v.toNat : Int) (k.toNat : Int) p ∧ qAt T t.size 0 = (t.size : Int) + (fEnc v k p).size := by
  obtain ⟨n, hn⟩ : ∃ n, n = cSum (fBody v k p).data.toList := ⟨_, rfl⟩
  have e0 : T = t ++ (one 215 ++ (one 78 ++ (fBody v k p ++ (bText 4 n ++ r)))) := by
    rw [h, hn]; unfold fEnc; simp only [ByteArray.append_assoc]
  have e1 : T = (t ++ one 215) ++ (one 78 ++ (fBody v k p ++ (bText 4 n ++ r))) := by rw [e0]; simp only [ByteArray.append_assoc]
  have e2 : T = (t ++ one 215 ++ one 78) ++ (fBody v k p ++ (bText 4 n ++ r)) := by rw [e0]; simp only [ByteArray.append_assoc]
  have e2' : T = (t ++ one 215 ++ one 78) ++ (one v ++ (one k ++ (vText p.size ++ (p ++ (bText 4 n ++ r))))) := by rw [e2]; unfold fBody; simp only [ByteArray.append_assoc]
  have e3 : T = (t ++ one 215 ++ one 78 ++ one v) ++ (one k ++ (vText p.size ++ (p ++ (bText 4 n ++ r)))) := by rw [e2']; simp only [ByteArray.append_assoc]
  have e4 : T = (t ++ one 215 ++ one 78 ++ one v ++ one k) ++ (vText p.size ++ (p ++ (bText 4 n ++ r))) := by rw [e2']; simp only [ByteArray.append_assoc]
  have e5 : T = (t ++ one 215 ++ one 78 ++ one v ++ one k ++ vText p.size ++ p) ++ (bText 4 n ++ r) := by rw [e2']; simp only [ByteArray.append_assoc]
  have s1 : (((t ++ one 215).size : Nat) : Int) = (t.size : Int) + 1 := by simp only [ByteArray.size_append, one_size]; omega
  have s2 : (((t ++ one 215 ++ one 78).size : Nat) : Int) = (t.size : Int) + 2 := by simp only [ByteArray.size_append, one_size]; omega
  have s3 : (((t ++ one 215 ++ one 78 ++ one v).size : Nat) : Int) = (t.size : Int) + 3 := by simp only [ByteArray.size_append, one_size]; omega
  have s4 : (((t ++ one 215 ++ one 78 ++ one v ++ one k).size : Nat) : Int) = (t.size : Int) + 4 := by simp only [ByteArray.size_append, one_size]; omega
  have s5 : (((t ++ one 215 ++ one 78 ++ one v ++ one k ++ vText p.size ++ p).size : Nat) : Int) = (t.size : Int) + 4 + (vText p.size).size + p.size := by simp only [ByteArray.size_append, one_size]; omega
  obtain ⟨b0, c0, d0⟩ := byte_back e0
  obtain ⟨b1, c1, d1⟩ := byte_back e1
  obtain ⟨b2, c2, d2⟩ := byte_back e2'
  obtain ⟨b3, c3, d3⟩ := byte_back e3
  obtain ⟨b4, c4, d4⟩ := blob_back (m := 65536) (by omega) (by show (p.size : Int) ≤ 65536; omega) e4
  obtain ⟨b5, c5, d5⟩ := fix_back (by rw [hn]; exact cMore_lt 0 _) e5
  rw [s1] at b1 c1 d1
  rw [s2] at b2 c2 d2
  rw [s3] at b3 c3 d3
  rw [s4] at b4 c4 d4
  rw [s5] at b5 c5 d5
  have g0 : mE T t.size 0 215 = 0 := by unfold mE; rw [if_neg (fun e => e.2 b0), c0]
  have g1 : mE T ((t.size : Int) + 1) 0 78 = 0 := by unfold mE; rw [if_neg (fun e => e.2 b1), c1]
  have g2 : vE T ((t.size : Int) + 2) = 0 := by unfold vE; rw [b2, hv, if_neg (fun e => Bool.noConfusion e.2), c2]
  have p4 : q4A T ((t.size : Int) + 3) = (t.size : Int) + 4 := d3.trans (by omega)
  have x4 : q4E T ((t.size : Int) + 3) = 0 := c3
  have p5 : q5A T ((t.size : Int) + 3) = (t.size : Int) + 4 + (vText p.size).size + p.size := by unfold q5A; rw [p4, x4, d4]
  have x5 : q5E T ((t.size : Int) + 3) = 0 := by unfold q5E; rw [p4, x4, c4]
  have t5 : q5T T ((t.size : Int) + 3) = p := by unfold q5T; rw [p4, x4, b4]
  have g3 : q6E T ((t.size : Int) + 3) = 0 := by unfold q6E; rw [p5, x5, c5]
  have hcut : cut T ((t.size : Int) + 2) (q5A T ((t.size : Int) + 3)) = fBody v k p := by
    have := cut_mid (t := t ++ one 215 ++ one 78) (s := fBody v k p) (r := bText 4 n ++ r)
    rw [← e2, s2, fBody_size] at this
    rw [p5]
    rw [show (t.size : Int) + 4 + (vText p.size).size + p.size = (t.size : Int) + 2 + ((2 + (vText p.size).size + p.size : Nat) : Int) from by omega]
    exact this
  have g4 : q6N T ((t.size : Int) + 3) = qSum T t.size := by
    unfold q6N qSum
    rw [hcut, p5, x5, b5, hn]
  have hE := q_F g0 g1 g2 g3 g4
  refine ⟨hE, ?_, ?_⟩
  · rw [qFr_yes hE, b2, b3, t5]
  · rw [q_at g0 g1 g2]
    unfold q6A
    rw [p5, x5, d5, fEnc_size]
    omega

/-! ### what is read is written -/
theorem cut_split {s : ByteArray} {i j k : Int} (h1 : i ≤ j) (h2 : j ≤ k) : cut s i k = cut s i j ++ cut s j k := by
  unfold cut
  apply ByteArray.ext
  apply Array.toList_inj.1
  rw [ByteArray.data_append, Array.toList_append, ByteArray.data_extract, ByteArray.data_extract, ByteArray.data_extract, Array.toList_extract, Array.toList_extract, Array.toList_extract,
    List.extract_eq_take_drop, List.extract_eq_take_drop, List.extract_eq_take_drop]
  have e1 : k.toNat - i.toNat = (j.toNat - i.toNat) + (k.toNat - j.toNat) := by omega
  have e2 : s.data.toList.drop j.toNat = (s.data.toList.drop i.toNat).drop (j.toNat - i.toNat) := by
    rw [List.drop_drop]
    congr 1
    omega
  rw [e1, e2, List.take_add]
theorem cut_byte {s : ByteArray} {a : Int} (h0 : 0 ≤ a) (h : a < s.size) : cut s a (a + 1) = one (UInt8.ofNat (cByte s a 0).toNat) := by
  obtain ⟨c, h1, h2⟩ := cut_one s a h0 h
  have e : cByte s a 0 = (c.toNat : Int) := by unfold cByte; rw [if_pos ⟨rfl, h⟩, h2]
  rw [h1, e, Int.toNat_natCast]
  simp [one]
theorem cut_num {s : ByteArray} {a : Int} (h0 : 0 ≤ a) (he : tErr s a 0 = 0) : cut s a (tAt s a 0) = vText (tNum s a 0).toNat := by
  have hE : (vRd 10 (vBytes s a)).2.2 = 0 := by unfold tErr at he; rwa [if_pos rfl] at he
  obtain ⟨hb, _⟩ := vRd_back 9 (vBytes s a) (by decide) hE
  have e1 : tAt s a 0 = a + (vRd 10 (vBytes s a)).2.1 := if_pos rfl
  have e2 : tNum s a 0 = (vRd 10 (vBytes s a)).1 := if_pos ⟨rfl, hE⟩
  rw [e1, e2, Int.toNat_natCast]
  unfold cut vText
  apply ByteArray.ext
  apply Array.toList_inj.1
  rw [ByteArray.data_extract, Array.toList_extract, List.extract_eq_take_drop]
  have e3 : (a + ((vRd 10 (vBytes s a)).2.1 : Int)).toNat - a.toNat = (vRd 10 (vBytes s a)).2.1 := by omega
  rw [e3]
  exact hb
theorem bEnc_num : ∀ (k : Nat) (l : List UInt8), l.length = k → bEnc k (bNum l) = l
  | 0, l, h => by
    obtain rfl : l = [] := List.length_eq_zero_iff.1 h
    rfl
  | k + 1, l, h => by
    have hne : l ≠ [] := by intro e; rw [e] at h; simp at h
    obtain ⟨r, c, rfl⟩ : ∃ r c, l = r ++ [c] := ⟨l.dropLast, l.getLast hne, (List.dropLast_concat_getLast hne).symm⟩
    have hr : r.length = k := by simpa using h
    rw [bNum_snoc]
    have hc : c.toNat < 256 := c.toNat_lt
    show bEnc k ((bNum r * 256 + c.toNat) / 256) ++ [UInt8.ofNat ((bNum r * 256 + c.toNat) % 256)] = r ++ [c]
    rw [show (bNum r * 256 + c.toNat) / 256 = bNum r from by omega, show (bNum r * 256 + c.toNat) % 256 = c.toNat from by omega, bEnc_num k r hr]
    simp
theorem cut_fix {s : ByteArray} {a : Int} (h0 : 0 ≤ a) (he : fErr s a 0 4 = 0) : a + 4 ≤ s.size ∧ fAt s a 0 4 = a + 4 ∧ cut s a (a + 4) = bText 4 (fNum s a 0 4) := by
  obtain ⟨h1, h2, h3⟩ := fTake_yes (s := s) (a := a) (x := 0) (k := 4) rfl
  rw [h3] at he
  have hle : (4 : Int) ≤ s.size - a := by
    unfold cErr at he
    rw [if_neg (by decide), if_neg (by decide)] at he
    by_cases hl : (4 : Int) ≤ s.size - a
    · exact hl
    · rw [if_neg hl] at he
      exact absurd he (by decide)
  have hc : (0 : Int) = 0 ∧ (0 : Int) ≤ 4 ∧ (4 : Int) ≤ s.size - a := ⟨rfl, by decide, hle⟩
  have e : cBytes s a 0 4 = cut s a (a + 4) := if_pos hc
  refine ⟨by omega, ?_, ?_⟩
  · rw [h2]; exact if_pos hc
  · rw [h1, e]
    have hl : (cut s a (a + 4)).data.toList.length = 4 := by
      unfold cut
      rw [ByteArray.data_extract, Array.toList_extract, List.extract_eq_take_drop, List.length_take, List.length_drop]
      have : s.data.toList.length = s.size := by simp
      omega
    unfold bText
    rw [bEnc_num 4 _ hl]
theorem blob_zero {s : ByteArray} {a x m : Int} (h : bErr s a x m = 0) : x = 0 ∧ tErr s a 0 = 0 ∧ tNum s a 0 ≤ pMax m ∧ tNum s a 0 ≤ s.size - tAt s a 0 ∧ bTxt s a x m = cut s (tAt s a 0) (tAt s a 0 + tNum s a 0) ∧ bAt s a x m = tAt s a 0 + tNum s a 0 := by
  have ht := tNum_lt s a 0
  by_cases hx : x = 0
  · subst hx
    by_cases he : tErr s a 0 = 0
    · by_cases ho : pMax m < tNum s a 0
      · obtain ⟨q1, q2⟩ := k_over he ho
        have : bErr s a 0 m = 3 := by unfold bErr; rw [q1, q2]; rfl
        rw [this] at h
        exact absurd h (by decide)
      · obtain ⟨q1, q2⟩ := k_ok he ho
        unfold bErr at h
        unfold bTxt bAt
        rw [q1, q2] at h ⊢
        unfold cErr at h
        rw [if_neg (by decide), if_neg (by omega)] at h
        by_cases hl : tNum s a 0 ≤ s.size - tAt s a 0
        · have hc : (0 : Int) = 0 ∧ 0 ≤ tNum s a 0 ∧ tNum s a 0 ≤ s.size - tAt s a 0 := ⟨rfl, ht.1, hl⟩
          exact ⟨rfl, he, by omega, hl, if_pos hc, if_pos hc⟩
        · rw [if_neg hl] at h
          exact absurd h (by decide)
    · obtain ⟨q1, q2⟩ := k_err (m := m) he
      have : bErr s a 0 m = tErr s a 0 := by unfold bErr; rw [q1, q2]; exact if_pos he
      rw [this] at h
      exact absurd h he
  · rw [(b_bad m hx).2.2] at h
    exact absurd h hx
/-- A frame that is read: its parts, and its bytes. -/
theorem frame_read {s : ByteArray} {a x : Int} (h0 : 0 ≤ a) (h : qErr s a x = 0) :
    ∃ (v k : UInt8) (p : ByteArray), x = 0 ∧ qV (v.toNat : Int) = true ∧ p.size ≤ 65536 ∧ qFr s a x = fr (v.toNat : Int) (k.toNat : Int) p ∧ qAt s a x ≤ s.size ∧ qAt s a x = a + (fEnc v k p).size ∧ cut s a (qAt s a x) = fEnc v k p := by
  obtain ⟨g0, g1, g2, g3, g4⟩ := q_zero h
  obtain ⟨rfl, c0, b0, d0⟩ := mE_zero g0
  obtain ⟨_, c1, b1, d1⟩ := mE_zero g1
  obtain ⟨c2, b2, d2⟩ := vE_zero g2
  have l0 := (cErr_byte c0).2.1
  have l1 := (cErr_byte c1).2.1
  have l2 := (cErr_byte c2).2.1
  have x5 : q5E s (a + 3) = 0 := by
    refine Decidable.byContradiction fun e => ?_
    have := (f_bad (s := s) (a := q5A s (a + 3)) e).2.2
    unfold q6E at g3
    rw [this] at g3
    exact e g3
  obtain ⟨x4, t0, tm, tl, tt, ta⟩ := blob_zero (s := s) (a := q4A s (a + 3)) (x := q4E s (a + 3)) (m := 65536) x5
  have c3 : cErr s (a + 3) 0 1 = 0 := x4
  obtain ⟨_, l3, d3⟩ := cErr_byte c3
  have p4 : q4A s (a + 3) = a + 4 := d3.trans (by omega)
  rw [p4] at t0 tm tl tt ta
  have tlt := tNum_lt s (a + 4) 0
  have tle := tAt_le (s := s) (a := a + 4) (x := 0) (by omega) (by omega)
  have tge : a + 4 ≤ tAt s (a + 4) 0 := by
    have : tAt s (a + 4) 0 = a + 4 + (vRd 10 (vBytes s (a + 4))).2.1 := if_pos rfl
    omega
  have p5 : q5A s (a + 3) = tAt s (a + 4) 0 + tNum s (a + 4) 0 := by unfold q5A; rw [p4]; exact ta
  have t5 : q5T s (a + 3) = cut s (tAt s (a + 4) 0) (tAt s (a + 4) 0 + tNum s (a + 4) 0) := by unfold q5T; rw [p4]; exact tt
  have f0 : fErr s (q5A s (a + 3)) 0 4 = 0 := by unfold q6E at g3; rw [x5] at g3; exact g3
  obtain ⟨f1, f2, f3⟩ := cut_fix (by rw [p5]; omega) f0
  have pm : pMax 65536 = 65536 := rfl
  have n6 : fNum s (q5A s (a + 3)) 0 4 = qSum s a := by rw [← g4]; unfold q6N; rw [x5]
  have psz : (q5T s (a + 3)).size = (tNum s (a + 4) 0).toNat := by
    rw [t5]
    unfold cut
    rw [ByteArray.size_extract]
    omega
  have w2 := byteAt_lt s (a + 2).toNat
  have w3 := byteAt_lt s (a + 3).toNat
  have y2 := cByte_bd s (a + 2) 0
  have y3 := cByte_bd s (a + 3) 0
  have v2 : ((UInt8.ofNat (cByte s (a + 2) 0).toNat).toNat : Int) = cByte s (a + 2) 0 := by rw [byte_nat (by omega)]; omega
  have v3 : ((UInt8.ofNat (cByte s (a + 3) 0).toNat).toNat : Int) = cByte s (a + 3) 0 := by rw [byte_nat (by omega)]; omega
  have hA := q_at g0 g1 g2
  have a6 : q6A s (a + 3) = q5A s (a + 3) + 4 := by unfold q6A; rw [x5]; exact f2
  have num : vText (q5T s (a + 3)).size = cut s (a + 4) (tAt s (a + 4) 0) := by rw [psz]; exact (cut_num (by omega) t0).symm
  have body : fBody (UInt8.ofNat (cByte s (a + 2) 0).toNat) (UInt8.ofNat (cByte s (a + 3) 0).toNat) (q5T s (a + 3)) = cut s (a + 2) (q5A s (a + 3)) := by
    have q5 : tAt s (a + 4) 0 ≤ q5A s (a + 3) := by rw [p5]; omega
    have k1 := cut_split (s := s) (i := a + 2) (j := a + 2 + 1) (k := q5A s (a + 3)) (by omega) (by omega)
    have k2 := cut_split (s := s) (i := a + 3) (j := a + 3 + 1) (k := q5A s (a + 3)) (by omega) (by omega)
    have k3 := cut_split (s := s) (i := a + 4) (j := tAt s (a + 4) 0) (k := q5A s (a + 3)) tge q5
    rw [cut_byte (by omega) l2, show a + 2 + 1 = a + 3 from by omega] at k1
    rw [cut_byte (by omega) l3, show a + 3 + 1 = a + 4 from by omega] at k2
    unfold fBody
    rw [k1, k2, k3, num, t5, p5]
  have whole : cut s a (q5A s (a + 3) + 4) = fEnc (UInt8.ofNat (cByte s (a + 2) 0).toNat) (UInt8.ofNat (cByte s (a + 3) 0).toNat) (q5T s (a + 3)) := by
    unfold fEnc
    rw [body]
    have z0 : one 215 = cut s a (a + 1) := by rw [cut_byte h0 l0, b0]; rfl
    have z1 : one 78 = cut s (a + 1) (a + 1 + 1) := by rw [cut_byte (by omega) l1, b1]; rfl
    have z6 : bText 4 (cSum (cut s (a + 2) (q5A s (a + 3))).data.toList) = cut s (q5A s (a + 3)) (q5A s (a + 3) + 4) := by
      rw [f3, n6]; rfl
    have q5 : a + 4 ≤ q5A s (a + 3) := by rw [p5]; omega
    have k0 := cut_split (s := s) (i := a) (j := a + 1) (k := q5A s (a + 3) + 4) (by omega) (by omega)
    have k1 := cut_split (s := s) (i := a + 1) (j := a + 1 + 1) (k := q5A s (a + 3) + 4) (by omega) (by omega)
    have k2 := cut_split (s := s) (i := a + 2) (j := q5A s (a + 3)) (k := q5A s (a + 3) + 4) (by omega) (by omega)
    rw [← z0] at k0
    rw [← z1, show a + 1 + 1 = a + 2 from by omega] at k1
    rw [k0, k1, k2, z6]
  refine ⟨UInt8.ofNat (cByte s (a + 2) 0).toNat, UInt8.ofNat (cByte s (a + 3) 0).toNat, q5T s (a + 3), rfl, by rw [v2]; exact b2, by rw [psz]; omega, by rw [qFr_yes h, v2, v3], by rw [hA, a6]; exact f1, ?_, by rw [hA, a6]; exact whole⟩
  have hs := congrArg ByteArray.size whole
  rw [← hs, hA, a6]
  unfold cut
  rw [ByteArray.size_extract]
  have q5 : a + 4 ≤ q5A s (a + 3) := by rw [p5]; omega
  omega
end Go.Proofs.YtaleennijfefnaaGreat
