/-
  Taking a text of frames apart, and putting it together, on texts and lists: what both come to, that what is put together is taken apart into the same, and what a beginning of a frame is. No program.
  Conditions: none beyond what each lemma states.
-/
import Derived.Test.YtaleennijfefnaaGreatRefFrame2
namespace Go.Proofs.YtaleennijfefnaaGreat
open Go.RowKit

/-! ### a text, and the same with others behind it -/
theorem cut_app {x y : ByteArray} {i j : Int} (h : j ≤ x.size) : cut (x ++ y) i j = cut x i j := by
  unfold cut
  apply ByteArray.ext
  apply Array.toList_inj.1
  rw [ByteArray.data_extract, ByteArray.data_extract, Array.toList_extract, Array.toList_extract, List.extract_eq_take_drop, List.extract_eq_take_drop, ByteArray.data_append, Array.toList_append]
  have hx : x.data.toList.length = x.size := by simp
  by_cases hi : i.toNat ≤ x.size
  · rw [List.drop_append_of_le_length (by omega), List.take_append_of_le_length]
    rw [List.length_drop]
    omega
  · have : j.toNat - i.toNat = 0 := by omega
    rw [this, List.take_zero, List.take_zero]
theorem byteAt_app {x y : ByteArray} {i : Nat} (h : i < x.size) : byteAt (x ++ y) i = byteAt x i := by
  unfold byteAt
  have hx : x.data.toList.length = x.size := by simp
  rw [ByteArray.data_append, Array.toList_append, List.getD_eq_getElem?_getD, List.getD_eq_getElem?_getD, List.getElem?_append_left (by omega)]
theorem cErr_fit {s : ByteArray} {a n : Int} (h0 : 0 ≤ n) (h : n ≤ s.size - a) : cErr s a 0 n = 0 := by unfold cErr; rw [if_neg (by decide), if_neg (by omega), if_pos h]
theorem cErr_short {s : ByteArray} {a n : Int} (h0 : 0 ≤ n) (h : ¬ n ≤ s.size - a) : cErr s a 0 n = 2 := by unfold cErr; rw [if_neg (by decide), if_neg (by omega), if_neg h]
theorem cAt_fit {s : ByteArray} {a n : Int} (h0 : 0 ≤ n) (h : n ≤ s.size - a) : cAt s a 0 n = a + n := if_pos ⟨rfl, h0, h⟩
theorem cBytes_fit {s : ByteArray} {a n : Int} (h0 : 0 ≤ n) (h : n ≤ s.size - a) : cBytes s a 0 n = cut s a (a + n) := if_pos ⟨rfl, h0, h⟩
theorem c_app {x y : ByteArray} {a n : Int} (h0 : 0 ≤ n) : cErr x a 0 n = 2 ∨
    (n ≤ x.size - a ∧ cErr x a 0 n = 0 ∧ cErr (x ++ y) a 0 n = 0 ∧ cAt (x ++ y) a 0 n = cAt x a 0 n ∧ cBytes (x ++ y) a 0 n = cBytes x a 0 n) := by
  have hs : (x ++ y).size = x.size + y.size := ByteArray.size_append
  by_cases h : n ≤ x.size - a
  · have h' : n ≤ (x ++ y).size - a := by omega
    right
    rw [cErr_fit h0 h, cErr_fit h0 h', cAt_fit h0 h, cAt_fit h0 h', cBytes_fit h0 h, cBytes_fit h0 h', cut_app (by omega)]
    exact ⟨h, rfl, rfl, rfl, rfl⟩
  · exact Or.inl (cErr_short h0 h)
theorem cByte_app {x y : ByteArray} {a : Int} (h0 : 0 ≤ a) (h : 1 ≤ (x.size : Int) - a) : cByte (x ++ y) a 0 = cByte x a 0 := by
  have hs : (x ++ y).size = x.size + y.size := ByteArray.size_append
  unfold cByte
  rw [if_pos ⟨rfl, by omega⟩, if_pos ⟨rfl, by omega⟩, byteAt_app (by omega)]
theorem mE_app {x y : ByteArray} {a c : Int} (h0 : 0 ≤ a) : mE x a 0 c = 2 ∨ (1 ≤ (x.size : Int) - a ∧ mE (x ++ y) a 0 c = mE x a 0 c ∧ cAt (x ++ y) a 0 1 = cAt x a 0 1) := by
  rcases c_app (x := x) (y := y) (a := a) (n := 1) (by decide) with h | ⟨h, h1, h2, h3, _⟩
  · left
    unfold mE
    rw [if_neg (by rw [h]; exact fun e => absurd e.1 (by decide)), h]
  · right
    unfold mE
    rw [h1, h2, cByte_app h0 h]
    exact ⟨h, rfl, h3⟩
theorem vE_app {x y : ByteArray} {a : Int} (h0 : 0 ≤ a) : vE x a = 2 ∨ (1 ≤ (x.size : Int) - a ∧ vE (x ++ y) a = vE x a ∧ cAt (x ++ y) a 0 1 = cAt x a 0 1) := by
  rcases c_app (x := x) (y := y) (a := a) (n := 1) (by decide) with h | ⟨h, h1, h2, h3, _⟩
  · left
    unfold vE
    rw [if_neg (by rw [h]; exact fun e => absurd e.1 (by decide)), h]
  · right
    unfold vE
    rw [h1, h2, cByte_app h0 h]
    exact ⟨h, rfl, h3⟩
theorem vRd_app : ∀ (k : Nat) (l r : List UInt8), (vRd k l).2.2 = 2 ∨ vRd k (l ++ r) = vRd k l
  | 0, _, _ => Or.inl rfl
  | _ + 1, [], _ => Or.inl rfl
  | k + 1, b :: l, r => by
    rcases vRd_app k l r with h | h
    · rw [List.cons_append, vRd, vRd]
      split
      · exact Or.inr rfl
      · split
        · exact Or.inr rfl
        · split
          · exact Or.inr rfl
          · exact Or.inl h
    · right
      rw [List.cons_append, vRd, vRd, h]
theorem t_app {x y : ByteArray} {a : Int} (h : a ≤ x.size) : tErr x a 0 = 2 ∨ (tErr (x ++ y) a 0 = tErr x a 0 ∧ tNum (x ++ y) a 0 = tNum x a 0 ∧ tAt (x ++ y) a 0 = tAt x a 0) := by
  have hx : x.data.toList.length = x.size := by simp
  have e : vBytes (x ++ y) a = vBytes x a ++ y.data.toList := by
    unfold vBytes
    rw [ByteArray.data_append, Array.toList_append, List.drop_append_of_le_length (by omega)]
  unfold tErr tNum tAt
  rw [e]
  rcases vRd_app 10 (vBytes x a) y.data.toList with h1 | h1
  · exact Or.inl (by rw [if_pos rfl, h1])
  · rw [h1]
    exact Or.inr ⟨rfl, rfl, rfl⟩
theorem b_app {x y : ByteArray} {a m : Int} (h : a ≤ x.size) : bErr x a 0 m = 2 ∨ (bErr (x ++ y) a 0 m = bErr x a 0 m ∧ bAt (x ++ y) a 0 m = bAt x a 0 m ∧ bTxt (x ++ y) a 0 m = bTxt x a 0 m) := by
  rcases t_app (y := y) h with h1 | ⟨h1, h2, h3⟩
  · left
    have hb : tErr x a 0 ≠ 0 := by rw [h1]; decide
    obtain ⟨q1, q2⟩ := k_err (m := m) hb
    unfold bErr
    rw [q1, q2]
    exact (cErr_bad _ hb).trans h1
  · have e1 : kErr (x ++ y) a 0 m = kErr x a 0 m := by unfold kErr; rw [h1, h2]
    have e2 : kNum (x ++ y) a 0 m = kNum x a 0 m := by unfold kNum; rw [h1, h2]
    have e0 := kNum_bd x a 0 m
    unfold bErr bAt bTxt
    rw [e1, e2, h3]
    by_cases hk : kErr x a 0 m = 0
    · rw [hk]
      rcases c_app (x := x) (y := y) (a := tAt x a 0) (n := kNum x a 0 m) e0.1 with h4 | ⟨_, h5, h6, h7, h8⟩
      · exact Or.inl h4
      · exact Or.inr ⟨h6.trans h5.symm, h7, h8⟩
    · right
      rw [cErr_bad _ hk, cErr_bad _ hk, cAt_bad _ hk, cAt_bad _ hk, cBytes_bad _ hk, cBytes_bad _ hk]
      exact ⟨rfl, rfl, rfl⟩
theorem f_app {x y : ByteArray} {a : Int} : fErr x a 0 4 = 2 ∨ (fErr (x ++ y) a 0 4 = fErr x a 0 4 ∧ fAt (x ++ y) a 0 4 = fAt x a 0 4 ∧ fNum (x ++ y) a 0 4 = fNum x a 0 4) := by
  obtain ⟨p1, p2, p3⟩ := fTake_yes (s := x) (a := a) (x := 0) (k := 4) rfl
  obtain ⟨q1, q2, q3⟩ := fTake_yes (s := x ++ y) (a := a) (x := 0) (k := 4) rfl
  rw [p1, p2, p3, q1, q2, q3]
  rcases c_app (x := x) (y := y) (a := a) (n := 4) (by decide) with h | ⟨_, h1, h2, h3, h4⟩
  · exact Or.inl h
  · rw [h1, h2, h3, h4]
    exact Or.inr ⟨rfl, rfl, rfl⟩
/-- What is read of a text is read of the same with others behind it, but that it ends too early. -/
theorem q_app (x y : ByteArray) : qErr x 0 0 = 2 ∨ (qErr (x ++ y) 0 0 = qErr x 0 0 ∧ qAt (x ++ y) 0 0 = qAt x 0 0) := by
  rcases mE_app (x := x) (y := y) (a := 0) (c := 215) (by decide) with h | ⟨l0, m0, a0⟩
  · exact Or.inl ((q_A (by rw [h]; decide)).1.trans h)
  by_cases g0 : mE x 0 0 215 = 0
  case neg =>
    have g0' : mE (x ++ y) 0 0 215 ≠ 0 := by rw [m0]; exact g0
    right
    rw [(q_A g0).1, (q_A g0).2, (q_A g0').1, (q_A g0').2, m0, a0]
    exact ⟨rfl, rfl⟩
  have g0' : mE (x ++ y) 0 0 215 = 0 := by rw [m0]; exact g0
  rcases mE_app (x := x) (y := y) (a := 0 + 1) (c := 78) (by decide) with h | ⟨l1, m1, a1⟩
  · exact Or.inl ((q_B g0 (by rw [h]; decide)).1.trans h)
  by_cases g1 : mE x (0 + 1) 0 78 = 0
  case neg =>
    have g1' : mE (x ++ y) (0 + 1) 0 78 ≠ 0 := by rw [m1]; exact g1
    right
    rw [(q_B g0 g1).1, (q_B g0 g1).2, (q_B g0' g1').1, (q_B g0' g1').2, m1, a1]
    exact ⟨rfl, rfl⟩
  have g1' : mE (x ++ y) (0 + 1) 0 78 = 0 := by rw [m1]; exact g1
  rcases vE_app (x := x) (y := y) (a := 0 + 2) (by decide) with h | ⟨l2, m2, a2⟩
  · exact Or.inl ((q_C g0 g1 (by rw [h]; decide)).1.trans h)
  by_cases g2 : vE x (0 + 2) = 0
  case neg =>
    have g2' : vE (x ++ y) (0 + 2) ≠ 0 := by rw [m2]; exact g2
    right
    rw [(q_C g0 g1 g2).1, (q_C g0 g1 g2).2, (q_C g0' g1' g2').1, (q_C g0' g1' g2').2, m2, a2]
    exact ⟨rfl, rfl⟩
  have g2' : vE (x ++ y) (0 + 2) = 0 := by rw [m2]; exact g2
  have bad : q5E x (0 + 3) = 2 → qErr x 0 0 = 2 := by
    intro h
    have h6 : q6E x (0 + 3) = 2 := by unfold q6E; rw [(f_bad (by rw [h]; decide)).2.2, h]
    exact (q_D g0 g1 g2 (by rw [h6]; decide)).trans h6
  rcases c_app (x := x) (y := y) (a := 0 + 3) (n := 1) (by decide) with h | ⟨l3, c3, d3, p3, _⟩
  · left
    refine bad ?_
    have h4 : q4E x (0 + 3) = 2 := h
    unfold q5E
    rw [(b_bad 65536 (by rw [h4]; decide)).2.2, h4]
  have A4 : q4A x (0 + 3) = 4 := cAt_fit (by decide) l3
  have A4' : q4A (x ++ y) (0 + 3) = 4 := p3.trans A4
  have E4 : q4E x (0 + 3) = 0 := c3
  have E4' : q4E (x ++ y) (0 + 3) = 0 := d3
  rcases b_app (x := x) (y := y) (a := 4) (m := 65536) (by omega) with h | ⟨b1, b2, b3⟩
  · left
    refine bad ?_
    unfold q5E
    rw [A4, E4, h]
  have E5 : q5E (x ++ y) (0 + 3) = q5E x (0 + 3) := by unfold q5E; rw [A4, E4, A4', E4', b1]
  have A5 : q5A (x ++ y) (0 + 3) = q5A x (0 + 3) := by unfold q5A; rw [A4, E4, A4', E4', b2]
  by_cases g5 : q5E x (0 + 3) = 0
  case neg =>
    have k := f_bad (s := x) (a := q5A x (0 + 3)) g5
    have k' := f_bad (s := x ++ y) (a := q5A x (0 + 3)) g5
    have h6 : q6E x (0 + 3) = q5E x (0 + 3) := k.2.2
    have h6' : q6E (x ++ y) (0 + 3) = q5E x (0 + 3) := by unfold q6E; rw [A5, E5]; exact k'.2.2
    right
    refine ⟨?_, ?_⟩
    · rw [q_D g0 g1 g2 (by rw [h6]; exact g5), q_D g0' g1' g2' (by rw [h6']; exact g5), h6, h6']
    · rw [q_at g0 g1 g2, q_at g0' g1' g2']
      unfold q6A
      rw [A5, E5, k.2.1, k'.2.1]
  have l5 : q5A x (0 + 3) ≤ x.size := by
    have g5' : bErr x 4 0 65536 = 0 := by unfold q5E at g5; rw [A4, E4] at g5; exact g5
    obtain ⟨_, _, _, i1, _, i2⟩ := blob_zero g5'
    have : q5A x (0 + 3) = bAt x 4 0 65536 := by unfold q5A; rw [A4, E4]
    omega
  rcases f_app (x := x) (y := y) (a := q5A x (0 + 3)) with h | ⟨f1, f2, f3⟩
  · left
    have h6 : q6E x (0 + 3) = 2 := by unfold q6E; rw [g5]; exact h
    exact (q_D g0 g1 g2 (by rw [h6]; decide)).trans h6
  have E6 : q6E (x ++ y) (0 + 3) = q6E x (0 + 3) := by unfold q6E; rw [A5, E5, g5]; exact f1
  have A6 : q6A (x ++ y) (0 + 3) = q6A x (0 + 3) := by unfold q6A; rw [A5, E5, g5]; exact f2
  have N6 : q6N (x ++ y) (0 + 3) = q6N x (0 + 3) := by unfold q6N; rw [A5, E5, g5]; exact f3
  have S6 : qSum (x ++ y) 0 = qSum x 0 := by unfold qSum; rw [A5, cut_app l5]
  right
  refine ⟨?_, by rw [q_at g0 g1 g2, q_at g0' g1' g2', A6]⟩
  by_cases g6 : q6E x (0 + 3) = 0
  · by_cases g7 : q6N x (0 + 3) = qSum x 0
    · rw [q_F g0 g1 g2 g6 g7, q_F g0' g1' g2' (E6.trans g6) (by rw [N6, S6, g7])]
    · rw [q_E g0 g1 g2 g6 g7, q_E g0' g1' g2' (E6.trans g6) (by rw [N6, S6]; exact g7)]
  · rw [q_D g0 g1 g2 g6, q_D g0' g1' g2' (by rw [E6]; exact g6), E6]
/-- P8.2: a text that is no beginning never becomes one frame's bytes by others behind it. -/
theorem never_more {s more : ByteArray} (h : qErr s 0 0 ≠ 2) (h0 : qErr (s ++ more) 0 0 = 0) : qLen (s ++ more) ≤ s.size := by
  rcases q_app s more with e | ⟨e1, e2⟩
  · exact absurd e h
  · unfold qLen
    rw [if_pos h0, e2]
    rw [e1] at h0
    obtain ⟨_, _, _, _, _, _, _, i, _⟩ := frame_read (by decide) h0
    exact i
theorem fEnc_reads {v k : UInt8} {p : ByteArray} (hv : qV (v.toNat : Int) = true) (hp : p.size ≤ 65536) (r : ByteArray) :
    qErr (fEnc v k p ++ r) 0 0 = 0 ∧ qFr (fEnc v k p ++ r) 0 0 = fr (v.toNat : Int) (k.toNat : Int) p ∧ qLen (fEnc v k p ++ r) = (fEnc v k p).size := by
  obtain ⟨q1, q2, q3⟩ := frame_back (T := fEnc v k p ++ r) (t := ⟨#[]⟩) (r := r) (k := k) hv hp (ByteArray.empty_append).symm
  have q0 : (((⟨#[]⟩ : ByteArray).size : Nat) : Int) = 0 := rfl
  rw [q0] at q1 q2 q3
  refine ⟨q1, q2, ?_⟩
  unfold qLen
  rw [if_pos q1, q3]
  omega
theorem app_nil (x : ByteArray) : x ++ (⟨#[]⟩ : ByteArray) = x := ByteArray.append_empty
theorem fEnc_whole {v k : UInt8} {p : ByteArray} (hv : qV (v.toNat : Int) = true) (hp : p.size ≤ 65536) : qErr (fEnc v k p) 0 0 = 0 := by
  have := (fEnc_reads (k := k) hv hp ⟨#[]⟩).1
  rwa [app_nil] at this
/-- A beginning of a frame's bytes that isn't all of them ends too early. -/
theorem fEnc_short {v k : UInt8} {p x y : ByteArray} (hv : qV (v.toNat : Int) = true) (hp : p.size ≤ 65536) (h : x ++ y = fEnc v k p) (hy : 0 < y.size) : qErr x 0 0 = 2 := by
  obtain ⟨h1, _, h2⟩ := fEnc_reads (k := k) hv hp ⟨#[]⟩
  rw [app_nil, ← h] at h1 h2
  rcases q_app x y with e | ⟨e1, e2⟩
  · exact e
  · refine absurd h2 ?_
    have h3 : qErr x 0 0 = 0 := e1.symm.trans h1
    obtain ⟨_, _, _, _, _, _, _, i, _⟩ := frame_read (by decide) h3
    have : qLen (x ++ y) = qAt x 0 0 := by unfold qLen; rw [if_pos h1, e2]
    rw [this, ByteArray.size_append]
    omega
theorem extract_app {x : ByteArray} {i : Nat} (h : i ≤ x.size) : x.extract 0 i ++ x.extract i x.size = x := by
  apply ByteArray.ext
  apply Array.toList_inj.1
  rw [ByteArray.data_append, Array.toList_append, ByteArray.data_extract, ByteArray.data_extract, Array.toList_extract, Array.toList_extract, List.extract_eq_take_drop, List.extract_eq_take_drop]
  have hx : x.data.toList.length = x.size := by simp
  rw [List.drop_zero, Nat.sub_zero, List.take_of_length_le (l := List.drop i _) (by rw [List.length_drop]; omega), List.take_append_drop]
theorem fEnc_begins {v k : UInt8} {p : ByteArray} (hv : qV (v.toNat : Int) = true) (hp : p.size ≤ 65536) {i : Nat} (hi : i < (fEnc v k p).size) : qErr ((fEnc v k p).extract 0 i) 0 0 = 2 :=
  fEnc_short hv hp (extract_app (by omega)) (by rw [ByteArray.size_extract]; omega)
theorem nil_short : qErr ⟨#[]⟩ 0 0 = 2 := by
  refine fEnc_short (v := 1) (k := 0) (p := ⟨#[]⟩) rfl (by decide) (ByteArray.empty_append) ?_
  rw [fEnc_size]
  omega

/-! ### frames -/
structure Fr where
  v : UInt8
  k : UInt8
  p : ByteArray
def Fr.val (f : Fr) : Value := fr (f.v.toNat : Int) (f.k.toNat : Int) f.p
def Fr.cells (f : Fr) : List Value := [.int .u8 (f.v.toNat : Int), .int .u8 (f.k.toNat : Int), .string f.p]
def Fr.ok (f : Fr) : Prop := qV (f.v.toNat : Int) = true ∧ f.p.size ≤ 65536
def Fr.enc (f : Fr) : ByteArray := fEnc f.v f.k f.p
/-- The frame that a text begins with; how many bytes it takes; what is behind it. -/
def sFr (s : ByteArray) : Fr := ⟨UInt8.ofNat (qVer s 0 0).toNat, UInt8.ofNat (qKind s 0 0).toNat, qTxt s 0 0⟩
def sN (s : ByteArray) : Nat := (qLen s).toNat
def sRest (s : ByteArray) : ByteArray := s.extract (sN s) s.size
theorem sFr_val (s : ByteArray) : qFr s 0 0 = (sFr s).val := by
  have h1 : 0 ≤ qVer s 0 0 ∧ qVer s 0 0 ≤ 255 := by
    have := cByte_bd s (0 + 2) 0
    unfold qVer
    split <;> omega
  have h2 : 0 ≤ qKind s 0 0 ∧ qKind s 0 0 ≤ 255 := by
    have := cByte_bd s (0 + 3) 0
    unfold qKind
    split <;> omega
  unfold qFr Fr.val sFr
  rw [byte_nat (by omega), byte_nat (by omega)]
  congr 1 <;> omega
theorem s_step {s : ByteArray} (h : qErr s 0 0 = 0) : qLen s = (sN s : Int) ∧ 9 ≤ sN s ∧ sN s ≤ s.size := by
  obtain ⟨v, k, p, _, _, _, _, i, j, _⟩ := frame_read (by decide) h
  have e : qLen s = qAt s 0 0 := if_pos h
  have := fEnc_size v k p
  have hv : 1 ≤ (vText p.size).size := by rw [vText_size]; exact vEnc_len_pos _
  unfold sN
  omega
theorem sRest_size {s : ByteArray} : (sRest s).size = s.size - sN s := by
  unfold sRest
  rw [ByteArray.size_extract]
  omega
def sErr (s : ByteArray) : Int := if qErr s 0 0 = 2 then 0 else qErr s 0 0
/-- A text taken apart: its frames and the places at which they begin, how many bytes are left, the error. -/
def sGo : Nat → ByteArray → Nat → List (Fr × Nat) × Nat × Int
  | 0, s, _ => ([], s.size, 0)
  | k + 1, s, a => if qErr s 0 0 = 0 then ((sFr s, a) :: (sGo k (sRest s) (a + sN s)).1, (sGo k (sRest s) (a + sN s)).2) else ([], s.size, sErr s)
def sAll (s : ByteArray) : List (Fr × Nat) × Nat × Int := sGo (s.size + 1) s 0
theorem sGo_more {k : Nat} {s : ByteArray} {a : Nat} (h : qErr s 0 0 = 0) : sGo (k + 1) s a = ((sFr s, a) :: (sGo k (sRest s) (a + sN s)).1, (sGo k (sRest s) (a + sN s)).2) := if_pos h
theorem sGo_stop {k : Nat} {s : ByteArray} {a : Nat} (h : qErr s 0 0 ≠ 0) : sGo (k + 1) s a = ([], s.size, sErr s) := if_neg h
/-- On the way: these are taken, this text is behind them, here. -/
structure SAt (s : ByteArray) (acc : List (Fr × Nat)) (r : ByteArray) (a : Nat) : Prop where
  size : a + r.size = s.size
  text : r = s.extract a s.size
  len : acc.length ≤ a
  way : ∃ k, r.size < k ∧ sAll s = (acc ++ (sGo k r a).1, (sGo k r a).2)
theorem SAt.zero (s : ByteArray) : SAt s [] s 0 := ⟨by omega, by simp, Nat.le_refl _, s.size + 1, by omega, rfl⟩
theorem extract_extract' (s : ByteArray) (a n : Nat) : (s.extract a s.size).extract n (s.extract a s.size).size = s.extract (a + n) s.size := by
  apply ByteArray.ext
  apply Array.toList_inj.1
  rw [ByteArray.size_extract]
  simp only [ByteArray.data_extract, Array.toList_extract, List.extract_eq_take_drop]
  have hs : s.data.toList.length = s.size := by simp
  rw [List.take_of_length_le (l := List.drop a _) (by rw [List.length_drop]; omega), List.drop_drop, List.take_of_length_le (by rw [List.length_drop]; omega), List.take_of_length_le (by rw [List.length_drop]; omega)]
theorem SAt.rest {s : ByteArray} {acc : List (Fr × Nat)} {r : ByteArray} {a : Nat} (h : SAt s acc r a) : sRest r = s.extract (a + sN r) s.size := by
  unfold sRest
  rw [h.text, extract_extract']
theorem SAt.more {s : ByteArray} {acc : List (Fr × Nat)} {r : ByteArray} {a : Nat} (h : SAt s acc r a) (h0 : qErr r 0 0 = 0) : SAt s (acc ++ [(sFr r, a)]) (sRest r) (a + sN r) := by
  obtain ⟨_, h1, h2⟩ := s_step h0
  have hz := sRest_size (s := r)
  have hs := h.size
  have hl := h.len
  refine ⟨by omega, h.rest, by rw [List.length_append, List.length_singleton]; omega, ?_⟩
  obtain ⟨k, hk, he⟩ := h.way
  obtain ⟨k, rfl⟩ : ∃ k', k = k' + 1 := ⟨k - 1, by omega⟩
  rw [sGo_more h0] at he
  exact ⟨k, by omega, by rw [he, List.append_assoc]; rfl⟩
theorem SAt.stop {s : ByteArray} {acc : List (Fr × Nat)} {r : ByteArray} {a : Nat} (h : SAt s acc r a) (h0 : qErr r 0 0 ≠ 0) : sAll s = (acc, r.size, sErr r) := by
  obtain ⟨k, hk, he⟩ := h.way
  obtain ⟨k, rfl⟩ : ∃ k', k = k' + 1 := ⟨k - 1, by omega⟩
  rw [sGo_stop h0, List.append_nil] at he
  exact he
theorem SAt.done {s : ByteArray} {acc : List (Fr × Nat)} {r : ByteArray} {a : Nat} (h : SAt s acc r a) (h0 : r.size = 0) : sAll s = (acc, 0, 0) := by
  have e : r = ⟨#[]⟩ := ByteArray.ext (Array.eq_empty_of_size_eq_zero h0)
  rw [h.stop (by rw [e, nil_short]; decide), h0]
  unfold sErr
  rw [e, nil_short]
  rfl

/-! ### putting together -/
def jTxt : List Fr → ByteArray
  | [] => ⟨#[]⟩
  | f :: r => f.enc ++ jTxt r
def jGo (i : Nat) (t : ByteArray) : List Fr → ByteArray × Nat × Int
  | [] => (t, 0, 0)
  | f :: r => if eErr7 f.v f.p = 0 then jGo (i + 1) (t ++ f.enc) r else (⟨#[]⟩, i, eErr7 f.v f.p)
def jAll (l : List Fr) : ByteArray × Nat × Int := jGo 0 ⟨#[]⟩ l
theorem e7_zero {v : UInt8} {p : ByteArray} (h : eErr7 v p = 0) : qV (v.toNat : Int) = true ∧ p.size ≤ 65536 := by
  unfold eErr7 at h
  cases hv : qV (v.toNat : Int) with
  | false => rw [hv, if_pos rfl] at h; exact absurd h (by decide)
  | true =>
    rw [hv, if_neg (by decide)] at h
    refine ⟨rfl, ?_⟩
    refine Decidable.byContradiction fun hp => ?_
    rw [if_pos (by omega)] at h
    exact absurd h (by decide)
theorem jGo_ok : ∀ (l : List Fr) (i : Nat) (t : ByteArray), (jGo i t l).2.2 = 0 → (∀ f ∈ l, f.ok) ∧ (jGo i t l).1 = t ++ jTxt l
  | [], _, t, _ => ⟨by simp, (app_nil t).symm⟩
  | f :: r, i, t, h => by
    by_cases hf : eErr7 f.v f.p = 0
    · rw [jGo, if_pos hf] at h ⊢
      obtain ⟨h1, h2⟩ := jGo_ok r (i + 1) (t ++ f.enc) h
      refine ⟨?_, by rw [h2, jTxt, ByteArray.append_assoc]⟩
      intro g hg
      rcases List.mem_cons.1 hg with rfl | hg
      · exact e7_zero hf
      · exact h1 g hg
    · rw [jGo, if_neg hf] at h
      exact absurd h hf
theorem fr_inj {v k v' k' : Int} {p p' : ByteArray} (h : fr v k p = fr v' k' p') : v = v' ∧ k = k' ∧ p = p' := by
  unfold fr at h
  injection h with h
  simp only [Array.mk.injEq, List.cons.injEq, Value.int.injEq, Value.string.injEq, true_and, and_true] at h
  exact h
theorem u8_back (c : UInt8) : UInt8.ofNat ((c.toNat : Int)).toNat = c := by rw [Int.toNat_natCast]; simp
theorem sFr_back {f : Fr} (h : f.ok) (r : ByteArray) : qErr (f.enc ++ r) 0 0 = 0 ∧ sFr (f.enc ++ r) = f ∧ sN (f.enc ++ r) = f.enc.size ∧ sRest (f.enc ++ r) = r := by
  obtain ⟨h1, h2, h3⟩ := fEnc_reads (k := f.k) h.1 h.2 r
  have h2' : fr (qVer (f.enc ++ r) 0 0) (qKind (f.enc ++ r) 0 0) (qTxt (f.enc ++ r) 0 0) = fr (f.v.toNat : Int) (f.k.toNat : Int) f.p := h2
  obtain ⟨e1, e2, e3⟩ := fr_inj h2'
  have hN : sN (f.enc ++ r) = f.enc.size := by
    unfold sN
    have : qLen (f.enc ++ r) = f.enc.size := h3
    omega
  refine ⟨h1, ?_, hN, ?_⟩
  · unfold sFr
    rw [e1, e2, e3, u8_back, u8_back]
  · unfold sRest
    rw [hN]
    apply ByteArray.ext
    apply Array.toList_inj.1
    rw [ByteArray.data_extract, Array.toList_extract, List.extract_eq_take_drop, ByteArray.data_append, Array.toList_append]
    have hx : f.enc.data.toList.length = f.enc.size := by simp
    have hy : r.data.toList.length = r.size := by simp
    rw [← hx, List.drop_left, List.take_of_length_le]
    rw [ByteArray.size_append]
    omega
theorem sGo_join : ∀ (l : List Fr) (k a : Nat), (∀ f ∈ l, f.ok) → (jTxt l).size < k → (sGo k (jTxt l) a).1.map (·.1) = l ∧ (sGo k (jTxt l) a).2 = (0, 0)
  | [], k, a, _, hk => by
    obtain ⟨k, rfl⟩ : ∃ k', k = k' + 1 := ⟨k - 1, by omega⟩
    show (sGo (k + 1) ⟨#[]⟩ a).1.map (·.1) = [] ∧ (sGo (k + 1) ⟨#[]⟩ a).2 = (0, 0)
    rw [sGo_stop (by rw [nil_short]; decide)]
    refine ⟨rfl, ?_⟩
    show (0, sErr ⟨#[]⟩) = (0, 0)
    unfold sErr
    rw [nil_short]
    rfl
  | f :: r, k, a, h, hk => by
    obtain ⟨k, rfl⟩ : ∃ k', k = k' + 1 := ⟨k - 1, by omega⟩
    have hf := h f List.mem_cons_self
    obtain ⟨h1, h2, h3, h4⟩ := sFr_back hf (jTxt r)
    rw [jTxt, sGo_more h1, h2, h3, h4]
    have hs : (jTxt (f :: r)).size = f.enc.size + (jTxt r).size := ByteArray.size_append
    have h0 : 0 < f.enc.size := by
      unfold Fr.enc
      rw [fEnc_size]
      omega
    obtain ⟨i1, i2⟩ := sGo_join r k (a + f.enc.size) (fun g hg => h g (List.mem_cons_of_mem _ hg)) (by omega)
    exact ⟨by rw [List.map_cons, i1], i2⟩
theorem join_back {l : List Fr} (h : (jAll l).2.2 = 0) : (sAll (jAll l).1).1.map (·.1) = l ∧ (sAll (jAll l).1).2 = (0, 0) := by
  obtain ⟨h1, h2⟩ := jGo_ok l 0 ⟨#[]⟩ h
  have h3 : (jAll l).1 = jTxt l := h2.trans ByteArray.empty_append
  rw [h3]
  exact sGo_join l _ 0 h1 (by omega)
theorem enc_size {f : Fr} (h : f.p.size ≤ 300) : f.enc.size ≤ 311 := by
  have h3 : (vEnc f.p.size).length ≤ 2 + 1 := vEnc_len_lt 2 f.p.size (by omega)
  unfold Fr.enc
  rw [fEnc_size, vText_size]
  omega
/-- On the way: so many are put together, to this text. -/
structure JAt (l : List Fr) (i : Nat) (t : ByteArray) : Prop where
  size : t.size ≤ 311 * i
  way : jAll l = jGo i t (l.drop i)
theorem JAt.zero (l : List Fr) : JAt l 0 ⟨#[]⟩ := ⟨Nat.zero_le _, rfl⟩
theorem JAt.more {l : List Fr} {i : Nat} {t : ByteArray} (h : JAt l i t) (hi : i < l.length) (h3 : l[i].p.size ≤ 300) (h0 : eErr7 l[i].v l[i].p = 0) : JAt l (i + 1) (t ++ l[i].enc) := by
  have := enc_size h3
  have hs := h.size
  refine ⟨by rw [ByteArray.size_append]; omega, ?_⟩
  rw [h.way, List.drop_eq_getElem_cons hi, jGo, if_pos h0]
theorem JAt.bad {l : List Fr} {i : Nat} {t : ByteArray} (h : JAt l i t) (hi : i < l.length) (h0 : eErr7 l[i].v l[i].p ≠ 0) : jAll l = (⟨#[]⟩, i, eErr7 l[i].v l[i].p) := by
  rw [h.way, List.drop_eq_getElem_cons hi, jGo, if_neg h0]
theorem JAt.done {l : List Fr} {t : ByteArray} (h : JAt l l.length t) : jAll l = (t, 0, 0) := by
  rw [h.way, List.drop_length, jGo]
theorem jAll_size {l : List Fr} (h : ∀ f ∈ l, f.p.size ≤ 300) : (jAll l).1.size ≤ 311 * l.length := by
  have go : ∀ (r : List Fr) (i : Nat) (t : ByteArray), (∀ f ∈ r, f.p.size ≤ 300) → (jGo i t r).1.size ≤ t.size + 311 * r.length := by
    intro r
    induction r with
    | nil => intro i t _; exact Nat.le_refl _
    | cons f r ih =>
      intro i t hr
      rw [jGo]
      split
      · have := ih (i + 1) (t ++ f.enc) (fun g hg => hr g (List.mem_cons_of_mem _ hg))
        have := enc_size (hr f List.mem_cons_self)
        rw [ByteArray.size_append] at *
        rw [List.length_cons]
        omega
      · exact Nat.zero_le _
  have := go l 0 ⟨#[]⟩ h
  have e : (⟨#[]⟩ : ByteArray).size = 0 := rfl
  rw [e] at this
  unfold jAll
  omega
end Go.Proofs.YtaleennijfefnaaGreat
