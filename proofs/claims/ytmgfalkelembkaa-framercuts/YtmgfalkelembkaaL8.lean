/-
  The texts Split, SplitMem, Build, SplitFns, SplitTop, RefSplit, SplitJoin of this seat, one behind the other.
  Conditions: as each says.
-/
import Derived.Test.YtmgfalkelembkaaL7a
import Derived.Laws.AppendOwn
import Derived.Test.YtmgfalkelembkaaL1
import Derived.Shelf.Strings.Builder1
import Derived.Test.YtmgfalkelembkaaL7b
import Derived.Deep.DeepAppendWide
/-
  Taking a text of frames apart, and putting it together, on texts and lists: what both come to, that what is put together is taken apart into the same, and what a beginning of a frame is. No program.
  Conditions: none beyond what each lemma states.
-/
namespace Go.Proofs.Ytmgfalkelembkaa
open Go.RowKit

/-! ### a text, and the same with others behind it -/
theorem cut_app {x y : ByteArray} {i j : Int} (h : j ≤ x.size) : cut (x ++ y) i j = cut x i j := by
  unfold cut
  apply ByteArray.ext
  apply Array.toList_inj.1
  rw [ByteArray.data_extract, ByteArray.data_extract, Array.toList_extract, Array.toList_extract, List.extract_eq_take_drop, List.extract_eq_take_drop, ByteArray.data_append, Array.toList_append]
  have hx : x.data.toList.length = x.size := by simp
  by_cases hi : i.toNat ≤ x.size
  · rw [List.drop_append_of_le_length (by omega), List.take_append_of_le_length]
    rw [List.length_drop]
    omega
  · have : j.toNat - i.toNat = 0 := by omega
    rw [this, List.take_zero, List.take_zero]
theorem byteAt_app {x y : ByteArray} {i : Nat} (h : i < x.size) : byteAt (x ++ y) i = byteAt x i := by
  unfold byteAt
  have hx : x.data.toList.length = x.size := by simp
  rw [ByteArray.data_append, Array.toList_append, List.getD_eq_getElem?_getD, List.getD_eq_getElem?_getD, List.getElem?_append_left (by omega)]
theorem cErr_fit {s : ByteArray} {a n : Int} (h0 : 0 ≤ n) (h : n ≤ s.size - a) : cErr s a 0 n = 0 := by unfold cErr; rw [if_neg (by decide), if_neg (by omega), if_pos h]
theorem cErr_short {s : ByteArray} {a n : Int} (h0 : 0 ≤ n) (h : ¬ n ≤ s.size - a) : cErr s a 0 n = 2 := by unfold cErr; rw [if_neg (by decide), if_neg (by omega), if_neg h]
theorem cAt_fit {s : ByteArray} {a n : Int} (h0 : 0 ≤ n) (h : n ≤ s.size - a) : cAt s a 0 n = a + n := if_pos ⟨rfl, h0, h⟩
theorem cBytes_fit {s : ByteArray} {a n : Int} (h0 : 0 ≤ n) (h : n ≤ s.size - a) : cBytes s a 0 n = cut s a (a + n) := if_pos ⟨rfl, h0, h⟩
theorem c_app {x y : ByteArray} {a n : Int} (h0 : 0 ≤ n) : cErr x a 0 n = 2 ∨
    (n ≤ x.size - a ∧ cErr x a 0 n = 0 ∧ cErr (x ++ y) a 0 n = 0 ∧ cAt (x ++ y) a 0 n = cAt x a 0 n ∧ cBytes (x ++ y) a 0 n = cBytes x a 0 n) := by
  have hs : (x ++ y).size = x.size + y.size := ByteArray.size_append
  by_cases h : n ≤ x.size - a
  · have h' : n ≤ (x ++ y).size - a := by omega
    right
    rw [cErr_fit h0 h, cErr_fit h0 h', cAt_fit h0 h, cAt_fit h0 h', cBytes_fit h0 h, cBytes_fit h0 h', cut_app (by omega)]
    exact ⟨h, rfl, rfl, rfl, rfl⟩
  · exact Or.inl (cErr_short h0 h)
theorem cByte_app {x y : ByteArray} {a : Int} (h0 : 0 ≤ a) (h : 1 ≤ (x.size : Int) - a) : cByte (x ++ y) a 0 = cByte x a 0 := by
  have hs : (x ++ y).size = x.size + y.size := ByteArray.size_append
  unfold cByte
  rw [if_pos ⟨rfl, by omega⟩, if_pos ⟨rfl, by omega⟩, byteAt_app (by omega)]
theorem mE_app {x y : ByteArray} {a c : Int} (h0 : 0 ≤ a) : mE x a 0 c = 2 ∨ (1 ≤ (x.size : Int) - a ∧ mE (x ++ y) a 0 c = mE x a 0 c ∧ cAt (x ++ y) a 0 1 = cAt x a 0 1) := by
  rcases c_app (x := x) (y := y) (a := a) (n := 1) (by decide) with h | ⟨h, h1, h2, h3, _⟩
  · left
    unfold mE
    rw [if_neg (by rw [h]; exact fun e => absurd e.1 (by decide)), h]
  · right
    unfold mE
    rw [h1, h2, cByte_app h0 h]
    exact ⟨h, rfl, h3⟩
theorem vE_app {x y : ByteArray} {a : Int} (h0 : 0 ≤ a) : vE x a = 2 ∨ (1 ≤ (x.size : Int) - a ∧ vE (x ++ y) a = vE x a ∧ cAt (x ++ y) a 0 1 = cAt x a 0 1) := by
  rcases c_app (x := x) (y := y) (a := a) (n := 1) (by decide) with h | ⟨h, h1, h2, h3, _⟩
  · left
    unfold vE
    rw [if_neg (by rw [h]; exact fun e => absurd e.1 (by decide)), h]
  · right
    unfold vE
    rw [h1, h2, cByte_app h0 h]
    exact ⟨h, rfl, h3⟩
theorem vRd_app : ∀ (k : Nat) (l r : List UInt8), (vRd k l).2.2 = 2 ∨ vRd k (l ++ r) = vRd k l
  | 0, _, _ => Or.inl rfl
  | _ + 1, [], _ => Or.inl rfl
  | k + 1, b :: l, r => by
    rcases vRd_app k l r with h | h
    · rw [List.cons_append, vRd, vRd]
      split
      · exact Or.inr rfl
      · split
        · exact Or.inr rfl
        · split
          · exact Or.inr rfl
          · exact Or.inl h
    · right
      rw [List.cons_append, vRd, vRd, h]
theorem t_app {x y : ByteArray} {a : Int} (h : a ≤ x.size) : tErr x a 0 = 2 ∨ (tErr (x ++ y) a 0 = tErr x a 0 ∧ tNum (x ++ y) a 0 = tNum x a 0 ∧ tAt (x ++ y) a 0 = tAt x a 0) := by
  have hx : x.data.toList.length = x.size := by simp
  have e : vBytes (x ++ y) a = vBytes x a ++ y.data.toList := by
    unfold vBytes
    rw [ByteArray.data_append, Array.toList_append, List.drop_append_of_le_length (by omega)]
  unfold tErr tNum tAt
  rw [e]
  rcases vRd_app 10 (vBytes x a) y.data.toList with h1 | h1
  · exact Or.inl (by rw [if_pos rfl, h1])
  · rw [h1]
    exact Or.inr ⟨rfl, rfl, rfl⟩
theorem b_app {x y : ByteArray} {a m : Int} (h : a ≤ x.size) : bErr x a 0 m = 2 ∨ (bErr (x ++ y) a 0 m = bErr x a 0 m ∧ bAt (x ++ y) a 0 m = bAt x a 0 m ∧ bTxt (x ++ y) a 0 m = bTxt x a 0 m) := by
  rcases t_app (y := y) h with h1 | ⟨h1, h2, h3⟩
  · left
    have hb : tErr x a 0 ≠ 0 := by rw [h1]; decide
    obtain ⟨q1, q2⟩ := k_err (m := m) hb
    unfold bErr
    rw [q1, q2]
    exact (cErr_bad _ hb).trans h1
  · have e1 : kErr (x ++ y) a 0 m = kErr x a 0 m := by unfold kErr; rw [h1, h2]
    have e2 : kNum (x ++ y) a 0 m = kNum x a 0 m := by unfold kNum; rw [h1, h2]
    have e0 := kNum_bd x a 0 m
    unfold bErr bAt bTxt
    rw [e1, e2, h3]
    by_cases hk : kErr x a 0 m = 0
    · rw [hk]
      rcases c_app (x := x) (y := y) (a := tAt x a 0) (n := kNum x a 0 m) e0.1 with h4 | ⟨_, h5, h6, h7, h8⟩
      · exact Or.inl h4
      · exact Or.inr ⟨h6.trans h5.symm, h7, h8⟩
    · right
      rw [cErr_bad _ hk, cErr_bad _ hk, cAt_bad _ hk, cAt_bad _ hk, cBytes_bad _ hk, cBytes_bad _ hk]
      exact ⟨rfl, rfl, rfl⟩
theorem f_app {x y : ByteArray} {a : Int} : fErr x a 0 4 = 2 ∨ (fErr (x ++ y) a 0 4 = fErr x a 0 4 ∧ fAt (x ++ y) a 0 4 = fAt x a 0 4 ∧ fNum (x ++ y) a 0 4 = fNum x a 0 4) := by
  obtain ⟨p1, p2, p3⟩ := fTake_yes (s := x) (a := a) (x := 0) (k := 4) rfl
  obtain ⟨q1, q2, q3⟩ := fTake_yes (s := x ++ y) (a := a) (x := 0) (k := 4) rfl
  rw [p1, p2, p3, q1, q2, q3]
  rcases c_app (x := x) (y := y) (a := a) (n := 4) (by decide) with h | ⟨_, h1, h2, h3, h4⟩
  · exact Or.inl h
  · rw [h1, h2, h3, h4]
    exact Or.inr ⟨rfl, rfl, rfl⟩
/-- What is read of a text is read of the same with others behind it, but that it ends too early. -/
theorem q_app (x y : ByteArray) : qErr x 0 0 = 2 ∨ (qErr (x ++ y) 0 0 = qErr x 0 0 ∧ qAt (x ++ y) 0 0 = qAt x 0 0) := by
  rcases mE_app (x := x) (y := y) (a := 0) (c := 215) (by decide) with h | ⟨l0, m0, a0⟩
  · exact Or.inl ((q_A (by rw [h]; decide)).1.trans h)
  by_cases g0 : mE x 0 0 215 = 0
  case neg =>
    have g0' : mE (x ++ y) 0 0 215 ≠ 0 := by rw [m0]; exact g0
    right
    rw [(q_A g0).1, (q_A g0).2, (q_A g0').1, (q_A g0').2, m0, a0]
    exact ⟨rfl, rfl⟩
  have g0' : mE (x ++ y) 0 0 215 = 0 := by rw [m0]; exact g0
  rcases mE_app (x := x) (y := y) (a := 0 + 1) (c := 78) (by decide) with h | ⟨l1, m1, a1⟩
  · exact Or.inl ((q_B g0 (by rw [h]; decide)).1.trans h)
  by_cases g1 : mE x (0 + 1) 0 78 = 0
  case neg =>
    have g1' : mE (x ++ y) (0 + 1) 0 78 ≠ 0 := by rw [m1]; exact g1
    right
    rw [(q_B g0 g1).1, (q_B g0 g1).2, (q_B g0' g1').1, (q_B g0' g1').2, m1, a1]
    exact ⟨rfl, rfl⟩
  have g1' : mE (x ++ y) (0 + 1) 0 78 = 0 := by rw [m1]; exact g1
  rcases vE_app (x := x) (y := y) (a := 0 + 2) (by decide) with h | ⟨l2, m2, a2⟩
  · exact Or.inl ((q_C g0 g1 (by rw [h]; decide)).1.trans h)
  by_cases g2 : vE x (0 + 2) = 0
  case neg =>
    have g2' : vE (x ++ y) (0 + 2) ≠ 0 := by rw [m2]; exact g2
    right
    rw [(q_C g0 g1 g2).1, (q_C g0 g1 g2).2, (q_C g0' g1' g2').1, (q_C g0' g1' g2').2, m2, a2]
    exact ⟨rfl, rfl⟩
  have g2' : vE (x ++ y) (0 + 2) = 0 := by rw [m2]; exact g2
  have bad : q5E x (0 + 3) = 2 → qErr x 0 0 = 2 := by
    intro h
    have h6 : q6E x (0 + 3) = 2 := by unfold q6E; rw [(f_bad (by rw [h]; decide)).2.2, h]
    exact (q_D g0 g1 g2 (by rw [h6]; decide)).trans h6
  rcases c_app (x := x) (y := y) (a := 0 + 3) (n := 1) (by decide) with h | ⟨l3, c3, d3, p3, _⟩
  · left
    refine bad ?_
    have h4 : q4E x (0 + 3) = 2 := h
    unfold q5E
    rw [(b_bad 65536 (by rw [h4]; decide)).2.2, h4]
  have A4 : q4A x (0 + 3) = 4 := cAt_fit (by decide) l3
  have A4' : q4A (x ++ y) (0 + 3) = 4 := p3.trans A4
  have E4 : q4E x (0 + 3) = 0 := c3
  have E4' : q4E (x ++ y) (0 + 3) = 0 := d3
  rcases b_app (x := x) (y := y) (a := 4) (m := 65536) (by omega) with h | ⟨b1, b2, b3⟩
  · left
    refine bad ?_
    unfold q5E
    rw [A4, E4, h]
  have E5 : q5E (x ++ y) (0 + 3) = q5E x (0 + 3) := by unfold q5E; rw [A4, E4, A4', E4', b1]
  have A5 : q5A (x ++ y) (0 + 3) = q5A x (0 + 3) := by unfold q5A; rw [A4, E4, A4', E4', b2]
  by_cases g5 : q5E x (0 + 3) = 0
  case neg =>
    have k := f_bad (s := x) (a := q5A x (0 + 3)) g5
    have k' := f_bad (s := x ++ y) (a := q5A x (0 + 3)) g5
    have h6 : q6E x (0 + 3) = q5E x (0 + 3) := k.2.2
    have h6' : q6E (x ++ y) (0 + 3) = q5E x (0 + 3) := by unfold q6E; rw [A5, E5]; exact k'.2.2
    right
    refine ⟨?_, ?_⟩
    · rw [q_D g0 g1 g2 (by rw [h6]; exact g5), q_D g0' g1' g2' (by rw [h6']; exact g5), h6, h6']
    · rw [q_at g0 g1 g2, q_at g0' g1' g2']
      unfold q6A
      rw [A5, E5, k.2.1, k'.2.1]
  have l5 : q5A x (0 + 3) ≤ x.size := by
    have g5' : bErr x 4 0 65536 = 0 := by unfold q5E at g5; rw [A4, E4] at g5; exact g5
    obtain ⟨_, _, _, i1, _, i2⟩ := blob_zero g5'
    have : q5A x (0 + 3) = bAt x 4 0 65536 := by unfold q5A; rw [A4, E4]
    omega
  rcases f_app (x := x) (y := y) (a := q5A x (0 + 3)) with h | ⟨f1, f2, f3⟩
  · left
    have h6 : q6E x (0 + 3) = 2 := by unfold q6E; rw [g5]; exact h
    exact (q_D g0 g1 g2 (by rw [h6]; decide)).trans h6
  have E6 : q6E (x ++ y) (0 + 3) = q6E x (0 + 3) := by unfold q6E; rw [A5, E5, g5]; exact f1
  have A6 : q6A (x ++ y) (0 + 3) = q6A x (0 + 3) := by unfold q6A; rw [A5, E5, g5]; exact f2
  have N6 : q6N (x ++ y) (0 + 3) = q6N x (0 + 3) := by unfold q6N; rw [A5, E5, g5]; exact f3
  have S6 : qSum (x ++ y) 0 = qSum x 0 := by unfold qSum; rw [A5, cut_app l5]
  right
  refine ⟨?_, by rw [q_at g0 g1 g2, q_at g0' g1' g2', A6]⟩
  by_cases g6 : q6E x (0 + 3) = 0
  · by_cases g7 : q6N x (0 + 3) = qSum x 0
    · rw [q_F g0 g1 g2 g6 g7, q_F g0' g1' g2' (E6.trans g6) (by rw [N6, S6, g7])]
    · rw [q_E g0 g1 g2 g6 g7, q_E g0' g1' g2' (E6.trans g6) (by rw [N6, S6]; exact g7)]
  · rw [q_D g0 g1 g2 g6, q_D g0' g1' g2' (by rw [E6]; exact g6), E6]
/-- P8.2: a text that is no beginning never becomes one frame's bytes by others behind it. -/
theorem never_more {s more : ByteArray} (h : qErr s 0 0 ≠ 2) (h0 : qErr (s ++ more) 0 0 = 0) : qLen (s ++ more) ≤ s.size := by
  rcases q_app s more with e | ⟨e1, e2⟩
  · exact absurd e h
  · unfold qLen
    rw [if_pos h0, e2]
    rw [e1] at h0
    obtain ⟨_, _, _, _, _, _, _, i, _⟩ := frame_read (by decide) h0
    exact i
theorem fEnc_reads {v k : UInt8} {p : ByteArray} (hv : qV (v.toNat : Int) = true) (hp : p.size ≤ 65536) (r : ByteArray) :
    qErr (fEnc v k p ++ r) 0 0 = 0 ∧ qFr (fEnc v k p ++ r) 0 0 = fr (v.toNat : Int) (k.toNat : Int) p ∧ qLen (fEnc v k p ++ r) = (fEnc v k p).size := by
  obtain ⟨q1, q2, q3⟩ := frame_back (T := fEnc v k p ++ r) (t := ⟨#[]⟩) (r := r) (k := k) hv hp (ByteArray.empty_append).symm
  have q0 : (((⟨#[]⟩ : ByteArray).size : Nat) : Int) = 0 := rfl
  rw [q0] at q1 q2 q3
  refine ⟨q1, q2, ?_⟩
  unfold qLen
  rw [if_pos q1, q3]
  omega
theorem app_nil (x : ByteArray) : x ++ (⟨#[]⟩ : ByteArray) = x := ByteArray.append_empty
theorem fEnc_whole {v k : UInt8} {p : ByteArray} (hv : qV (v.toNat : Int) = true) (hp : p.size ≤ 65536) : qErr (fEnc v k p) 0 0 = 0 := by
  have := (fEnc_reads (k := k) hv hp ⟨#[]⟩).1
  rwa [app_nil] at this
/-- A beginning of a frame's bytes that isn't all of them ends too early. -/
theorem fEnc_short {v k : UInt8} {p x y : ByteArray} (hv : qV (v.toNat : Int) = true) (hp : p.size ≤ 65536) (h : x ++ y = fEnc v k p) (hy : 0 < y.size) : qErr x 0 0 = 2 := by
  obtain ⟨h1, _, h2⟩ := fEnc_reads (k := k) hv hp ⟨#[]⟩
  rw [app_nil, ← h] at h1 h2
  rcases q_app x y with e | ⟨e1, e2⟩
  · exact e
  · refine absurd h2 ?_
    have h3 : qErr x 0 0 = 0 := e1.symm.trans h1
    obtain ⟨_, _, _, _, _, _, _, i, _⟩ := frame_read (by decide) h3
    have : qLen (x ++ y) = qAt x 0 0 := by unfold qLen; rw [if_pos h1, e2]
    rw [this, ByteArray.size_append]
    omega
theorem extract_app {x : ByteArray} {i : Nat} (h : i ≤ x.size) : x.extract 0 i ++ x.extract i x.size = x := by
  apply ByteArray.ext
  apply Array.toList_inj.1
  rw [ByteArray.data_append, Array.toList_append, ByteArray.data_extract, ByteArray.data_extract, Array.toList_extract, Array.toList_extract, List.extract_eq_take_drop, List.extract_eq_take_drop]
  have hx : x.data.toList.length = x.size := by simp
  rw [List.drop_zero, Nat.sub_zero, List.take_of_length_le (l := List.drop i _) (by rw [List.length_drop]; omega), List.take_append_drop]
theorem fEnc_begins {v k : UInt8} {p : ByteArray} (hv : qV (v.toNat : Int) = true) (hp : p.size ≤ 65536) {i : Nat} (hi : i < (fEnc v k p).size) : qErr ((fEnc v k p).extract 0 i) 0 0 = 2 :=
  fEnc_short hv hp (extract_app (by omega)) (by rw [ByteArray.size_extract]; omega)
theorem nil_short : qErr ⟨#[]⟩ 0 0 = 2 := by
  refine fEnc_short (v := 1) (k := 0) (p := ⟨#[]⟩) rfl (by decide) (ByteArray.empty_append) ?_
  rw [fEnc_size]
  omega

/-! ### frames -/
structure Fr where
  v : UInt8
  k : UInt8
  p : ByteArray
def Fr.val (f : Fr) : Value := fr (f.v.toNat : Int) (f.k.toNat : Int) f.p
def Fr.cells (f : Fr) : List Value := [.int .u8 (f.v.toNat : Int), .int .u8 (f.k.toNat : Int), .string f.p]
def Fr.ok (f : Fr) : Prop := qV (f.v.toNat : Int) = true ∧ f.p.size ≤ 65536
def Fr.enc (f : Fr) : ByteArray := fEnc f.v f.k f.p
/-- The frame that a text begins with; how many bytes it takes; what is behind it. -/
def sFr (s : ByteArray) : Fr := ⟨UInt8.ofNat (qVer s 0 0).toNat, UInt8.ofNat (qKind s 0 0).toNat, qTxt s 0 0⟩
def sN (s : ByteArray) : Nat := (qLen s).toNat
def sRest (s : ByteArray) : ByteArray := s.extract (sN s) s.size
theorem sFr_val (s : ByteArray) : qFr s 0 0 = (sFr s).val := by
  have h1 : 0 ≤ qVer s 0 0 ∧ qVer s 0 0 ≤ 255 := by
    have := cByte_bd s (0 + 2) 0
    unfold qVer
    split <;> omega
  have h2 : 0 ≤ qKind s 0 0 ∧ qKind s 0 0 ≤ 255 := by
    have := cByte_bd s (0 + 3) 0
    unfold qKind
    split <;> omega
  unfold qFr Fr.val sFr
  rw [byte_nat (by omega), byte_nat (by omega)]
  congr 1 <;> omega
theorem s_step {s : ByteArray} (h : qErr s 0 0 = 0) : qLen s = (sN s : Int) ∧ 9 ≤ sN s ∧ sN s ≤ s.size := by
  obtain ⟨v, k, p, _, _, _, _, i, j, _⟩ := frame_read (by decide) h
  have e : qLen s = qAt s 0 0 := if_pos h
  have := fEnc_size v k p
  have hv : 1 ≤ (vText p.size).size := by rw [vText_size]; exact vEnc_len_pos _
  unfold sN
  omega
theorem sRest_size {s : ByteArray} : (sRest s).size = s.size - sN s := by
  unfold sRest
  rw [ByteArray.size_extract]
  omega
def sErr (s : ByteArray) : Int := if qErr s 0 0 = 2 then 0 else qErr s 0 0
/-- A text taken apart: its frames and the places at which they begin, how many bytes are left, the error. -/
def sGo : Nat → ByteArray → Nat → List (Fr × Nat) × Nat × Int
  | 0, s, _ => ([], s.size, 0)
  | k + 1, s, a => if qErr s 0 0 = 0 then ((sFr s, a) :: (sGo k (sRest s) (a + sN s)).1, (sGo k (sRest s) (a + sN s)).2) else ([], s.size, sErr s)
def sAll (s : ByteArray) : List (Fr × Nat) × Nat × Int := sGo (s.size + 1) s 0
theorem sGo_more {k : Nat} {s : ByteArray} {a : Nat} (h : qErr s 0 0 = 0) : sGo (k + 1) s a = ((sFr s, a) :: (sGo k (sRest s) (a + sN s)).1, (sGo k (sRest s) (a + sN s)).2) := if_pos h
theorem sGo_stop {k : Nat} {s : ByteArray} {a : Nat} (h : qErr s 0 0 ≠ 0) : sGo (k + 1) s a = ([], s.size, sErr s) := if_neg h
/-- On the way: these are taken, this text is behind them, here. -/
structure SAt (s : ByteArray) (acc : List (Fr × Nat)) (r : ByteArray) (a : Nat) : Prop where
  size : a + r.size = s.size
  text : r = s.extract a s.size
  len : acc.length ≤ a
  way : ∃ k, r.size < k ∧ sAll s = (acc ++ (sGo k r a).1, (sGo k r a).2)
theorem SAt.zero (s : ByteArray) : SAt s [] s 0 := ⟨by omega, by simp, Nat.le_refl _, s.size + 1, by omega, rfl⟩
theorem extract_extract' (s : ByteArray) (a n : Nat) : (s.extract a s.size).extract n (s.extract a s.size).size = s.extract (a + n) s.size := by
  apply ByteArray.ext
  apply Array.toList_inj.1
  rw [ByteArray.size_extract]
  simp only [ByteArray.data_extract, Array.toList_extract, List.extract_eq_take_drop]
  have hs : s.data.toList.length = s.size := by simp
  rw [List.take_of_length_le (l := List.drop a _) (by rw [List.length_drop]; omega), List.drop_drop, List.take_of_length_le (by rw [List.length_drop]; omega), List.take_of_length_le (by rw [List.length_drop]; omega)]
theorem SAt.rest {s : ByteArray} {acc : List (Fr × Nat)} {r : ByteArray} {a : Nat} (h : SAt s acc r a) : sRest r = s.extract (a + sN r) s.size := by
  unfold sRest
  rw [h.text, extract_extract']
theorem SAt.more {s : ByteArray} {acc : List (Fr × Nat)} {r : ByteArray} {a : Nat} (h : SAt s acc r a) (h0 : qErr r 0 0 = 0) : SAt s (acc ++ [(sFr r, a)]) (sRest r) (a + sN r) := by
  obtain ⟨_, h1, h2⟩ := s_step h0
  have hz := sRest_size (s := r)
  have hs := h.size
  have hl := h.len
  refine ⟨by omega, h.rest, by rw [List.length_append, List.length_singleton]; omega, ?_⟩
  obtain ⟨k, hk, he⟩ := h.way
  obtain ⟨k, rfl⟩ : ∃ k', k = k' + 1 := ⟨k - 1, by omega⟩
  rw [sGo_more h0] at he
  exact ⟨k, by omega, by rw [he, List.append_assoc]; rfl⟩
theorem SAt.stop {s : ByteArray} {acc : List (Fr × Nat)} {r : ByteArray} {a : Nat} (h : SAt s acc r a) (h0 : qErr r 0 0 ≠ 0) : sAll s = (acc, r.size, sErr r) := by
  obtain ⟨k, hk, he⟩ := h.way
  obtain ⟨k, rfl⟩ : ∃ k', k = k' + 1 := ⟨k - 1, by omega⟩
  rw [sGo_stop h0, List.append_nil] at he
  exact he
theorem SAt.done {s : ByteArray} {acc : List (Fr × Nat)} {r : ByteArray} {a : Nat} (h : SAt s acc r a) (h0 : r.size = 0) : sAll s = (acc, 0, 0) := by
  have e : r = ⟨#[]⟩ := ByteArray.ext (Array.eq_empty_of_size_eq_zero h0)
  rw [h.stop (by rw [e, nil_short]; decide), h0]
  unfold sErr
  rw [e, nil_short]
  rfl

/-! ### putting together -/
def jTxt : List Fr → ByteArray
  | [] => ⟨#[]⟩
  | f :: r => f.enc ++ jTxt r
def jGo (i : Nat) (t : ByteArray) : List Fr → ByteArray × Nat × Int
  | [] => (t, 0, 0)
  | f :: r => if eErr7 f.v f.p = 0 then jGo (i + 1) (t ++ f.enc) r else (⟨#[]⟩, i, eErr7 f.v f.p)
def jAll (l : List Fr) : ByteArray × Nat × Int := jGo 0 ⟨#[]⟩ l
theorem e7_zero {v : UInt8} {p : ByteArray} (h : eErr7 v p = 0) : qV (v.toNat : Int) = true ∧ p.size ≤ 65536 := by
  unfold eErr7 at h
  cases hv : qV (v.toNat : Int) with
  | false => rw [hv, if_pos rfl] at h; exact absurd h (by decide)
  | true =>
    rw [hv, if_neg (by decide)] at h
    refine ⟨rfl, ?_⟩
    refine Decidable.byContradiction fun hp => ?_
    rw [if_pos (by omega)] at h
    exact absurd h (by decide)
theorem jGo_ok : ∀ (l : List Fr) (i : Nat) (t : ByteArray), (jGo i t l).2.2 = 0 → (∀ f ∈ l, f.ok) ∧ (jGo i t l).1 = t ++ jTxt l
  | [], _, t, _ => ⟨by simp, (app_nil t).symm⟩
  | f :: r, i, t, h => by
    by_cases hf : eErr7 f.v f.p = 0
    · rw [jGo, if_pos hf] at h ⊢
      obtain ⟨h1, h2⟩ := jGo_ok r (i + 1) (t ++ f.enc) h
      refine ⟨?_, by rw [h2, jTxt, ByteArray.append_assoc]⟩
      intro g hg
      rcases List.mem_cons.1 hg with rfl | hg
      · exact e7_zero hf
      · exact h1 g hg
    · rw [jGo, if_neg hf] at h
      exact absurd h hf
theorem fr_inj {v k v' k' : Int} {p p' : ByteArray} (h : fr v k p = fr v' k' p') : v = v' ∧ k = k' ∧ p = p' := by
  unfold fr at h
  injection h with h
  simp only [Array.mk.injEq, List.cons.injEq, Value.int.injEq, Value.string.injEq, true_and, and_true] at h
  exact h
theorem u8_back (c : UInt8) : UInt8.ofNat ((c.toNat : Int)).toNat = c := by rw [Int.toNat_natCast]; simp
theorem sFr_back {f : Fr} (h : f.ok) (r : ByteArray) : qErr (f.enc ++ r) 0 0 = 0 ∧ sFr (f.enc ++ r) = f ∧ sN (f.enc ++ r) = f.enc.size ∧ sRest (f.enc ++ r) = r := by
  obtain ⟨h1, h2, h3⟩ := fEnc_reads (k := f.k) h.1 h.2 r
  have h2' : fr (qVer (f.enc ++ r) 0 0) (qKind (f.enc ++ r) 0 0) (qTxt (f.enc ++ r) 0 0) = fr (f.v.toNat : Int) (f.k.toNat : Int) f.p := h2
  obtain ⟨e1, e2, e3⟩ := fr_inj h2'
  have hN : sN (f.enc ++ r) = f.enc.size := by
    unfold sN
    have : qLen (f.enc ++ r) = f.enc.size := h3
    omega
  refine ⟨h1, ?_, hN, ?_⟩
  · unfold sFr
    rw [e1, e2, e3, u8_back, u8_back]
  · unfold sRest
    rw [hN]
    apply ByteArray.ext
    apply Array.toList_inj.1
    rw [ByteArray.data_extract, Array.toList_extract, List.extract_eq_take_drop, ByteArray.data_append, Array.toList_append]
    have hx : f.enc.data.toList.length = f.enc.size := by simp
    have hy : r.data.toList.length = r.size := by simp
    rw [← hx, List.drop_left, List.take_of_length_le]
    rw [ByteArray.size_append]
    omega
theorem sGo_join : ∀ (l : List Fr) (k a : Nat), (∀ f ∈ l, f.ok) → (jTxt l).size < k → (sGo k (jTxt l) a).1.map (·.1) = l ∧ (sGo k (jTxt l) a).2 = (0, 0)
  | [], k, a, _, hk => by
    obtain ⟨k, rfl⟩ : ∃ k', k = k' + 1 := ⟨k - 1, by omega⟩
    show (sGo (k + 1) ⟨#[]⟩ a).1.map (·.1) = [] ∧ (sGo (k + 1) ⟨#[]⟩ a).2 = (0, 0)
    rw [sGo_stop (by rw [nil_short]; decide)]
    refine ⟨rfl, ?_⟩
    show (0, sErr ⟨#[]⟩) = (0, 0)
    unfold sErr
    rw [nil_short]
    rfl
  | f :: r, k, a, h, hk => by
    obtain ⟨k, rfl⟩ : ∃ k', k = k' + 1 := ⟨k - 1, by omega⟩
    have hf := h f List.mem_cons_self
    obtain ⟨h1, h2, h3, h4⟩ := sFr_back hf (jTxt r)
    rw [jTxt, sGo_more h1, h2, h3, h4]
    have hs : (jTxt (f :: r)).size = f.enc.size + (jTxt r).size := ByteArray.size_append
    have h0 : 0 < f.enc.size := by
      unfold Fr.enc
      rw [fEnc_size]
      omega
    obtain ⟨i1, i2⟩ := sGo_join r k (a + f.enc.size) (fun g hg => h g (List.mem_cons_of_mem _ hg)) (by omega)
    exact ⟨by rw [List.map_cons, i1], i2⟩
theorem join_back {l : List Fr} (h : (jAll l).2.2 = 0) : (sAll (jAll l).1).1.map (·.1) = l ∧ (sAll (jAll l).1).2 = (0, 0) := by
  obtain ⟨h1, h2⟩ := jGo_ok l 0 ⟨#[]⟩ h
  have h3 : (jAll l).1 = jTxt l := h2.trans ByteArray.empty_append
  rw [h3]
  exact sGo_join l _ 0 h1 (by omega)
theorem enc_size {f : Fr} (h : f.p.size ≤ 300) : f.enc.size ≤ 311 := by
  have h3 : (vEnc f.p.size).length ≤ 2 + 1 := vEnc_len_lt 2 f.p.size (by omega)
  unfold Fr.enc
  rw [fEnc_size, vText_size]
  omega
/-- On the way: so many are put together, to this text. -/
structure JAt (l : List Fr) (i : Nat) (t : ByteArray) : Prop where
  size : t.size ≤ 311 * i
  way : jAll l = jGo i t (l.drop i)
theorem JAt.zero (l : List Fr) : JAt l 0 ⟨#[]⟩ := ⟨Nat.zero_le _, rfl⟩
theorem JAt.more {l : List Fr} {i : Nat} {t : ByteArray} (h : JAt l i t) (hi : i < l.length) (h3 : l[i].p.size ≤ 300) (h0 : eErr7 l[i].v l[i].p = 0) : JAt l (i + 1) (t ++ l[i].enc) := by
  have := enc_size h3
  have hs := h.size
  refine ⟨by rw [ByteArray.size_append]; omega, ?_⟩
  rw [h.way, List.drop_eq_getElem_cons hi, jGo, if_pos h0]
theorem JAt.bad {l : List Fr} {i : Nat} {t : ByteArray} (h : JAt l i t) (hi : i < l.length) (h0 : eErr7 l[i].v l[i].p ≠ 0) : jAll l = (⟨#[]⟩, i, eErr7 l[i].v l[i].p) := by
  rw [h.way, List.drop_eq_getElem_cons hi, jGo, if_neg h0]
theorem JAt.done {l : List Fr} {t : ByteArray} (h : JAt l l.length t) : jAll l = (t, 0, 0) := by
  rw [h.way, List.drop_length, jGo]
theorem jAll_size {l : List Fr} (h : ∀ f ∈ l, f.p.size ≤ 300) : (jAll l).1.size ≤ 311 * l.length := by
  have go : ∀ (r : List Fr) (i : Nat) (t : ByteArray), (∀ f ∈ r, f.p.size ≤ 300) → (jGo i t r).1.size ≤ t.size + 311 * r.length := by
    intro r
    induction r with
    | nil => intro i t _; exact Nat.le_refl _
    | cons f r ih =>
      intro i t hr
      rw [jGo]
      split
      · have := ih (i + 1) (t ++ f.enc) (fun g hg => hr g (List.mem_cons_of_mem _ hg))
        have := enc_size (hr f List.mem_cons_self)
        rw [ByteArray.size_append] at *
        rw [List.length_cons]
        omega
      · exact Nat.zero_le _
  have := go l 0 ⟨#[]⟩ h
  have e : (⟨#[]⟩ : ByteArray).size = 0 := rfl
  rw [e] at this
  unfold jAll
  omega
end Go.Proofs.Ytmgfalkelembkaa
/-
  Lists of frames, and of places, in memory; and the document's comparison of two of them.
  Conditions: none beyond what each lemma states.
-/
namespace Go.Proofs.Ytmgfalkelembkaa
open Go.RowKit

def FramesAt (w : World) (ao : Option Addr) (l : List Fr) : Prop := ∀ i (hi : i < l.length), ∃ b off, ao = some ⟨b, off, none⟩ ∧
  w.cell? ⟨b, off + i * 3, none⟩ = some (.int .u8 (l[i].v.toNat : Int)) ∧ w.cell? ⟨b, off + i * 3 + 1, none⟩ = some (.int .u8 (l[i].k.toNat : Int)) ∧ w.cell? ⟨b, off + i * 3 + 2, none⟩ = some (.string l[i].p)
def NatsAt (w : World) (ao : Option Addr) (l : List Nat) : Prop := ∀ i (hi : i < l.length), ∃ b off, ao = some ⟨b, off, none⟩ ∧ w.cell? ⟨b, off + i, none⟩ = some (.int .i64 (l[i] : Int))
/-- No block of R is the slice's. -/
def Apart (R : Nat → Prop) (ao : Option Addr) : Prop := ∀ b off m, ao = some ⟨b, off, m⟩ → ¬ R b
theorem FramesAt.keep {R : Nat → Prop} {w w' : World} {ao : Option Addr} {l : List Fr} (h : FramesAt w ao l) (K : Keep R w w') (hn : Apart R ao) : FramesAt w' ao l := by
  intro i hi
  obtain ⟨b, off, e, h1, h2, h3⟩ := h i hi
  have hb := hn _ _ _ e
  exact ⟨b, off, e, K.cell h1 hb, K.cell h2 hb, K.cell h3 hb⟩
theorem NatsAt.keep {R : Nat → Prop} {w w' : World} {ao : Option Addr} {l : List Nat} (h : NatsAt w ao l) (K : Keep R w w') (hn : Apart R ao) : NatsAt w' ao l := by
  intro i hi
  obtain ⟨b, off, e, h1⟩ := h i hi
  exact ⟨b, off, e, K.cell h1 (hn _ _ _ e)⟩
theorem FramesAt.keep0 {w w' : World} {ao : Option Addr} {l : List Fr} (h : FramesAt w ao l) (K : Keep0 w w') : FramesAt w' ao l := h.keep K (fun _ _ _ _ f => f)
theorem NatsAt.keep0 {w w' : World} {ao : Option Addr} {l : List Nat} (h : NatsAt w ao l) (K : Keep0 w w') : NatsAt w' ao l := h.keep K (fun _ _ _ _ f => f)

/-! ### rows -/
def frCells (l : List Fr) : List Value := l.flatMap Fr.cells
def natCells (l : List Nat) : List Value := l.map fun (n : Nat) => .int .i64 (n : Int)
theorem frCells_len (l : List Fr) : (frCells l).length = l.length * 3 := by
  induction l with
  | nil => rfl
  | cons f l ih =>
    show (f.cells ++ frCells l).length = _
    rw [List.length_append, ih, List.length_cons]
    show 3 + _ = _
    omega
theorem frCells_app (l r : List Fr) : frCells (l ++ r) = frCells l ++ frCells r := List.flatMap_append
theorem frCells_get : ∀ (l : List Fr) (i : Nat) (hi : i < l.length) (j : Nat), j < 3 → (frCells l)[i * 3 + j]? = l[i].cells[j]?
  | f :: l, 0, _, j, hj => by
    show (f.cells ++ frCells l)[0 * 3 + j]? = f.cells[j]?
    rw [Nat.zero_mul, Nat.zero_add, List.getElem?_append_left (by show j < 3; exact hj)]
  | f :: l, i + 1, hi, j, hj => by
    have hi' : i < l.length := by simpa using hi
    have ih := frCells_get l i hi' j hj
    show (f.cells ++ frCells l)[(i + 1) * 3 + j]? = l[i].cells[j]?
    have e : f.cells.length = 3 := rfl
    rw [List.getElem?_append_right (by rw [e]; omega), e, show (i + 1) * 3 + j - 3 = i * 3 + j from by omega, ih]
theorem frames_of_row {w : World} {B : Nat} {e : TypeId} {v : Value} {n : Nat} {l : List Fr} (h : w.ownsRow B e 3 v n (frCells l)) :
    ∃ ao cap, v = .slice ao l.length cap ∧ FramesAt w ao l ∧ (∀ b off m, ao = some ⟨b, off, m⟩ → B ≤ b) := by
  have hn : n = l.length := by have := h.1; rw [frCells_len] at this; omega
  subst hn
  rcases h.2 with ⟨rfl, h0⟩ | ⟨g, cap, cur, rfl, hb, hrest⟩
  · refine ⟨none, 0, by rw [h0], fun i hi => by omega, fun b off m e => by cases e⟩
  · refine ⟨some ⟨g, 0, none⟩, cap, rfl, fun i hi => ⟨g, 0, rfl, ?_⟩, fun b off m e => by cases e; exact hb⟩
    have hc := h.cells (g := g) rfl
    have k : ∀ j u, j < 3 → l[i].cells[j]? = some u → w.cell? ⟨g, 0 + i * 3 + j, none⟩ = some u := by
      intro j u hj hu
      have := hc (i * 3 + j) u ((frCells_get l i hi j hj).trans hu)
      rwa [add_plain, ← Nat.add_assoc] at this
    exact ⟨k 0 _ (by decide) rfl, k 1 _ (by decide) rfl, k 2 _ (by decide) rfl⟩
theorem nats_of_row {w : World} {B : Nat} {e : TypeId} {v : Value} {n : Nat} {l : List Nat} (h : w.ownsRow B e 1 v n (natCells l)) :
    ∃ ao cap, v = .slice ao l.length cap ∧ NatsAt w ao l ∧ (∀ b off m, ao = some ⟨b, off, m⟩ → B ≤ b) := by
  have hn : n = l.length := by have := h.1; unfold natCells at this; rw [List.length_map] at this; omega
  subst hn
  rcases h.2 with ⟨rfl, h0⟩ | ⟨g, cap, cur, rfl, hb, hrest⟩
  · refine ⟨none, 0, by rw [h0], fun i hi => by omega, fun b off m e => by cases e⟩
  · refine ⟨some ⟨g, 0, none⟩, cap, rfl, fun i hi => ⟨g, 0, rfl, ?_⟩, fun b off m e => by cases e; exact hb⟩
    have hc := h.cells (g := g) rfl i (.int .i64 (l[i] : Int)) (by unfold natCells; rw [List.getElem?_map, List.getElem?_eq_getElem hi]; rfl)
    rwa [add_plain] at hc
/-- A row that the call owns stays so. -/
theorem row_keep {R : Nat → Prop} {w w' : World} {B : Nat} {e : TypeId} {sz : Nat} {v : Value} {n : Nat} {xs : List Value} (h : w.ownsRow B e sz v n xs) (K : Keep R w w') (hn : ∀ k, B ≤ k → ¬ R k) : w'.ownsRow B e sz v n xs := by
  refine ⟨h.1, ?_⟩
  rcases h.2 with h0 | ⟨g, cap, cur, e1, hb, hg, rest⟩
  · exact .inl h0
  · exact .inr ⟨g, cap, cur, e1, hb, (K.block g (Array.getElem?_eq_some_iff.1 hg).1 (hn g hb)).trans hg, rest⟩

/-! ### the document's comparisons -/
set_option maxRecDepth 100000 in
theorem same_yes (w : World) (ao bo : Option Addr) (ca cb : Nat) (l : List Fr) (hl : l.length ≤ maxLen) (ha : FramesAt w ao l) (hb : FramesAt w bo l) :
    Calls Try.prog 13 #[.slice ao l.length ca, .slice bo l.length cb] w fun e w' => e = .returned (.bool true) ∧ ∃ n, w' = w.drewN n := by
  have hl' : (l.length : Int) ≤ 9223372036854775807 := by unfold maxLen at hl; omega
  have HA : Hid (FramesAt w ao l) := ha
  have HB : Hid (FramesAt w bo l) := hb
  clear ha hb
  go_enter Try.func13, Try.ntmps13
  go_wp2_with fail
  go_loopw [5] (fun i wr => ∃ (k : Nat), k ≤ l.length ∧ i = .int .i64 k ∧ ∃ n, wr = w.drewN n) (fun i _ => l.length - (intOf i).toNat)
  case atStart => exact ⟨0, by omega, rfl, 0, rfl⟩
  case round =>
    obtain ⟨k, hk, rfl, hWr⟩ := hrel
    have kr := keepN hWr
    have HW : Hid (∃ n, wr = w.drewN n) := hWr
    clear hWr
    by_cases hlt : k < l.length
    · obtain ⟨b1, o1, rfl, x0, x1, x2⟩ := HA.out k hlt
      obtain ⟨b2, o2, rfl, y0, y1, y2⟩ := HB.out k hlt
      have x0 := kr.cell x0 (fun f => f)
      have x1 := kr.cell x1 (fun f => f)
      have x2 := kr.cell x2 (fun f => f)
      have y0 := kr.cell y0 (fun f => f)
      have y1 := kr.cell y1 (fun f => f)
      have y2 := kr.cell y2 (fun f => f)
      have i1 : (k : Int) < l.length := by omega
      generalize (l[k].v.toNat : Int) = V at *
      generalize (l[k].k.toNat : Int) = KD at *
      generalize l[k].p = T at *
      clear HA HB kr
      go_wp2_with fail
      go_quiet (fail)
      go_wp2
      go_roundw
      case rel => exact ⟨k + 1, by omega, by go_num, drewN_on HW.out _⟩
      case measure => simp [intOf]; omega
    · have i1 : ¬ (k : Int) < l.length := by omega
      go_wp2
      go_ret
      exact ⟨rfl, HW.out⟩
end Go.Proofs.Ytmgfalkelembkaa
/-
  Contracts of strings.Builder's WriteString and String, of a builder that the call itself has made.
  Conditions: what it holds takes at most 2^47 bytes.
-/
namespace Go.Proofs.Ytmgfalkelembkaa
open Go.RowKit Go.Shelf

theorem cells_text (t : ByteArray) : Lib.strCells t = Lib.byteCells t.data.toList := rfl
/-! ### writing -/
theorem Keep.bGrown {w w' : World} {B : Nat} {row : Option Nat} (g : w.grownBy w' row) (h : ∀ k, row = some k → B ≤ k) : KeepFrom B w w' :=
  ⟨g.os, g.tape, g.output, g.size, fun k hk hn => g.block k hk (fun e => hn (h k e.symm))⟩
theorem cells_app (s t : ByteArray) : Lib.strCells s ++ Lib.strCells t = Lib.strCells (s ++ t) := by
  unfold Lib.strCells
  rw [ByteArray.data_append, Array.toList_append, List.map_append]
end Go.Proofs.Ytmgfalkelembkaa
/-
  Contracts of package split's functions, each proved over this seat's translation: the closures of All and Starts, apart, All, Starts, Begins.
  Conditions: the text takes at most 1,000,000 bytes.
-/
namespace Go.Proofs.Ytmgfalkelembkaa
open Go.RowKit

/-- At block c lies a slice of frames that the call owns; its row lies at B or above. -/
structure AccF (w : World) (B c : Nat) (l : List Fr) : Prop where
  lt : c < B
  at_ : ∃ v, w.heap[c]? = some (.cells #[v] 26 (0, 0)) ∧ w.ownsRow B 46 3 v l.length (frCells l)
theorem AccF.keep {R : Nat → Prop} {w w' : World} {B c : Nat} {l : List Fr} (h : AccF w B c l) (K : Keep R w w') (hc : ¬ R c) (hn : ∀ k, B ≤ k → ¬ R k) : AccF w' B c l := by
  obtain ⟨v, hv, ho⟩ := h.at_
  exact ⟨h.lt, v, (K.block c (Array.getElem?_eq_some_iff.1 hv).1 hc).trans hv, row_keep ho K hn⟩
theorem Keep.grown {w w' : World} {B : Nat} {row : Option Nat} (g : w.grownBy w' row) (h : ∀ k, row = some k → B ≤ k) : KeepFrom B w w' :=
  ⟨g.os, g.tape, g.output, g.size, fun k hk hn => g.block k hk (fun e => hn (h k e.symm))⟩
theorem own_ne {w : World} {B c : Nat} {e : TypeId} {sz n : Nat} {v : Value} {xs : List Value} (h : w.ownsRow B e sz v n xs) (hc : c < B) : v.ownBlock ≠ some c := fun e => by have := (h.lt c e).1; omega
theorem slice_of_own {w : World} {B : Nat} {e : TypeId} {sz n : Nat} {v : Value} {xs : List Value} (h : w.ownsRow B e sz v n xs) : ∃ ao n' cap, v = .slice ao n' cap := by
  rcases h.2 with ⟨e, _⟩ | ⟨_, _, _, e, _⟩
  · exact ⟨_, _, _, e⟩
  · exact ⟨_, _, _, e⟩
theorem frame_info : (Try.prog.info? 46).map (fun i => (i.zero, i.size, i.bytes)) = some (some (.agg #[.int .u8 0, .int .u8 0, .string ⟨#[]⟩]), 3, 24) := by kernel_rfl
theorem int_info : (Try.prog.info? 3).map (fun i => (i.zero, i.size, i.bytes)) = some (some (.int .i64 0), 1, 8) := by kernel_rfl
theorem fcells_new {w : World} {t : TypeId} (f : Fr) : ∀ j u, f.cells[j]? = some u → (w.alloc (.cells #[.int .u8 (f.v.toNat : Int), .int .u8 (f.k.toNat : Int), .string f.p] t)).cell? ((⟨w.heap.size, 0, none⟩ : Addr).add j) = some u := by
  intro j u hu
  rw [add_plain, Nat.zero_add]
  refine cell_alloc w t ?_
  rw [← hu]
  exact List.getElem?_toArray
set_option maxRecDepth 100000 in
theorem allTell {w : World} {B c : Nat} {l : List Fr} (h : AccF w B c l) (hB : B ≤ w.heap.size) (f : Fr) (a : Int) (hl : l.length ≤ 1000000) :
    Calls Try.prog 30 #[.int .i64 a, f.val, ptr c] w fun e w' => e = .returned (.tuple #[]) ∧ AccF w' B c (l ++ [f]) ∧ Keep (fun k => k = c ∨ B ≤ k) w w' := by
  obtain ⟨hcB, v, hv, ho⟩ := h
  have hc : c < w.heap.size := by omega
  obtain ⟨i0, hi, z0, z1, z2⟩ := info_parts frame_info
  unfold Fr.val fr
  have x0 : w.cell? ⟨c, 0, none⟩ = some v := cell_of_one hv
  have kW := ((Keep.refl (fun _ => False) w).alloc (.cells #[.int .u8 (f.v.toNat : Int), .int .u8 (f.k.toNat : Int), .string f.p] 46)).alloc (.cells #[.int .u8 (f.v.toNat : Int), .int .u8 (f.k.toNat : Int), .string f.p] 46)
  have hn := fcells_new (w := w.alloc (.cells #[.int .u8 (f.v.toNat : Int), .int .u8 (f.k.toNat : Int), .string f.p] 46)) (t := 46) f
  rw [World.size_alloc] at hn
  have hoW := row_keep ho kW (fun _ _ f => f)
  have hvW := (kW.block c hc (fun f => f)).trans hv
  go_enter Try.func30, Try.ntmps30
  go_wp2_with (at_builtin; refine wpList_append_own_wide _ rfl _ _ 26 rfl B 46 i0 _ 3 24 Try.underlying26 hi z0 z1 z2 rfl (by decide) _ _ _ rfl hoW ⟨w.heap.size + 1, 0, none⟩ 1 1 f.cells rfl rfl hn ?c1 ?c2 ?c3 ?c4 ?_)
  case c1 => intro u hu; simp only [Fr.cells, List.mem_cons, List.mem_nil_iff, or_false] at hu; rcases hu with rfl | rfl | rfl <;> rfl
  case c2 => unfold maxLen; omega
  case c3 => omega
  case c4 => have := kW.size; omega
  intro v' w2 ho' hg _
  have hne := own_ne hoW hcB
  have hne' := own_ne ho' hcB
  have hv2 := (hg.block c (by have := kW.size; omega) (fun e => hne e.symm)).trans hvW
  have d1 : w2.cell? ⟨c, 0, none⟩ = some v := cell_of_one hv2
  have d2 : w2.frozen? ⟨c, 0, none⟩ = false := free_of_one hv2
  have K2 := (kW.any (R := fun k => k = c ∨ B ≤ k)).trans ((Keep.grown hg (fun k hk => (hoW.lt k hk).1)).mono (fun k _ h => Or.inr h))
  have L : (l ++ [f]).length = l.length + 1 := by rw [List.length_append]; rfl
  obtain ⟨ao, n', cap, rfl⟩ := slice_of_own ho'
  clear hn hoW hvW kW x0 hg hv hne z0 z1 z2 hi
  go_wp2
  go_end0
  refine ⟨rfl, ⟨hcB, _, one_setCell hv2, ?_⟩, K2.setCell (fun _ => Or.inl rfl) _⟩
  rw [L, frCells_app]
  exact ownsRow_setCell_other ho' hne' _

structure AccN (w : World) (B c : Nat) (l : List Nat) : Prop where
  lt : c < B
  at_ : ∃ v, w.heap[c]? = some (.cells #[v] 37 (0, 0)) ∧ w.ownsRow B 3 1 v l.length (natCells l)
theorem AccN.keep {R : Nat → Prop} {w w' : World} {B c : Nat} {l : List Nat} (h : AccN w B c l) (K : Keep R w w') (hc : ¬ R c) (hn : ∀ k, B ≤ k → ¬ R k) : AccN w' B c l := by
  obtain ⟨v, hv, ho⟩ := h.at_
  exact ⟨h.lt, v, (K.block c (Array.getElem?_eq_some_iff.1 hv).1 hc).trans hv, row_keep ho K hn⟩
theorem ncell_new {w : World} {t : TypeId} (a : Nat) : ∀ j u, (natCells [a])[j]? = some u → (w.alloc (.cells #[.int .i64 (a : Int)] t)).cell? ((⟨w.heap.size, 0, none⟩ : Addr).add j) = some u := by
  intro j u hu
  rw [add_plain, Nat.zero_add]
  refine cell_alloc w t ?_
  rw [← hu]
  exact List.getElem?_toArray
theorem natCells_app (l r : List Nat) : natCells (l ++ r) = natCells l ++ natCells r := List.map_append
/-! ### apart -/
def txtOf : Value → ByteArray
  | .string s => s
  | _ => ⟨#[]⟩
def frsOf (l : List (Fr × Nat)) : List Fr := l.map (·.1)
def natsOf (l : List (Fr × Nat)) : List Nat := l.map (·.2)
theorem frsOf_len (l : List (Fr × Nat)) : (frsOf l).length = l.length := List.length_map _
theorem natsOf_len (l : List (Fr × Nat)) : (natsOf l).length = l.length := List.length_map _
set_option maxRecDepth 100000 in
set_option maxHeartbeats 4000000 in
theorem apartF {w : World} {c : Nat} (hc : w.heap[c]? = some (.cells #[.slice none 0 0] 26 (0, 0))) (s : ByteArray) (hs : s.size ≤ 1000000) :
    Calls Try.prog 29 #[.string s, .func (.func 30) #[] #[ptr c]] w fun e w' => e = .returned (.tuple #[.int .i64 ((sAll s).2.1 : Int), .int .i64 (sAll s).2.2]) ∧ AccF w' (w.heap.size + 1) c (frsOf (sAll s).1) ∧ Keep1 c w w' := by
  have HS : Hid (s.size ≤ 1000000) := hs
  have hs1 : (s.size : Int) ≤ 9223372036854775807 := by omega
  have hc0 : c < w.heap.size := (Array.getElem?_eq_some_iff.1 hc).1
  have HE : Hid (∀ {A : List (Fr × Nat)} {N : Nat} {E : Int}, sAll s = (A, N, E) → (sAll s).1 = A ∧ (sAll s).2.1 = N ∧ (sAll s).2.2 = E) := fun h => by rw [h]; exact ⟨rfl, rfl, rfl⟩
  generalize hLT : (sAll s).2.1 = LT at *
  generalize hER : (sAll s).2.2 = ER at *
  generalize hFS : (sAll s).1 = FS at *
  clear hLT hER hFS
  go_enter Try.func29, Try.ntmps29
  go_wp2_with fail
  refine (newcoder_any _).mono ?_
  rintro e w1 ⟨rfl, c1, k1⟩
  have s1 : w.heap.size < w1.heap.size := c1.lt
  have a1 : AccF w1 (w.heap.size + 1) c [] := ⟨by omega, _, (k1.block c hc0 (fun f => f)).trans hc, World.ownsRow_nil _ _ _ _⟩
  generalize hkb : w.heap.size = kb at *
  have K1 : Keep1 c w w1 := k1.any
  clear k1 hc hs
  go_wp2_with fail
  generalize hKV : kptr (some kb) = KV
  have HKV : Hid (kptr (some kb) = KV) := hKV
  clear hKV
  go_loopw [7] (fun r wr => ∃ (R : ByteArray) (acc : List (Fr × Nat)) (a : Nat), r = .string R ∧ SAt s acc R a ∧ AccF wr (kb + 1) c (frsOf acc) ∧ CoderAt wr (some kb) ∧ Keep1 c w wr ∧ kb < wr.heap.size) (fun r _ => (txtOf r).size)
  case atStart => exact ⟨s, [], 0, rfl, SAt.zero s, a1, c1, K1, s1⟩
  case round =>
    obtain ⟨R, acc, a, rfl, hA, hAcc, hC, hK, hz⟩ := hrel
    clear a1 c1 K1 s1
    have HA : Hid (SAt s acc R a) := hA
    have hsz := hA.size
    have hlen := hA.len
    have hs := HS.out
    clear hA
    have yd := decode7_any hC R (by unfold maxLen; omega)
    rw [HKV.out] at yd
    have hln : (frsOf acc).length ≤ 1000000 := by rw [frsOf_len]; omega
    by_cases h0 : qErr R 0 0 = 0
    · obtain ⟨n1, n2, n3⟩ := s_step h0
      rw [sFr_val, n1, h0] at yd
      have HM : Hid (SAt s (acc ++ [(sFr R, a)]) (sRest R) (a + sN R)) := HA.out.more h0
      have HZ : Hid ((sRest R).size = R.size - sN R) := sRest_size
      have yt := fun W (h : AccF W (kb + 1) c (frsOf acc)) (hB : kb + 1 ≤ W.heap.size) => allTell h hB (sFr R) a hln
      have hof : frsOf acc ++ [sFr R] = frsOf (acc ++ [(sFr R, a)]) := by unfold frsOf; rw [List.map_append]; rfl
      rw [hof] at yt
      generalize (acc ++ [(sFr R, a)]) = acc' at *
      generalize sFr R = f at *
      unfold Fr.val fr at yd yt
      have i1 : ((s.size : Int) - (R.size : Int)) = (a : Int) := by omega
      have i2 : IntKind.i64.wrap (a : Int) = a := by rw [IntKind.wrap_i64]; omega
      have i3 : (sN R : Int) ≤ (R.size : Int) := by omega
      have i4 : (R.size : Int) ≤ 9223372036854775807 := by omega
      have i5 : sN R ≤ R.size := n3
      have HN : Hid (9 ≤ sN R) := n2
      have HR : Hid (sRest R = R.extract (sN R) R.size) := rfl
      generalize sN R = N at *
      generalize sRest R = RR at *
      clear h0 n1 n2 n3 hof HE hlen hln hsz hs
      go_wp2_with fail
      refine yd.mono ?_
      rintro e w2 ⟨rfl, c2, k2⟩
      have z2 := c2.lt
      have k2' : Keep (fun k => k = kb) wr w2 := k2.mono (fun i _ hh => by cases hh; rfl)
      have acc2 := hAcc.keep k2' (by omega) (fun k hk => by omega)
      have K2 : Keep1 c w w2 := hK.step k2' (fun i hi hh => by omega)
      clear yd k2 k2' hAcc hC hK hz
      have f3 := FrAt.new w2 (f.v.toNat : Int) (f.k.toNat : Int) f.p 46
      have k3 : Keep0 w2 (w2.alloc (.cells #[.int .u8 (f.v.toNat : Int), .int .u8 (f.k.toNat : Int), .string f.p] 46)) := (Keep.refl _ w2).alloc _
      have acc3 := acc2.keep k3 (fun f => f) (fun _ _ f => f)
      have c3 := c2.keep0 k3
      have K3 := K2.step0 k3
      have z3 : kb + 1 ≤ (w2.alloc (.cells #[.int .u8 (f.v.toNat : Int), .int .u8 (f.k.toNat : Int), .string f.p] 46)).heap.size := by have := k3.size; omega
      clear acc2 c2 K2 k3
      obtain ⟨d0, d1, d2, d3, d4, d5⟩ := f3.cells
      clear d3 d4 d5 f3
      go_wp2_with fail
      generalize w2.alloc (.cells #[.int .u8 (f.v.toNat : Int), .int .u8 (f.k.toNat : Int), .string f.p] 46) = w3 at *
      generalize w2.heap.size = g2 at *
      refine (yt _ acc3 z3).mono ?_
      rintro e w4 ⟨rfl, acc4, k4⟩
      have c4 := c3.keep k4 (fun b hb hh => by cases hb; rcases hh with hh | hh <;> omega)
      have K4 : Keep1 c w w4 := K3.step k4 (fun i hi hh => by rcases hh with hh | hh; exact hh; omega)
      have z4 : kb < w4.heap.size := by have := k4.size; omega
      clear acc3 c3 K3 k4 yt d0 d1 d2 z3
      go_wp2
      go_roundw
      case rel => exact ⟨RR, acc', a + N, by rw [HR.out], HM.out, acc4, c4, K4, z4⟩
      case measure =>
        have e1 := HZ.out
        have e2 := HN.out
        rw [HR.out] at e1
        simp only [txtOf]
        omega
    · have HQ := HE.out (HA.out.stop h0)
      rw [qFr_no h0, show qLen R = 0 from if_neg h0] at yd
      obtain ⟨e1, e2, e3⟩ := HQ
      subst e1
      subst e2
      have i4 : (R.size : Int) ≤ 9223372036854775807 := by omega
      have e0 : (qErr R 0 0 == 0) = false := by simpa using h0
      unfold fr at yd
      by_cases h2 : qErr R 0 0 = 2
      · have h3 : ER = 0 := by rw [e3]; unfold sErr; rw [if_pos h2]
        rw [h2] at yd
        clear HE h0 e3 e0 h2 hln hlen hsz hs
        go_wp2_with fail
        refine yd.mono ?_
        rintro e w2 ⟨rfl, c2, k2⟩
        have k2' : Keep (fun k => k = kb) wr w2 := k2.mono (fun i _ hh => by cases hh; rfl)
        have acc2 := hAcc.keep k2' (by omega) (fun k hk => by omega)
        have K2 : Keep1 c w w2 := hK.step k2' (fun i hi hh => by omega)
        have k3 : Keep0 w2 (w2.alloc (.cells #[.int .u8 0, .int .u8 0, .string ⟨#[]⟩] 46)) := (Keep.refl _ w2).alloc _
        have acc3 := acc2.keep k3 (fun f => f) (fun _ _ f => f)
        have K3 := K2.step0 k3
        clear yd k2 k2' hAcc hC hK hz acc2 c2 K2 k3
        go_wp2
        go_ret2
        exact ⟨by rw [h3]; rfl, by rw [hkb]; exact acc3, K3⟩
      · have h3 : ER = qErr R 0 0 := by rw [e3]; unfold sErr; rw [if_neg h2]
        have e02 : (qErr R 0 0 == 2) = false := by simpa using h2
        rw [← h3] at yd e0 e02
        clear HE h0 e3 h2 h3 hln hlen hsz hs
        go_wp2_with fail
        refine yd.mono ?_
        rintro e w2 ⟨rfl, c2, k2⟩
        have k2' : Keep (fun k => k = kb) wr w2 := k2.mono (fun i _ hh => by cases hh; rfl)
        have acc2 := hAcc.keep k2' (by omega) (fun k hk => by omega)
        have K2 : Keep1 c w w2 := hK.step k2' (fun i hi hh => by omega)
        have k3 : Keep0 w2 (w2.alloc (.cells #[.int .u8 0, .int .u8 0, .string ⟨#[]⟩] 46)) := (Keep.refl _ w2).alloc _
        have acc3 := acc2.keep k3 (fun f => f) (fun _ _ f => f)
        have K3 := K2.step0 k3
        clear yd k2 k2' hAcc hC hK hz acc2 c2 K2 k3
        go_wp2
        go_ret2
        exact ⟨rfl, by rw [hkb]; exact acc3, K3⟩
end Go.Proofs.Ytmgfalkelembkaa
/-
  Contracts of package split's All, Starts and Begins, each proved over this seat's translation.
  Conditions: the text takes at most 1,000,000 bytes.
-/
namespace Go.Proofs.Ytmgfalkelembkaa
open Go.RowKit

set_option maxRecDepth 100000 in
theorem all8_any (w : World) (s : ByteArray) (hs : s.size ≤ 1000000) :
    Calls Try.prog 20 #[.string s] w fun e w' => ∃ ao cap, e = .returned (.tuple #[.slice ao (frsOf (sAll s).1).length cap, .int .i64 ((sAll s).2.1 : Int), .int .i64 (sAll s).2.2]) ∧
      FramesAt w' ao (frsOf (sAll s).1) ∧ (∀ b off m, ao = some ⟨b, off, m⟩ → w.heap.size ≤ b) ∧ Keep0 w w' := by
  have k0 : Keep0 w (w.alloc (.cells #[.slice none 0 0] 26)) := (Keep.refl _ w).alloc _
  have hc : (w.alloc (.cells #[.slice none 0 0] 26)).heap[w.heap.size]? = some (.cells #[.slice none 0 0] 26 (0, 0)) := (MapKept.heap_alloc w _).1
  have hz : (w.alloc (.cells #[.slice none 0 0] 26)).heap.size = w.heap.size + 1 := World.size_alloc _ _
  have y := apartF hc s hs
  generalize (sAll s).1 = FS at *
  generalize (sAll s).2.1 = LT at *
  generalize (sAll s).2.2 = ER at *
  go_enter Try.func20, Try.ntmps20
  go_wp2_with fail
  generalize w.alloc (.cells #[.slice none 0 0] 26) = w0 at *
  generalize hg : w.heap.size = c at *
  refine y.mono ?_
  rintro e w1 ⟨rfl, ⟨hl, v, hv, ho⟩, k1⟩
  have K1 : Keep0 w w1 := k0.step k1 (fun i hi hh => by omega)
  obtain ⟨ao, cap, rfl, h1, h2⟩ := frames_of_row ho
  have x0 := cell_of_one hv
  clear y k0 hc ho hv k1
  go_wp2
  go_ret3
  exact ⟨ao, cap, rfl, h1, fun b off m e => by have := h2 b off m e; omega, K1⟩
end Go.Proofs.Ytmgfalkelembkaa
/-
  Contracts of the document's own All of layer 8, proved over this seat's translation.
  Conditions: the text takes at most 1,000,000 bytes.
-/
namespace Go.Proofs.Ytmgfalkelembkaa
open Go.RowKit

theorem results_four {fn : Func} {t u v x : Tmp} (h : fn.results = #[.tmp t, .tmp u, .tmp v, .tmp x]) (tmps : Array Value) (P : Program) (w : World) :
    (results fn tmps).run P w = .ok (.tuple #[tmps.getD t undef, tmps.getD u undef, tmps.getD v undef, tmps.getD x undef]) w := by
  simp [results, h]
theorem rows_ne {w : World} {B e1 e2 s1 s2 n1 n2 : Nat} {v1 v2 : Value} {x1 x2 : List Value} (h1 : w.ownsRow B e1 s1 v1 n1 x1) (h2 : w.ownsRow B e2 s2 v2 n2 x2) (he : e1 ≠ e2) : v2.ownBlock = none ∨ v2.ownBlock ≠ v1.ownBlock := by
  rcases h2.2 with ⟨rfl, _⟩ | ⟨g, cap, cur, rfl, _, hg, _⟩
  · exact .inl rfl
  · right
    rcases h1.2 with ⟨rfl, _⟩ | ⟨g', cap', cur', rfl, _, hg', _⟩
    · exact fun e => by cases e
    · intro e
      have e : some g = some g' := e
      cases e
      rw [hg] at hg'
      cases hg'
      exact he rfl
theorem Keep.grow0 {w w1 w2 : World} {row : Option Nat} (K : Keep0 w w1) (g : w1.grownBy w2 row) (h : ∀ k, row = some k → w.heap.size ≤ k) : Keep0 w w2 :=
  K.step (Keep.grown (B := w.heap.size) g h) (fun i hi hh => by omega)
/-- What the document's All answers. -/
def RAll (FS : List (Fr × Nat)) (LT : Nat) (ER : Int) (w : World) (e : Ending) (w' : World) : Prop := ∃ ao ca bo cb, e = .returned (.tuple #[.slice ao (frsOf FS).length ca, .slice bo (natsOf FS).length cb, .int .i64 (LT : Int), .int .i64 ER]) ∧
  FramesAt w' ao (frsOf FS) ∧ NatsAt w' bo (natsOf FS) ∧ Keep0 w w' ∧ (frsOf FS).length ≤ ca
theorem RAll.mk {FS : List (Fr × Nat)} {LT : Nat} {ER : Int} {w w' : World} {e : Ending} {ao bo : Option Addr} {ca cb : Nat} (h : e = .returned (.tuple #[.slice ao (frsOf FS).length ca, .slice bo (natsOf FS).length cb, .int .i64 (LT : Int), .int .i64 ER]))
    (h1 : FramesAt w' ao (frsOf FS)) (h2 : NatsAt w' bo (natsOf FS)) (h3 : Keep0 w w') (h4 : (frsOf FS).length ≤ ca) : RAll FS LT ER w e w' := ⟨ao, ca, bo, cb, h, h1, h2, h3, h4⟩
theorem own_cap {w : World} {B e sz n cap : Nat} {ao : Option Addr} {xs : List Value} (h : w.ownsRow B e sz (.slice ao n cap) n xs) : n ≤ cap := by
  rcases h.2 with ⟨e, _⟩ | ⟨g, c, cur, e, _, _, hc, _⟩
  · cases e
    exact Nat.le_refl _
  · cases e
    exact hc
set_option maxRecDepth 100000 in
set_option maxHeartbeats 4000000 in
theorem rall8_any (w : World) (s : ByteArray) (hs : s.size ≤ 1000000) :
    Calls Try.prog 17 #[.string s] w (RAll (sAll s).1 (sAll s).2.1 (sAll s).2.2 w) := by
  have HS : Hid (s.size ≤ 1000000) := hs
  have hs1 : (s.size : Int) ≤ 9223372036854775807 := by omega
  have HE : Hid (∀ {A : List (Fr × Nat)} {N : Nat} {E : Int}, sAll s = (A, N, E) → (sAll s).1 = A ∧ (sAll s).2.1 = N ∧ (sAll s).2.2 = E) := fun h => by rw [h]; exact ⟨rfl, rfl, rfl⟩
  generalize hLT : (sAll s).2.1 = LT at *
  generalize hER : (sAll s).2.2 = ER at *
  generalize hFS : (sAll s).1 = FS at *
  clear hLT hER hFS hs
  obtain ⟨i0, hi, z0, z1, z2⟩ := info_parts frame_info
  obtain ⟨j0, hj, y0, y1, y2⟩ := info_parts int_info
  go_enter Try.func17, Try.ntmps17
  go_wp2_with fail
  go_loopw [6, 7, 8] (fun o t f wr => ∃ (R : ByteArray) (acc : List (Fr × Nat)) (a : Nat), f = .int .i64 (a : Int) ∧ SAt s acc R a ∧ wr.ownsRow w.heap.size 46 3 o (frsOf acc).length (frCells (frsOf acc)) ∧ wr.ownsRow w.heap.size 3 1 t (natsOf acc).length (natCells (natsOf acc)) ∧ Keep0 w wr) (fun _ _ f _ => s.size - (intOf f).toNat)
  case atStart => exact ⟨s, [], 0, rfl, SAt.zero s, World.ownsRow_nil _ _ _ _, World.ownsRow_nil _ _ _ _, Keep.refl _ w⟩
  case round =>
    obtain ⟨R, acc, a, rfl, hA, ho, ht, hK⟩ := hrel
    have HA : Hid (SAt s acc R a) := hA
    have hsz := hA.size
    have hlen := hA.len
    have htx := hA.text
    have hs := HS.out
    clear hA
    obtain ⟨ao, ca, rfl, x2, x3⟩ := frames_of_row ho
    obtain ⟨bo, cb, rfl, x5, x6⟩ := nats_of_row ht
    have HCP : Hid ((frsOf acc).length ≤ ca) := own_cap ho
    by_cases hlt : a < s.size
    · have i1 : (a : Int) < s.size := by omega
      have i2 : (a : Int) ≤ s.size := by omega
      have i3 : a ≤ s.size := by omega
      have yd := fun W => rdecode7_any W R (by unfold maxLen; omega)
      have htx' : s.extract a s.size = R := htx.symm
      by_cases h0 : qErr R 0 0 = 0
      · obtain ⟨n1, n2, n3⟩ := s_step h0
        rw [sFr_val, n1, h0] at yd
        have HM : Hid (SAt s (acc ++ [(sFr R, a)]) (sRest R) (a + sN R)) := HA.out.more h0
        have HN : Hid (9 ≤ sN R) := n2
        have L1 : (frsOf acc).length ≤ 1000000 := by rw [frsOf_len]; omega
        have L2 : (natsOf acc).length ≤ 1000000 := by rw [natsOf_len]; omega
        have F1 : frsOf (acc ++ [(sFr R, a)]) = frsOf acc ++ [sFr R] := by unfold frsOf; rw [List.map_append]; rfl
        have F2 : natsOf (acc ++ [(sFr R, a)]) = natsOf acc ++ [a] := by unfold natsOf; rw [List.map_append]; rfl
        generalize (acc ++ [(sFr R, a)]) = acc' at *
        generalize sFr R = f at *
        unfold Fr.val fr at yd
        have i7 : IntKind.i64.wrap ((a : Int) + (sN R : Int)) = ((a + sN R : Nat) : Int) := by rw [IntKind.wrap_i64]; omega
        have HL : Hid (a + sN R ≤ s.size) := by show a + sN R ≤ s.size; omega
        generalize sN R = N at *
        generalize sRest R = RR at *
        clear HE h0 n1 n2 n3 hlen hsz hs x3 x6 htx x2 x5
        go_wp2_with fail
        refine (yd _).mono ?_
        rintro e w2 ⟨rfl, k2⟩
        have kW := (k2.alloc (.cells #[.int .u8 (f.v.toNat : Int), .int .u8 (f.k.toNat : Int), .string f.p] 46)).alloc (.cells #[.int .u8 (f.v.toNat : Int), .int .u8 (f.k.toNat : Int), .string f.p] 46)
        have hn := fcells_new (w := w2.alloc (.cells #[.int .u8 (f.v.toNat : Int), .int .u8 (f.k.toNat : Int), .string f.p] 46)) (t := 46) f
        rw [World.size_alloc] at hn
        have hoW := row_keep ho kW (fun _ _ f => f)
        have htW := row_keep ht kW (fun _ _ f => f)
        have KW : Keep0 w _ := hK.trans kW
        clear yd ho ht hK k2
        go_wp2_with (at_builtin; refine wpList_append_own_wide _ rfl _ _ 26 rfl w.heap.size 46 i0 _ 3 24 Try.underlying26 hi z0 z1 z2 rfl (by decide) _ _ _ rfl hoW ⟨w2.heap.size + 1, 0, none⟩ 1 1 f.cells rfl rfl hn ?c1 ?c2 ?c3 ?c4 ?_)
        case c1 => intro u hu; simp only [Fr.cells, List.mem_cons, List.mem_nil_iff, or_false] at hu; rcases hu with rfl | rfl | rfl <;> rfl
        case c2 => unfold maxLen; omega
        case c3 => omega
        case c4 => exact KW.size
        intro o' w5 ho' hg _
        have ht5 := htW.kept hg (rows_ne hoW htW (by decide))
        have K5 : Keep0 w w5 := KW.grow0 hg (fun k hk => (hoW.lt k hk).1)
        clear hn hoW htW kW KW hg
        obtain ⟨ao', an', ca', rfl⟩ := slice_of_own ho'
        have kV : Keep0 w5 (w5.alloc (.cells #[.int .i64 (a : Int)] 3)) := (Keep.refl _ w5).alloc _
        have hm := ncell_new (w := w5) (t := 3) a
        have hoV := row_keep ho' kV (fun _ _ f => f)
        have htV := row_keep ht5 kV (fun _ _ f => f)
        have KV : Keep0 w _ := K5.trans kV
        clear ho' ht5 kV K5
        go_wp2_with (at_builtin; refine wpList_append_own_wide _ rfl _ _ 37 rfl w.heap.size 3 j0 _ 1 8 Try.underlying37 hj y0 y1 y2 rfl (by decide) _ _ _ rfl htV ⟨w5.heap.size, 0, none⟩ 1 1 (natCells [a]) rfl rfl hm ?d1 ?d2 ?d3 ?d4 ?_)
        case d1 => intro u hu; simp only [natCells, List.map_cons, List.map_nil, List.mem_cons, List.mem_nil_iff, or_false] at hu; rw [hu]; rfl
        case d2 => unfold maxLen; omega
        case d3 => omega
        case d4 => exact KV.size
        intro t' w7 ht' hg _
        have ho7 := hoV.kept hg (rows_ne htV hoV (by decide))
        have K7 : Keep0 w w7 := KV.grow0 hg (fun k hk => (htV.lt k hk).1)
        clear hm hoV htV KV hg
        obtain ⟨bo', bn', cb', rfl⟩ := slice_of_own ht'
        go_wp2
        go_roundw
        case rel =>
          refine ⟨RR, acc', a + N, by rw [Int.natCast_add], HM.out, ?_, ?_, K7⟩
          · rw [F1, frCells_app, List.length_append]; exact ho7
          · rw [F2, natCells_app, List.length_append]; exact ht'
        case measure =>
          have e1 := HN.out
          have e2 := HL.out
          simp only [intOf]
          omega
      · have e0 : (qErr R 0 0 != 0) = true := by simpa using h0
        obtain ⟨e1, e2, e3⟩ := HE.out (HA.out.stop h0)
        subst e1
        have i5 : (s.size : Int) - (a : Int) = (LT : Int) := by omega
        have i6 : IntKind.i64.wrap (LT : Int) = LT := by rw [IntKind.wrap_i64]; omega
        rw [qFr_no h0, show qLen R = 0 from if_neg h0] at yd
        unfold fr at yd
        by_cases h2 : qErr R 0 0 = 2
        · have h3 : ER = 0 := by rw [e3]; unfold sErr; rw [if_pos h2]
          subst h3
          rw [h2] at yd
          clear HE h0 e3 e0 h2 hlen hsz hs e2 x3 x6 htx ho ht
          go_wp2_with fail
          refine (yd _).mono ?_
          rintro e w2 ⟨rfl, k2⟩
          have K2 := (hK.trans k2).alloc (.cells #[.int .u8 0, .int .u8 0, .string ⟨#[]⟩] 46)
          have k3 := k2.alloc (.cells #[.int .u8 0, .int .u8 0, .string ⟨#[]⟩] 46)
          have x2 := x2.keep0 k3
          have x5 := x5.keep0 k3
          clear yd k2 k3 hK
          go_wp2
          (try simp only [Exit.inBlock, Exit.then])
          refine bodyPost_ret (results_four rfl _ _ _) rfl ?_
          exact RAll.mk rfl x2 x5 K2 HCP.out
        · have h3 : ER = qErr R 0 0 := by rw [e3]; unfold sErr; rw [if_neg h2]
          have e02 : (qErr R 0 0 == 2) = false := by simpa using h2
          rw [← h3] at yd e0 e02
          clear HE h0 e3 h2 h3 hlen hsz hs e2 x3 x6 htx ho ht
          go_wp2_with fail
          refine (yd _).mono ?_
          rintro e w2 ⟨rfl, k2⟩
          have K2 := (hK.trans k2).alloc (.cells #[.int .u8 0, .int .u8 0, .string ⟨#[]⟩] 46)
          have k3 := k2.alloc (.cells #[.int .u8 0, .int .u8 0, .string ⟨#[]⟩] 46)
          have x2 := x2.keep0 k3
          have x5 := x5.keep0 k3
          clear yd k2 k3 hK
          go_wp2
          (try simp only [Exit.inBlock, Exit.then])
          refine bodyPost_ret (results_four rfl _ _ _) rfl ?_
          exact RAll.mk rfl x2 x5 K2 HCP.out
    · have i1 : ¬ (a : Int) < s.size := by omega
      obtain ⟨e1, e2, e3⟩ := HE.out (HA.out.done (by omega))
      subst e1
      subst e2
      subst e3
      clear HE hlen hsz hs x3 x6 htx ho ht
      go_wp2
      (try simp only [Exit.inBlock, Exit.then])
      refine bodyPost_ret (results_four rfl _ _ _) rfl ?_
      exact RAll.mk rfl x2 x5 hK HCP.out
end Go.Proofs.Ytmgfalkelembkaa
/-
  Contracts of package split's Join, and of the document's, each proved over this seat's translation.
  Conditions: at most 1,000 frames, of payloads of at most 300 bytes.
-/
namespace Go.Proofs.Ytmgfalkelembkaa
open Go.RowKit

end Go.Proofs.Ytmgfalkelembkaa
