/-
  What this seat's claims lean on of the texts L6.
  Conditions: as each theorem states.
-/
import Derived.WalkKit
import Derived.ProofKit
import Derived.Below
import Derived.Deep.Draws
import Derived.Deep.RegionHeld
import Derived.Test.YtoefibkhlhmlfaaGreatChecked
import Derived.OpenShut
import Derived.ShutString
import Derived.WalkSpells
import Derived.WalkLawsBesides
import Derived.Deep.QuietTactic
import Derived.BigQuiet
import Derived.Laws.Bits64b
import Derived.PlainAid
import Derived.Lib.AppendStr
import Derived.Deep.AppendLies
import Derived.Laws.IdiomStrings
import Derived.Laws.BytesArg
import Derived.Deep.RegionWith
import Derived.Test.YtoefibkhlhmlfaaGreatY5
import Derived.Test.YtoefibkhlhmlfaaGreatY1
import Derived.Test.YtoefibkhlhmlfaaGreatY3
namespace Go.Proofs.YtoefibkhlhmlfaaGreat
open Go.RowKit
def kNum (s : ByteArray) (a x m : Int) : Int := if tErr s a x = 0 ∧ tNum s a x ≤ pMax m then tNum s a x else 0
def kErr (s : ByteArray) (a x m : Int) : Int := if tErr s a x = 0 ∧ pMax m < tNum s a x then 3 else tErr s a x
def bTxt (s : ByteArray) (a x m : Int) : ByteArray := cBytes s (tAt s a x) (kErr s a x m) (kNum s a x m)
def bAt (s : ByteArray) (a x m : Int) : Int := cAt s (tAt s a x) (kErr s a x m) (kNum s a x m)
def bErr (s : ByteArray) (a x m : Int) : Int := cErr s (tAt s a x) (kErr s a x m) (kNum s a x m)
def gSet (s : ByteArray) (a x : Int) : Bool := decide (cByte s a x = 1)
def gErr (s : ByteArray) (a x : Int) : Int := if 1 < cByte s a x then cFail (cErr s a x 1) 13 else cErr s a x 1
theorem pMax_bd {m : Int} (h : m ≤ 9223372036854775807) : 0 ≤ pMax m ∧ pMax m ≤ 9223372036854775807 := by
  unfold pMax
  split <;> omega
theorem tNum_bad {s : ByteArray} {a x : Int} (h : tErr s a x ≠ 0) : tNum s a x = 0 := by
  unfold tErr at h
  unfold tNum
  rw [if_neg]
  intro e
  rw [if_pos e.1] at h
  exact h e.2
theorem kNum_bd (s : ByteArray) (a x m : Int) : 0 ≤ kNum s a x m ∧ kNum s a x m ≤ 18446744073709551615 := by
  have := tNum_lt s a x
  unfold kNum
  split <;> omega
theorem k_err {s : ByteArray} {a x m : Int} (h : tErr s a x ≠ 0) : kNum s a x m = 0 ∧ kErr s a x m = tErr s a x :=
  ⟨if_neg (fun e => h e.1), if_neg (fun e => h e.1)⟩
theorem k_over {s : ByteArray} {a x m : Int} (h : tErr s a x = 0) (ho : pMax m < tNum s a x) : kNum s a x m = 0 ∧ kErr s a x m = 3 :=
  ⟨if_neg (fun e => by omega), if_pos ⟨h, ho⟩⟩
theorem k_ok {s : ByteArray} {a x m : Int} (h : tErr s a x = 0) (ho : ¬ pMax m < tNum s a x) : kNum s a x m = tNum s a x ∧ kErr s a x m = 0 :=
  ⟨if_pos ⟨h, by omega⟩, by unfold kErr; rw [if_neg (fun e => ho e.2), h]⟩
def wPut (M m : Int) (p : ByteArray × Int) (s : ByteArray) : ByteArray × Int := if (s.size : Int) ≤ pMax m then pOne M (pOne M p (vText s.size)) s else (p.1, pFail p.2 3)
def wPuts (M m : Int) (p : ByteArray × Int) (l : List ByteArray) : ByteArray × Int := l.foldl (wPut M m) p
def wCount (M m : Int) (p : ByteArray × Int) (n : Int) : ByteArray × Int := if n < 0 then (p.1, pFail p.2 1) else if n ≤ pMax m then pOne M p (vText n.toNat) else (p.1, pFail p.2 3)
def flagByte (b : Bool) : UInt8 := if b then 1 else 0
def wFlag (M : Int) (p : ByteArray × Int) (b : Bool) : ByteArray × Int := pOne M p (one (flagByte b))
theorem wPut_fit {M m : Int} {p : ByteArray × Int} {s : ByteArray} (h : (s.size : Int) ≤ pMax m) : wPut M m p s = pOne M (pOne M p (vText s.size)) s := if_pos h
theorem wPut_long {M m : Int} {p : ByteArray × Int} {s : ByteArray} (h : ¬ (s.size : Int) ≤ pMax m) : wPut M m p s = (p.1, pFail p.2 3) := if_neg h
theorem wPut_err {M m : Int} {t s : ByteArray} {x : Int} (h : x ≠ 0) : wPut M m (t, x) s = (t, x) := by
  unfold wPut
  split
  · rw [pOne_err h, pOne_err h]
  · show (t, pFail x 3) = (t, x)
    rw [show pFail x 3 = x from if_neg h]
theorem wPuts_take (M m : Int) (p : ByteArray × Int) (l : List ByteArray) (k : Nat) (h : k < l.length) : wPuts M m p (l.take (k + 1)) = wPut M m (wPuts M m p (l.take k)) l[k] := by
  unfold wPuts
  rw [List.take_succ_eq_append_getElem h, List.foldl_append]
  rfl
theorem pOne_size (M : Int) (p : ByteArray × Int) (s : ByteArray) : (pOne M p s).1.size ≤ p.1.size + s.size := by
  unfold pOne
  split
  · split
    · simp [ByteArray.size_append]
    · simp
  · simp
theorem wPut_size (M m : Int) (p : ByteArray × Int) (s : ByteArray) (hs : s.size < 18446744073709551616) : (wPut M m p s).1.size ≤ p.1.size + s.size + 10 := by
  have hv := vText_le hs
  unfold wPut
  split
  · have h1 := pOne_size M p (vText s.size)
    have h2 := pOne_size M (pOne M p (vText s.size)) s
    omega
  · show p.1.size ≤ _
    omega
theorem wCount_size (M m : Int) (p : ByteArray × Int) (n : Int) (hn : n < 18446744073709551616) : (wCount M m p n).1.size ≤ p.1.size + 10 := by
  unfold wCount
  split
  · show p.1.size ≤ _; omega
  · split
    · have hv := vText_le (n := n.toNat) (by omega)
      have h1 := pOne_size M p (vText n.toNat)
      omega
    · show p.1.size ≤ _; omega
theorem wFlag_size (M : Int) (p : ByteArray × Int) (b : Bool) : (wFlag M p b).1.size ≤ p.1.size + 1 := pOne_size M p (one (flagByte b))
theorem pFail_zero {x y : Int} (hy : y ≠ 0) : pFail x y ≠ 0 := by
  unfold pFail
  split
  · exact hy
  · assumption
theorem vBytes_at {t r : ByteArray} : vBytes (t ++ r) t.size = r.data.toList := by
  unfold vBytes
  rw [ByteArray.data_append, Array.toList_append]
  have : ((t.size : Int)).toNat = t.data.toList.length := by simp
  rw [this, List.drop_left]
theorem take_text {T t r : ByteArray} {n : Nat} (hn : n < 18446744073709551616) (h : T = t ++ (vText n ++ r)) : tNum T t.size 0 = n ∧ tErr T t.size 0 = 0 ∧ tAt T t.size 0 = (t.size : Int) + (vText n).size := by
  have hb : vBytes T t.size = vEnc n ++ r.data.toList := by
    rw [h, vBytes_at, ByteArray.data_append, Array.toList_append]
    rfl
  have hr := vRd_text hn r.data.toList
  rw [← hb] at hr
  refine ⟨?_, ?_, ?_⟩
  · unfold tNum; rw [hr, if_pos ⟨rfl, rfl⟩]
  · unfold tErr; rw [hr, if_pos rfl]
  · unfold tAt; rw [hr, if_pos rfl, vText_size]
theorem cut_mid {t s r : ByteArray} : cut (t ++ (s ++ r)) t.size ((t.size : Int) + s.size) = s := by
  unfold cut
  apply ByteArray.ext
  have e : ((t.size : Int) + s.size).toNat = t.size + s.size := by omega
  have e0 : ((t.size : Int)).toNat = t.size := by omega
  rw [e, e0, ByteArray.data_extract]
  apply Array.toList_inj.1
  rw [Array.toList_extract, ByteArray.data_append, ByteArray.data_append, Array.toList_append, Array.toList_append]
  have l1 : t.size = t.data.toList.length := by simp
  have l2 : s.size = s.data.toList.length := by simp
  rw [List.extract_eq_take_drop, l1, List.drop_left, show t.data.toList.length + s.size - t.data.toList.length = s.data.toList.length from by omega, List.take_left]
theorem count_back {T t r : ByteArray} {n : Nat} {m : Int} (hn : n < 18446744073709551616) (hm : (n : Int) ≤ pMax m) (h : T = t ++ (vText n ++ r)) :
    kNum T t.size 0 m = n ∧ kErr T t.size 0 m = 0 ∧ tAt T t.size 0 = (t.size : Int) + (vText n).size := by
  obtain ⟨h1, h2, h3⟩ := take_text hn h
  obtain ⟨h4, h5⟩ := k_ok (m := m) h2 (by omega)
  exact ⟨by rw [h4, h1], h5, h3⟩
theorem blob_back {T t s r : ByteArray} {m : Int} (hn : s.size < 18446744073709551616) (hm : (s.size : Int) ≤ pMax m) (h : T = t ++ (vText s.size ++ (s ++ r))) :
    bTxt T t.size 0 m = s ∧ bErr T t.size 0 m = 0 ∧ bAt T t.size 0 m = (t.size : Int) + (vText s.size).size + s.size := by
  obtain ⟨h1, h2, h3⟩ := count_back hn hm h
  have hT : T = (t ++ vText s.size) ++ (s ++ r) := by rw [h, ByteArray.append_assoc]
  have hsz : T.size = t.size + (vText s.size).size + (s.size + r.size) := by rw [hT]; simp only [ByteArray.size_append]
  have hc : (0 : Int) = 0 ∧ (0 : Int) ≤ (s.size : Int) ∧ (s.size : Int) ≤ T.size - ((t.size : Int) + (vText s.size).size) := by omega
  have hcut : cut T ((t.size : Int) + (vText s.size).size) ((t.size : Int) + (vText s.size).size + s.size) = s := by
    have := cut_mid (t := t ++ vText s.size) (s := s) (r := r)
    rw [ByteArray.size_append, ← hT] at this
    simpa using this
  refine ⟨?_, ?_, ?_⟩
  · unfold bTxt cBytes; rw [h1, h2, h3, if_pos hc, hcut]
  · unfold bErr cErr; rw [h1, h2, h3, if_neg (by decide), if_neg (by omega), if_pos hc.2.2]
  · unfold bAt cAt; rw [h1, h2, h3, if_pos hc]
theorem flag_back {T t r : ByteArray} {b : Bool} (h : T = t ++ (one (flagByte b) ++ r)) : gSet T t.size 0 = b ∧ gErr T t.size 0 = 0 ∧ cAt T t.size 0 1 = (t.size : Int) + 1 := by
  have hsz : T.size = t.size + (1 + r.size) := by rw [h]; simp only [ByteArray.size_append, one_size]
  have hb : cByte T t.size 0 = ((flagByte b).toNat : Int) := by
    unfold cByte byteAt
    rw [if_pos ⟨rfl, by omega⟩]
    have e0 : ((t.size : Int)).toNat = t.data.toList.length := by simp
    rw [e0, h, ByteArray.data_append, Array.toList_append, List.getD_eq_getElem?_getD, List.getElem?_append_right (Nat.le_refl _), Nat.sub_self, ByteArray.data_append, Array.toList_append]
    rfl
  have hle : ¬ 1 < cByte T t.size 0 := by rw [hb]; cases b <;> decide
  refine ⟨?_, ?_, ?_⟩
  · unfold gSet; rw [hb]; cases b <;> rfl
  · unfold gErr cErr; rw [if_neg hle, if_neg (by decide), if_neg (by decide), if_pos (by omega)]
  · unfold cAt; rw [if_pos ⟨rfl, by decide, by omega⟩]
def lBelow : List UInt8 → List UInt8 → Bool
  | _, [] => false
  | [], _ :: _ => true
  | a :: l, b :: r => if a = b then lBelow l r else decide (a.toNat < b.toNat)
def riseAt : Int → List ByteArray → Int
  | k, a :: b :: l => if lBelow a.data.toList b.data.toList = true then riseAt (k + 1) (b :: l) else k
  | _, _ => -1
def rise (l : List ByteArray) : Int := riseAt 1 l
theorem riseAt_step {l : List ByteArray} {k : Nat} (h : k + 1 < l.length) (p : Int) : riseAt p (l.drop k) = if lBelow l[k].data.toList l[k + 1].data.toList = true then riseAt (p + 1) (l.drop (k + 1)) else p := by
  have e1 : l.drop k = l[k] :: l[k + 1] :: l.drop (k + 1 + 1) := by rw [List.drop_eq_getElem_cons (by omega), List.drop_eq_getElem_cons h]
  have e2 : l.drop (k + 1) = l[k + 1] :: l.drop (k + 1 + 1) := List.drop_eq_getElem_cons h
  rw [e1, e2]
  rfl
theorem riseAt_end {l : List ByteArray} {k : Nat} (h : l.length ≤ k + 1) (p : Int) : riseAt p (l.drop k) = -1 := by
  have hl : (l.drop k).length ≤ 1 := by rw [List.length_drop]; omega
  match l.drop k, hl with
  | [], _ => rfl
  | [_], _ => rfl
end Go.Proofs.YtoefibkhlhmlfaaGreat
namespace Go.Proofs.YtoefibkhlhmlfaaGreat
open Go.RowKit
theorem cAt_bad {s : ByteArray} {a x : Int} (n : Int) (h : x ≠ 0) : cAt s a x n = a := if_neg (fun e => h e.1)
theorem cErr_bad {s : ByteArray} {a x : Int} (n : Int) (h : x ≠ 0) : cErr s a x n = x := if_pos h
theorem cBytes_bad {s : ByteArray} {a x : Int} (n : Int) (h : x ≠ 0) : cBytes s a x n = ⟨#[]⟩ := if_neg (fun e => h e.1)
theorem b_bad {s : ByteArray} {a x : Int} (m : Int) (h : x ≠ 0) : bTxt s a x m = ⟨#[]⟩ ∧ bAt s a x m = a ∧ bErr s a x m = x := by
  have h1 := tErr_err (s := s) (a := a) h
  obtain ⟨h2, h3⟩ := k_err (s := s) (a := a) (x := x) (m := m) (by rw [h1]; exact h)
  rw [h1] at h3
  unfold bTxt bAt bErr
  rw [h2, h3, tAt_err h]
  exact ⟨cBytes_bad _ h, cAt_bad _ h, cErr_bad _ h⟩
theorem cut_split {s : ByteArray} {i j k : Int} (h1 : i ≤ j) (h2 : j ≤ k) : cut s i k = cut s i j ++ cut s j k := by
  unfold cut
  apply ByteArray.ext
  apply Array.toList_inj.1
  rw [ByteArray.data_append, Array.toList_append, ByteArray.data_extract, ByteArray.data_extract, ByteArray.data_extract, Array.toList_extract, Array.toList_extract, Array.toList_extract,
    List.extract_eq_take_drop, List.extract_eq_take_drop, List.extract_eq_take_drop]
  have e1 : k.toNat - i.toNat = (j.toNat - i.toNat) + (k.toNat - j.toNat) := by omega
  have e2 : s.data.toList.drop j.toNat = (s.data.toList.drop i.toNat).drop (j.toNat - i.toNat) := by
    rw [List.drop_drop]
    congr 1
    omega
  rw [e1, e2, List.take_add]
theorem cut_byte {s : ByteArray} {a : Int} (h0 : 0 ≤ a) (h : a < s.size) : cut s a (a + 1) = one (UInt8.ofNat (cByte s a 0).toNat) := by
  obtain ⟨c, h1, h2⟩ := cut_one s a h0 h
  have e : cByte s a 0 = (c.toNat : Int) := by unfold cByte; rw [if_pos ⟨rfl, h⟩, h2]
  rw [h1, e, Int.toNat_natCast]
  simp [one]
theorem cut_num {s : ByteArray} {a : Int} (h0 : 0 ≤ a) (he : tErr s a 0 = 0) : cut s a (tAt s a 0) = vText (tNum s a 0).toNat := by
  have hE : (vRd 10 (vBytes s a)).2.2 = 0 := by unfold tErr at he; rwa [if_pos rfl] at he
  obtain ⟨hb, _⟩ := vRd_back 9 (vBytes s a) (by decide) hE
  have e1 : tAt s a 0 = a + (vRd 10 (vBytes s a)).2.1 := if_pos rfl
  have e2 : tNum s a 0 = (vRd 10 (vBytes s a)).1 := if_pos ⟨rfl, hE⟩
  rw [e1, e2, Int.toNat_natCast]
  unfold cut vText
  apply ByteArray.ext
  apply Array.toList_inj.1
  rw [ByteArray.data_extract, Array.toList_extract, List.extract_eq_take_drop]
  have e3 : (a + ((vRd 10 (vBytes s a)).2.1 : Int)).toNat - a.toNat = (vRd 10 (vBytes s a)).2.1 := by omega
  rw [e3]
  exact hb
theorem blob_zero {s : ByteArray} {a x m : Int} (h : bErr s a x m = 0) : x = 0 ∧ tErr s a 0 = 0 ∧ tNum s a 0 ≤ pMax m ∧ tNum s a 0 ≤ s.size - tAt s a 0 ∧ bTxt s a x m = cut s (tAt s a 0) (tAt s a 0 + tNum s a 0) ∧ bAt s a x m = tAt s a 0 + tNum s a 0 := by
  have ht := tNum_lt s a 0
  by_cases hx : x = 0
  · subst hx
    by_cases he : tErr s a 0 = 0
    · by_cases ho : pMax m < tNum s a 0
      · obtain ⟨q1, q2⟩ := k_over he ho
        have : bErr s a 0 m = 3 := by unfold bErr; rw [q1, q2]; rfl
        rw [this] at h
        exact absurd h (by decide)
      · obtain ⟨q1, q2⟩ := k_ok he ho
        unfold bErr at h
        unfold bTxt bAt
        rw [q1, q2] at h ⊢
        unfold cErr at h
        rw [if_neg (by decide), if_neg (by omega)] at h
        by_cases hl : tNum s a 0 ≤ s.size - tAt s a 0
        · have hc : (0 : Int) = 0 ∧ 0 ≤ tNum s a 0 ∧ tNum s a 0 ≤ s.size - tAt s a 0 := ⟨rfl, ht.1, hl⟩
          exact ⟨rfl, he, by omega, hl, if_pos hc, if_pos hc⟩
        · rw [if_neg hl] at h
          exact absurd h (by decide)
    · obtain ⟨q1, q2⟩ := k_err (m := m) he
      have : bErr s a 0 m = tErr s a 0 := by unfold bErr; rw [q1, q2]; exact if_pos he
      rw [this] at h
      exact absurd h he
  · rw [(b_bad m hx).2.2] at h
    exact absurd h hx
theorem cut_app {x y : ByteArray} {i j : Int} (h : j ≤ x.size) : cut (x ++ y) i j = cut x i j := by
  unfold cut
  apply ByteArray.ext
  apply Array.toList_inj.1
  rw [ByteArray.data_extract, ByteArray.data_extract, Array.toList_extract, Array.toList_extract, List.extract_eq_take_drop, List.extract_eq_take_drop, ByteArray.data_append, Array.toList_append]
  have hx : x.data.toList.length = x.size := by simp
  by_cases hi : i.toNat ≤ x.size
  · rw [List.drop_append_of_le_length (by omega), List.take_append_of_le_length]
    rw [List.length_drop]
    omega
  · have : j.toNat - i.toNat = 0 := by omega
    rw [this, List.take_zero, List.take_zero]
theorem byteAt_app {x y : ByteArray} {i : Nat} (h : i < x.size) : byteAt (x ++ y) i = byteAt x i := by
  unfold byteAt
  have hx : x.data.toList.length = x.size := by simp
  rw [ByteArray.data_append, Array.toList_append, List.getD_eq_getElem?_getD, List.getD_eq_getElem?_getD, List.getElem?_append_left (by omega)]
theorem cErr_fit {s : ByteArray} {a n : Int} (h0 : 0 ≤ n) (h : n ≤ s.size - a) : cErr s a 0 n = 0 := by unfold cErr; rw [if_neg (by decide), if_neg (by omega), if_pos h]
theorem cErr_short {s : ByteArray} {a n : Int} (h0 : 0 ≤ n) (h : ¬ n ≤ s.size - a) : cErr s a 0 n = 2 := by unfold cErr; rw [if_neg (by decide), if_neg (by omega), if_neg h]
theorem cAt_fit {s : ByteArray} {a n : Int} (h0 : 0 ≤ n) (h : n ≤ s.size - a) : cAt s a 0 n = a + n := if_pos ⟨rfl, h0, h⟩
theorem cBytes_fit {s : ByteArray} {a n : Int} (h0 : 0 ≤ n) (h : n ≤ s.size - a) : cBytes s a 0 n = cut s a (a + n) := if_pos ⟨rfl, h0, h⟩
theorem c_app {x y : ByteArray} {a n : Int} (h0 : 0 ≤ n) : cErr x a 0 n = 2 ∨
    (n ≤ x.size - a ∧ cErr x a 0 n = 0 ∧ cErr (x ++ y) a 0 n = 0 ∧ cAt (x ++ y) a 0 n = cAt x a 0 n ∧ cBytes (x ++ y) a 0 n = cBytes x a 0 n) := by
  have hs : (x ++ y).size = x.size + y.size := ByteArray.size_append
  by_cases h : n ≤ x.size - a
  · have h' : n ≤ (x ++ y).size - a := by omega
    right
    rw [cErr_fit h0 h, cErr_fit h0 h', cAt_fit h0 h, cAt_fit h0 h', cBytes_fit h0 h, cBytes_fit h0 h', cut_app (by omega)]
    exact ⟨h, rfl, rfl, rfl, rfl⟩
  · exact Or.inl (cErr_short h0 h)
theorem vRd_app : ∀ (k : Nat) (l r : List UInt8), (vRd k l).2.2 = 2 ∨ vRd k (l ++ r) = vRd k l
  | 0, _, _ => Or.inl rfl
  | _ + 1, [], _ => Or.inl rfl
  | k + 1, b :: l, r => by
    rcases vRd_app k l r with h | h
    · rw [List.cons_append, vRd, vRd]
      split
      · exact Or.inr rfl
      · split
        · exact Or.inr rfl
        · split
          · exact Or.inr rfl
          · exact Or.inl h
    · right
      rw [List.cons_append, vRd, vRd, h]
theorem t_app {x y : ByteArray} {a : Int} (h : a ≤ x.size) : tErr x a 0 = 2 ∨ (tErr (x ++ y) a 0 = tErr x a 0 ∧ tNum (x ++ y) a 0 = tNum x a 0 ∧ tAt (x ++ y) a 0 = tAt x a 0) := by
  have hx : x.data.toList.length = x.size := by simp
  have e : vBytes (x ++ y) a = vBytes x a ++ y.data.toList := by
    unfold vBytes
    rw [ByteArray.data_append, Array.toList_append, List.drop_append_of_le_length (by omega)]
  unfold tErr tNum tAt
  rw [e]
  rcases vRd_app 10 (vBytes x a) y.data.toList with h1 | h1
  · exact Or.inl (by rw [if_pos rfl, h1])
  · rw [h1]
    exact Or.inr ⟨rfl, rfl, rfl⟩
theorem b_app {x y : ByteArray} {a m : Int} (h : a ≤ x.size) : bErr x a 0 m = 2 ∨ (bErr (x ++ y) a 0 m = bErr x a 0 m ∧ bAt (x ++ y) a 0 m = bAt x a 0 m ∧ bTxt (x ++ y) a 0 m = bTxt x a 0 m) := by
  rcases t_app (y := y) h with h1 | ⟨h1, h2, h3⟩
  · left
    have hb : tErr x a 0 ≠ 0 := by rw [h1]; decide
    obtain ⟨q1, q2⟩ := k_err (m := m) hb
    unfold bErr
    rw [q1, q2]
    exact (cErr_bad _ hb).trans h1
  · have e1 : kErr (x ++ y) a 0 m = kErr x a 0 m := by unfold kErr; rw [h1, h2]
    have e2 : kNum (x ++ y) a 0 m = kNum x a 0 m := by unfold kNum; rw [h1, h2]
    have e0 := kNum_bd x a 0 m
    unfold bErr bAt bTxt
    rw [e1, e2, h3]
    by_cases hk : kErr x a 0 m = 0
    · rw [hk]
      rcases c_app (x := x) (y := y) (a := tAt x a 0) (n := kNum x a 0 m) e0.1 with h4 | ⟨_, h5, h6, h7, h8⟩
      · exact Or.inl h4
      · exact Or.inr ⟨h6.trans h5.symm, h7, h8⟩
    · right
      rw [cErr_bad _ hk, cErr_bad _ hk, cAt_bad _ hk, cAt_bad _ hk, cBytes_bad _ hk, cBytes_bad _ hk]
      exact ⟨rfl, rfl, rfl⟩
end Go.Proofs.YtoefibkhlhmlfaaGreat
namespace Go.Proofs.YtoefibkhlhmlfaaGreat
open Go.RowKit
open Go.PlainAid (bt get_bt bt_nonneg bt_le)
theorem rcount_any {w : World} {b : Nat} {s : ByteArray} {a x : Int} (m : Int) (hm : m ≤ 9223372036854775807) (h : Cur w b s a x) :
    Calls Tryz.prog 92 #[ptr b, .int .i64 m] w fun e w' => e = .returned (.int .i64 (kNum s a x m)) ∧ Cur w' b s (tAt s a x) (kErr s a x m) ∧ Keep1 b w w' := by
  have hb := pMax_bd hm
  have ht := tNum_lt s a x
  by_cases he : tErr s a x = 0
  · by_cases ho : pMax m < tNum s a x
    · obtain ⟨q1, q2⟩ := k_over he ho
      rw [q1, q2]
      have hp : pMax m = if m < 0 then 0 else m := rfl
      generalize pMax m = L at *
      clear q1 q2
      by_cases h0 : m < 0
      · rw [if_pos h0] at hp
        subst hp
        go_enter Tryz.func92, Tryz.ntmps92
        go_wp2_with fail
        refine (rtake_any h).mono ?_
        rw [he]
        rintro e w1 ⟨rfl, h1, k1⟩
        obtain ⟨g0, g1, g2, g3, g4⟩ := h1.cells
        go_wp2
        go_ret
        exact ⟨rfl, h1.setErr 3, k1.set1 _ _⟩
      · rw [if_neg h0] at hp
        subst hp
        go_enter Tryz.func92, Tryz.ntmps92
        go_wp2_with fail
        refine (rtake_any h).mono ?_
        rw [he]
        rintro e w1 ⟨rfl, h1, k1⟩
        obtain ⟨g0, g1, g2, g3, g4⟩ := h1.cells
        go_wp2
        go_ret
        exact ⟨rfl, h1.setErr 3, k1.set1 _ _⟩
    · obtain ⟨q1, q2⟩ := k_ok he ho
      rw [q1, q2]
      have hp : pMax m = if m < 0 then 0 else m := rfl
      generalize pMax m = L at *
      clear q1 q2
      by_cases h0 : m < 0
      · rw [if_pos h0] at hp
        subst hp
        go_enter Tryz.func92, Tryz.ntmps92
        go_wp2_with fail
        refine (rtake_any h).mono ?_
        rw [he]
        rintro e w1 ⟨rfl, h1, k1⟩
        obtain ⟨g0, g1, g2, g3, g4⟩ := h1.cells
        go_wp2
        go_ret
        exact ⟨rfl, h1, k1⟩
      · rw [if_neg h0] at hp
        subst hp
        go_enter Tryz.func92, Tryz.ntmps92
        go_wp2_with fail
        refine (rtake_any h).mono ?_
        rw [he]
        rintro e w1 ⟨rfl, h1, k1⟩
        obtain ⟨g0, g1, g2, g3, g4⟩ := h1.cells
        go_wp2
        go_ret
        exact ⟨rfl, h1, k1⟩
  · obtain ⟨q1, q2⟩ := k_err (m := m) he
    have q3 := tNum_bad he
    rw [q1, q2]
    have he' : (tErr s a x != 0) = true := by simpa using he
    go_enter Tryz.func92, Tryz.ntmps92
    go_wp2_with fail
    refine (rtake_any h).mono ?_
    rintro e w1 ⟨rfl, h1, k1⟩
    obtain ⟨g0, g1, g2, g3, g4⟩ := h1.cells
    go_wp2
    go_ret
    exact ⟨rfl, h1, k1⟩
theorem rblob_any {w : World} {b : Nat} {s : ByteArray} {a x : Int} (m : Int) (hm : m ≤ 9223372036854775807) (h : Cur w b s a x) :
    Calls Tryz.prog 91 #[ptr b, .int .i64 m] w fun e w' => e = .returned (.string (bTxt s a x m)) ∧ Cur w' b s (bAt s a x m) (bErr s a x m) ∧ Keep1 b w w' := by
  go_enter Tryz.func91, Tryz.ntmps91
  go_wp2_with fail
  refine (rcount_any m hm h).mono ?_
  rintro e w1 ⟨rfl, h1, k1⟩
  go_wp2_with fail
  refine (rbytes_any _ h1).mono ?_
  rintro e w2 ⟨rfl, h2, k2⟩
  go_wp2
  go_ret
  exact ⟨rfl, h2, k1.trans k2⟩
theorem rflag_any {w : World} {b : Nat} {s : ByteArray} {a x : Int} (h : Cur w b s a x) :
    Calls Tryz.prog 94 #[ptr b] w fun e w' => e = .returned (.bool (gSet s a x)) ∧ Cur w' b s (cAt s a x 1) (gErr s a x) ∧ Keep1 b w w' := by
  by_cases hg : 1 < cByte s a x
  · have q1 : gErr s a x = cFail (cErr s a x 1) 13 := if_pos hg
    have q2 : gSet s a x = false := by unfold gSet; simp; omega
    rw [q1, q2]
    clear q1 q2
    go_enter Tryz.func94, Tryz.ntmps94
    go_wp2_with fail
    refine (rbyte_any h).mono ?_
    rintro e w1 ⟨rfl, h1, k1⟩
    go_wp2_with fail
    refine (rfail_any 13 h1).mono ?_
    rintro e w2 ⟨rfl, h2, k2⟩
    go_wp2
    go_ret
    exact ⟨rfl, h2, k1.trans k2⟩
  · have q1 : gErr s a x = cErr s a x 1 := if_neg hg
    have q2 : (cByte s a x == 1) = gSet s a x := rfl
    rw [q1]
    go_enter Tryz.func94, Tryz.ntmps94
    go_wp2_with fail
    refine (rbyte_any h).mono ?_
    rintro e w1 ⟨rfl, h1, k1⟩
    go_wp2
    go_ret
    exact ⟨rfl, h1, k1⟩
theorem rbput_any {w : World} {b : Nat} {t : ByteArray} {M x : Int} (m : Int) (hm : m ≤ 9223372036854775807) (s : ByteArray) (h : RPen w b t M x) (ht : t.size + s.size + 10 ≤ 140737488355328) :
    Calls Tryz.prog 157 #[pptr b, .int .i64 m, .string s] w fun e w' => e = .returned (.tuple #[]) ∧ RPen w' b (wPut M m (t, x) s).1 M (wPut M m (t, x) s).2 ∧ Keep1 b w w' := by
  have hb := pMax_bd hm
  have hp : pMax m = if m < 0 then 0 else m := rfl
  have hv := vText_le (n := s.size) (by omega)
  have hos := pOne_size M (t, x) (vText s.size)
  simp only at hos
  have hsz : (s.size : Int) ≤ 140737488355328 := by omega
  by_cases hf : (s.size : Int) ≤ pMax m
  · rw [wPut_fit hf]
    generalize pMax m = L at *
    by_cases h0 : m < 0
    · rw [if_pos h0] at hp
      subst hp
      go_enter Tryz.func157, Tryz.ntmps157
      go_wp2_with fail
      refine (rput_any s.size (by omega) h (by omega)).mono ?_
      rintro e w1 ⟨rfl, h1, k1⟩
      go_wp2_with fail
      refine (rptext_any s h1 (by omega)).mono ?_
      rintro e w2 ⟨rfl, h2, k2⟩
      go_wp2
      go_end0
      exact ⟨rfl, h2, k1.trans k2⟩
    · rw [if_neg h0] at hp
      subst hp
      go_enter Tryz.func157, Tryz.ntmps157
      go_wp2_with fail
      refine (rput_any s.size (by omega) h (by omega)).mono ?_
      rintro e w1 ⟨rfl, h1, k1⟩
      go_wp2_with fail
      refine (rptext_any s h1 (by omega)).mono ?_
      rintro e w2 ⟨rfl, h2, k2⟩
      go_wp2
      go_end0
      exact ⟨rfl, h2, k1.trans k2⟩
  · rw [wPut_long hf]
    generalize pMax m = L at *
    by_cases h0 : m < 0
    · rw [if_pos h0] at hp
      subst hp
      go_enter Tryz.func157, Tryz.ntmps157
      go_wp2_with fail
      refine (rpfail_any 3 h).mono ?_
      rintro e w1 ⟨rfl, h1, k1⟩
      go_wp2
      first | go_end0 | refine bodyPost_ret (results_none rfl _ _ _) rfl ?_
      exact ⟨rfl, h1, k1⟩
    · rw [if_neg h0] at hp
      subst hp
      go_enter Tryz.func157, Tryz.ntmps157
      go_wp2_with fail
      refine (rpfail_any 3 h).mono ?_
      rintro e w1 ⟨rfl, h1, k1⟩
      go_wp2
      first | go_end0 | refine bodyPost_ret (results_none rfl _ _ _) rfl ?_
      exact ⟨rfl, h1, k1⟩
theorem rpflag_any {w : World} {b : Nat} {t : ByteArray} {M x : Int} (f : Bool) (h : RPen w b t M x) (ht : t.size + 10 ≤ 140737488355328) :
    Calls Tryz.prog 156 #[pptr b, .bool f] w fun e w' => e = .returned (.tuple #[]) ∧ RPen w' b (wFlag M (t, x) f).1 M (wFlag M (t, x) f).2 ∧ Keep1 b w w' := by
  cases f with
  | true =>
    go_enter Tryz.func156, Tryz.ntmps156
    go_wp2_with fail
    refine (rpbyte_any 1 h (by omega)).mono ?_
    rintro e w1 ⟨rfl, h1, k1⟩
    go_wp2
    go_end0
    exact ⟨rfl, h1, k1⟩
  | false =>
    go_enter Tryz.func156, Tryz.ntmps156
    go_wp2_with fail
    refine (rpbyte_any 0 h (by omega)).mono ?_
    rintro e w1 ⟨rfl, h1, k1⟩
    go_wp2
    go_end0
    exact ⟨rfl, h1, k1⟩
theorem lBelow_same {l r : List UInt8} {k : Nat} (hl : k < l.length) (hr : k < r.length) (h : l[k] = r[k]) : lBelow (l.drop k) (r.drop k) = lBelow (l.drop (k + 1)) (r.drop (k + 1)) := by
  rw [List.drop_eq_getElem_cons hl, List.drop_eq_getElem_cons hr]
  show (if l[k] = r[k] then _ else _) = _
  rw [if_pos h]
theorem lBelow_diff {l r : List UInt8} {k : Nat} (hl : k < l.length) (hr : k < r.length) (h : l[k] ≠ r[k]) : lBelow (l.drop k) (r.drop k) = decide (l[k].toNat < r[k].toNat) := by
  rw [List.drop_eq_getElem_cons hl, List.drop_eq_getElem_cons hr]
  show (if l[k] = r[k] then _ else _) = _
  rw [if_neg h]
theorem lBelow_end {l r : List UInt8} {k : Nat} (h1 : k ≤ l.length) (h2 : k ≤ r.length) (h : ¬ (k < l.length ∧ k < r.length)) : lBelow (l.drop k) (r.drop k) = decide (l.length < r.length) := by
  by_cases hl : k < l.length
  · have hr : r.length = k := by omega
    have e : r.drop k = [] := List.drop_eq_nil_of_le (by omega)
    rw [e, List.drop_eq_getElem_cons hl]
    show false = _
    simp; omega
  · have e : l.drop k = [] := List.drop_eq_nil_of_le (by omega)
    rw [e]
    by_cases hr : k < r.length
    · rw [List.drop_eq_getElem_cons hr]
      show true = _
      simp; omega
    · have e : r.drop k = [] := List.drop_eq_nil_of_le (by omega)
      rw [e]
      show false = _
      simp; omega
set_option maxRecDepth 100000 in
theorem rbelow_any (w : World) (s t : ByteArray) (hs : s.size ≤ maxLen) (ht : t.size ≤ maxLen) :
    Calls Tryz.prog 50 #[.string s, .string t] w fun e w' => e = .returned (.bool (lBelow s.data.toList t.data.toList)) ∧ ∃ n, w' = w.drewN n := by
  have hgs := get_bt s
  have hgt := get_bt t
  have hs' : (s.size : Int) ≤ 9223372036854775807 := by unfold maxLen at hs; omega
  have ht' : (t.size : Int) ≤ 9223372036854775807 := by unfold maxLen at ht; omega
  obtain ⟨r, hr⟩ : ∃ r, lBelow s.data.toList t.data.toList = r := ⟨_, rfl⟩
  rw [hr]
  have HR : Hid (lBelow (s.data.toList.drop 0) (t.data.toList.drop 0) = r) := hr
  clear hr
  go_enter Tryz.func50, Tryz.ntmps50
  go_wp2_with fail
  go_loopw [5] (fun i wr => ∃ (k : Nat), k ≤ s.size ∧ k ≤ t.size ∧ i = .int .i64 k ∧ Hid (lBelow (s.data.toList.drop k) (t.data.toList.drop k) = r) ∧ ∃ n, wr = w.drewN n) (fun i _ => s.size - (intOf i).toNat)
  case atStart => exact ⟨0, by omega, by omega, rfl, HR, 0, rfl⟩
  case round =>
    obtain ⟨k, hk1, hk2, rfl, HK, n, rfl⟩ := hrel
    have hl1 : s.data.toList.length = s.size := by simp
    have hl2 : t.data.toList.length = t.size := by simp
    by_cases hlt : k < s.size ∧ k < t.size
    · obtain ⟨h1, h2⟩ := hlt
      have hb1 : bt s k = (s.data.toList[k].toNat : Int) := by rw [← hgs k h1]; rfl
      have hb2 : bt t k = (t.data.toList[k].toNat : Int) := by rw [← hgt k h2]; rfl
      have i1 : (k : Int) < s.size := by omega
      have i2 : (k : Int) < t.size := by omega
      have hk := HK.out
      have hsame := lBelow_same (l := s.data.toList) (r := t.data.toList) (k := k) (by omega) (by omega)
      have hdiff := lBelow_diff (l := s.data.toList) (r := t.data.toList) (k := k) (by omega) (by omega)
      generalize s.data.toList[k] = c at *
      generalize t.data.toList[k] = d at *
      by_cases hcd : c = d
      · rw [hsame hcd] at hk
        have HK2 : Hid (lBelow (s.data.toList.drop (k + 1)) (t.data.toList.drop (k + 1)) = r) := hk
        have hb2' : bt t k = (c.toNat : Int) := by rw [hb2, hcd]
        clear hsame hdiff hk HK hb2 hcd hl1 hl2
        go_wp2_with fail
        go_quiet (fail)
        go_wp2
        go_roundw
        case rel => exact ⟨k + 1, by omega, by omega, by go_num, HK2, _, rfl⟩
        case measure => simp [intOf]; omega
      · rw [hdiff hcd] at hk
        have hne : (c.toNat : Int) ≠ d.toNat := by
          intro e
          exact hcd (UInt8.toNat_inj.1 (by omega))
        have hne' : ((c.toNat : Int) != d.toNat) = true := by simpa using hne
        have hrr : Hid (decide (c.toNat < d.toNat) = r) := hk
        clear hsame hdiff hk HK hcd hl1 hl2
        go_wp2_with fail
        go_quiet (fail)
        go_wp2_with fail
        go_quiet (fail)
        go_wp2
        go_ret
        exact ⟨by rw [← hrr.out]; rfl, _, by rw [World.drewN_drewN, World.drewN_drewN]⟩
    · have he := lBelow_end (l := s.data.toList) (r := t.data.toList) (k := k) (by omega) (by omega) (by omega)
      rw [HK.out, hl1, hl2] at he
      have hrr : Hid (r = decide (s.size < t.size)) := he
      clear he HK hl1 hl2
      have hc : ¬ ((k : Int) < s.size ∧ (k : Int) < t.size) := by omega
      by_cases hc1 : (k : Int) < s.size
      · have hc2 : ¬ (k : Int) < t.size := by omega
        go_wp2
        go_ret
        exact ⟨by rw [hrr.out]; rfl, _, rfl⟩
      · go_wp2
        go_ret
        exact ⟨by rw [hrr.out]; rfl, _, rfl⟩
theorem rbelow_q (w : World) (n : Nat) (s t : ByteArray) (hs : s.size ≤ maxLen) (ht : t.size ≤ maxLen) :
    Calls Tryz.prog 50 #[.string s, .string t] (w.drewN n) fun e w' => e = .returned (.bool (lBelow s.data.toList t.data.toList)) ∧ ∃ m, w' = w.drewN m := by
  refine (rbelow_any (w.drewN n) s t hs ht).mono ?_
  rintro e w' ⟨rfl, m, rfl⟩
  exact ⟨rfl, _, by rw [World.drewN_drewN]⟩
theorem drewN_on {w w' : World} (h : ∃ n, w' = w.drewN n) (m : Nat) : ∃ n, w'.drewN m = w.drewN n := by
  obtain ⟨n, rfl⟩ := h
  exact ⟨_, by rw [World.drewN_drewN]⟩
def TextsIn (w : World) (ao : Option Addr) (l : List ByteArray) : Prop := ∀ k (hk : k < l.length), ∃ bb off, ao = some ⟨bb, off, none⟩ ∧ w.cell? ⟨bb, off + k, none⟩ = some (.string l[k])
end Go.Proofs.YtoefibkhlhmlfaaGreat
namespace Go.Proofs.YtoefibkhlhmlfaaGreat
open Go.RowKit
theorem less_below : ∀ (l r : List UInt8), Op.bytesLess l r = lBelow l r
  | [], [] => rfl
  | _ :: _, [] => rfl
  | [], _ :: _ => rfl
  | a :: l, b :: r => by
    show (decide (a < b) || (a == b && Op.bytesLess l r)) = if a = b then lBelow l r else decide (a.toNat < b.toNat)
    rw [less_below l r]
    by_cases h : a = b
    · subst h
      simp
    · rw [if_neg h]
      have : (a == b) = false := by simpa using h
      simp [this, UInt8.lt_iff_toNat_lt]
theorem below_not : ∀ (l r : List UInt8), (lBelow r l || r == l) = !lBelow l r
  | [], [] => rfl
  | _ :: _, [] => rfl
  | [], _ :: _ => rfl
  | a :: l, b :: r => by
    have ih := below_not l r
    show ((if b = a then lBelow r l else decide (b.toNat < a.toNat)) || (b :: r == a :: l)) = !(if a = b then lBelow l r else decide (a.toNat < b.toNat))
    by_cases h : a = b
    · subst h
      rw [if_pos rfl, if_pos rfl, ← ih]
      simp
    · rw [if_neg h, if_neg (Ne.symm h)]
      have h2 : (b == a) = false := by simpa using Ne.symm h
      have h3 : ((b :: r : List UInt8) == a :: l) = false := by simpa using fun e => absurd e.symm h
      have h4 : a.toNat ≠ b.toNat := fun e => h (UInt8.toNat_inj.1 e)
      rw [h3, Bool.or_false]
      by_cases hlt : b.toNat < a.toNat
      · simp [hlt]; omega
      · simp [hlt]; omega
theorem str_leq (t : TypeId) (a b : ByteArray) : binOp .leq t (.string a) (.string b) = pure (.bool (!lBelow b.data.toList a.data.toList)) := by
  have h := below_not b.data.toList a.data.toList
  simp only [binOp, Op.stringOp, ByteArray.toList_eq, less_below]
  rw [h]
end Go.Proofs.YtoefibkhlhmlfaaGreat
namespace Go.Proofs.YtoefibkhlhmlfaaGreat
open Go.RowKit
set_option linter.unusedVariables false in
theorem above_yes (w : World) (n m : Int) (hm : m ≤ 9223372036854775807) (h0 : 0 ≤ n) (hn : n ≤ 18446744073709551615) (h : pMax m < n) :
    Calls Tryz.prog 104 #[.int .u64 n, .int .i64 m] w fun e w' => e = .returned (.bool true) ∧ w = w' := by
  have hp : pMax m = if m < 0 then 0 else m := rfl
  by_cases hz : m < 0
  · rw [if_pos hz] at hp
    rw [hp] at h
    clear hp
    go_enter Tryz.func104, Tryz.ntmps104
    go_wp2
    go_ret
    exact ⟨rfl, rfl⟩
  · rw [if_neg hz] at hp
    rw [hp] at h
    clear hp
    have h1 : 0 ≤ m := by omega
    have h2 : m ≤ 18446744073709551615 := by omega
    go_enter Tryz.func104, Tryz.ntmps104
    go_wp2
    go_ret
    exact ⟨rfl, rfl⟩
set_option linter.unusedVariables false in
theorem above_no (w : World) (n m : Int) (hm : m ≤ 9223372036854775807) (h0 : 0 ≤ n) (hn : n ≤ 18446744073709551615) (h : ¬ pMax m < n) :
    Calls Tryz.prog 104 #[.int .u64 n, .int .i64 m] w fun e w' => e = .returned (.bool false) ∧ w = w' := by
  have hp : pMax m = if m < 0 then 0 else m := rfl
  by_cases hz : m < 0
  · rw [if_pos hz] at hp
    rw [hp] at h
    clear hp
    go_enter Tryz.func104, Tryz.ntmps104
    go_wp2
    go_ret
    exact ⟨rfl, rfl⟩
  · rw [if_neg hz] at hp
    rw [hp] at h
    clear hp
    have h1 : 0 ≤ m := by omega
    have h2 : m ≤ 18446744073709551615 := by omega
    go_enter Tryz.func104, Tryz.ntmps104
    go_wp2
    go_ret
    exact ⟨rfl, rfl⟩
theorem count6_any {w : World} {b : Nat} {s : ByteArray} {a x : Int} (m : Int) (hm : m ≤ 9223372036854775807) (h : Cur w b s a x) :
    Calls Tryz.prog 112 #[ptr b, .int .i64 m] w fun e w' => e = .returned (.int .i64 (kNum s a x m)) ∧ Cur w' b s (tAt s a x) (kErr s a x m) ∧ Keep1 b w w' := by
  have hb := pMax_bd hm
  have ht := tNum_lt s a x
  by_cases ho : pMax m < tNum s a x
  · have he : tErr s a x = 0 := by
      by_cases he : tErr s a x = 0
      · exact he
      · have := tNum_bad he
        omega
    obtain ⟨q1, q2⟩ := k_over he ho
    have q3 : cFail 0 3 = 3 := rfl
    rw [q1, q2]
    have hA := fun w => above_yes w _ m hm ht.1 ht.2 ho
    clear q1 q2
    go_enter Tryz.func112, Tryz.ntmps112
    go_wp2_with fail
    refine (take_any h).mono ?_
    rw [he]
    rintro e w1 ⟨rfl, h1, k1⟩
    go_wp2_with fail
    refine (hA w1).mono ?_
    rintro e w' ⟨rfl, rfl⟩
    go_wp2_with fail
    refine (fail_any 3 h1).mono ?_
    rw [q3]
    rintro e w2 ⟨rfl, h2, k2⟩
    go_wp2
    go_ret
    exact ⟨rfl, h2, k1.trans k2⟩
  · have q : kNum s a x m = tNum s a x ∧ kErr s a x m = tErr s a x := by
      by_cases he : tErr s a x = 0
      · obtain ⟨q1, q2⟩ := k_ok he ho
        exact ⟨q1, by rw [q2, he]⟩
      · obtain ⟨q1, q2⟩ := k_err (m := m) he
        exact ⟨by rw [q1, tNum_bad he], q2⟩
    rw [q.1, q.2]
    have hA := fun w => above_no w _ m hm ht.1 ht.2 ho
    clear q
    have ho' : tNum s a x ≤ 9223372036854775807 := by omega
    go_enter Tryz.func112, Tryz.ntmps112
    go_wp2_with fail
    refine (take_any h).mono ?_
    rintro e w1 ⟨rfl, h1, k1⟩
    go_wp2_with fail
    refine (hA w1).mono ?_
    rintro e w' ⟨rfl, rfl⟩
    go_wp2
    go_ret
    exact ⟨rfl, h1, k1⟩
theorem blob6_any {w : World} {b : Nat} {s : ByteArray} {a x : Int} (m : Int) (hm : m ≤ 9223372036854775807) (h : Cur w b s a x) :
    Calls Tryz.prog 111 #[ptr b, .int .i64 m] w fun e w' => e = .returned (.string (bTxt s a x m)) ∧ Cur w' b s (bAt s a x m) (bErr s a x m) ∧ Keep1 b w w' := by
  go_enter Tryz.func111, Tryz.ntmps111
  go_wp2_with fail
  refine (count6_any m hm h).mono ?_
  rintro e w1 ⟨rfl, h1, k1⟩
  go_wp2_with fail
  refine (bytes_any _ h1).mono ?_
  rintro e w2 ⟨rfl, h2, k2⟩
  go_wp2
  go_ret
  exact ⟨rfl, h2, k1.trans k2⟩
theorem flag6_any {w : World} {b : Nat} {s : ByteArray} {a x : Int} (h : Cur w b s a x) :
    Calls Tryz.prog 115 #[ptr b] w fun e w' => e = .returned (.bool (gSet s a x)) ∧ Cur w' b s (cAt s a x 1) (gErr s a x) ∧ Keep1 b w w' := by
  have hbd := cByte_bd s a x
  by_cases hg : 1 < cByte s a x
  · have q1 : gErr s a x = cFail (cErr s a x 1) 13 := if_pos hg
    have q2 : (cByte s a x == 1) = gSet s a x := rfl
    rw [q1]
    go_enter Tryz.func115, Tryz.ntmps115
    go_wp2_with fail
    refine (byte_any h).mono ?_
    rintro e w1 ⟨rfl, h1, k1⟩
    go_wp2_with fail
    refine (fail_any 13 h1).mono ?_
    rintro e w2 ⟨rfl, h2, k2⟩
    go_wp2
    go_ret
    exact ⟨rfl, h2, k1.trans k2⟩
  · have q1 : gErr s a x = cErr s a x 1 := if_neg hg
    have q2 : (cByte s a x == 1) = gSet s a x := rfl
    rw [q1]
    go_enter Tryz.func115, Tryz.ntmps115
    go_wp2_with fail
    refine (byte_any h).mono ?_
    rintro e w1 ⟨rfl, h1, k1⟩
    go_wp2
    go_ret
    exact ⟨rfl, h1, k1⟩
end Go.Proofs.YtoefibkhlhmlfaaGreat
namespace Go.Proofs.YtoefibkhlhmlfaaGreat
open Go.RowKit
theorem PenAfter.same {w : World} {b r : Nat} {m : Int} {t : ByteArray} {x : Int} (h : Pen w b r t m x) : PenAfter w w b r m (t, x) := ⟨r, h, Keep.refl _ _, .inl rfl⟩
theorem PenAfter.fail {w w' : World} {b r : Nat} {m : Int} {t : ByteArray} {x : Int} (h : Pen w' b r t m x) (k : Keep1 b w w') : PenAfter w w' b r m (t, x) := ⟨r, h, k.mono (fun _ _ e => .inl e), .inl rfl⟩
theorem PenAfter.trans {w w1 w2 : World} {b r r1 : Nat} {m : Int} {p : ByteArray × Int} (k1 : Keep (two b r) w w1) (hr : r1 = r ∨ w.heap.size ≤ r1) (h2 : PenAfter w1 w2 b r1 m p) : PenAfter w w2 b r m p := by
  obtain ⟨r2, hp, k2, hr2⟩ := h2
  have := k1.size
  refine ⟨r2, hp, k1.step k2 (fun i hi hh => ?_), by omega⟩
  simp only [two] at hh ⊢
  omega
theorem vput_one {w : World} {b r : Nat} {t : ByteArray} {M x : Int} (h : Pen w b r t M x) (n : Nat) (hn : n < 18446744073709551616) (hfit : t.size + 10 ≤ 140737488355328) (ty : TypeId) :
    Calls Tryz.prog 105 #[pptr b, .slice (some ⟨w.heap.size, 0, none⟩) 1 1] (w.alloc (.cells #[.int .u64 n] ty)) fun e w' => e = .returned (.tuple #[]) ∧ PenAfter w w' b r M (pOne M (t, x) (vText n)) := by
  have k0 : Keep0 w (w.alloc (.cells #[.int .u64 n] ty)) := (Keep.refl _ w).alloc _
  have l1 := h.lt
  have l2 := h.rlt
  refine (put_any (h.keep0 k0) (some ⟨w.heap.size, 0, none⟩) 1 [n] (by simpa using hn) ?_ (by simp) (by simpa using hfit)).mono ?_
  · intro k hk
    obtain rfl : k = 0 := by simpa using hk
    exact ⟨w.heap.size, 0, rfl, cell_alloc w ty rfl, by omega, by omega⟩
  · rintro e w' ⟨rfl, h1⟩
    exact ⟨rfl, PenAfter.trans k0.any (.inl rfl) h1⟩
theorem text_one {w : World} {b r : Nat} {t : ByteArray} {M x : Int} (h : Pen w b r t M x) (s : ByteArray) (hfit : (t.size : Int) + s.size ≤ 140737488355328 ∨ M ≤ 140737488355328) (ty : TypeId) :
    Calls Tryz.prog 103 #[pptr b, .slice (some ⟨w.heap.size, 0, none⟩) 1 1] (w.alloc (.cells #[.string s] ty)) fun e w' => e = .returned (.tuple #[]) ∧ PenAfter w w' b r M (pOne M (t, x) s) := by
  have k0 : Keep0 w (w.alloc (.cells #[.string s] ty)) := (Keep.refl _ w).alloc _
  have l1 := h.lt
  have l2 := h.rlt
  refine (ptext_any (h.keep0 k0) (some ⟨w.heap.size, 0, none⟩) 1 [s] ?_ (by simp) (by simpa using hfit)).mono ?_
  · intro k hk
    obtain rfl : k = 0 := by simpa using hk
    exact ⟨w.heap.size, 0, rfl, cell_alloc w ty rfl, by omega, by omega⟩
  · rintro e w' ⟨rfl, h1⟩
    exact ⟨rfl, PenAfter.trans k0.any (.inl rfl) h1⟩
theorem byte_one {w : World} {b r : Nat} {t : ByteArray} {M x : Int} (h : Pen w b r t M x) (c : UInt8) (hfit : (t.size : Int) + 1 ≤ 140737488355328 ∨ M ≤ 140737488355328) (ty : TypeId) :
    Calls Tryz.prog 173 #[pptr b, .slice (some ⟨w.heap.size, 0, none⟩) 1 1] (w.alloc (.cells #[.int .u8 (c.toNat : Int)] ty)) fun e w' => e = .returned (.tuple #[]) ∧ PenAfter w w' b r M (pOne M (t, x) (one c)) := by
  have k0 : Keep0 w (w.alloc (.cells #[.int .u8 (c.toNat : Int)] ty)) := (Keep.refl _ w).alloc _
  have l1 := h.lt
  have l2 := h.rlt
  refine (pbyte_any (h.keep0 k0) (some ⟨w.heap.size, 0, none⟩) 1 [c] ?_ (by simp) (by simpa using hfit)).mono ?_
  · intro k hk
    obtain rfl : k = 0 := by simpa using hk
    exact ⟨w.heap.size, 0, rfl, cell_alloc w ty rfl, by omega, by omega⟩
  · rintro e w' ⟨rfl, h1⟩
    exact ⟨rfl, PenAfter.trans k0.any (.inl rfl) h1⟩
theorem pfail6 {w : World} {b r : Nat} {t : ByteArray} {M x : Int} (y : Int) (h : Pen w b r t M x) : Calls Tryz.prog 71 #[pptr b, .int .i64 y] w fun e w' => e = .returned (.tuple #[]) ∧ PenAfter w w' b r M (t, pFail x y) := by
  refine (pfail_any y h).mono ?_
  rintro e w' ⟨rfl, h1, k1⟩
  exact ⟨rfl, PenAfter.fail h1 k1⟩
theorem pcount6_any {w : World} {b r : Nat} {t : ByteArray} {M x : Int} (m n : Int) (hm : m ≤ 9223372036854775807) (hn : n ≤ 9223372036854775807) (h : Pen w b r t M x) (ht : t.size + 10 ≤ 140737488355328) :
    Calls Tryz.prog 73 #[pptr b, .int .i64 m, .int .i64 n] w fun e w' => e = .returned (.tuple #[]) ∧ PenAfter w w' b r M (wCount M m (t, x) n) := by
  have hb := pMax_bd hm
  by_cases h1 : n < 0
  · have q : wCount M m (t, x) n = (t, pFail x 1) := if_pos h1
    rw [q]
    clear q hb
    go_enter Tryz.func73, Tryz.ntmps73
    go_wp2_with fail
    refine (pfail6 1 h).mono ?_
    rintro e w1 ⟨rfl, h1⟩
    go_wp2
    first | go_end0 | refine bodyPost_ret (results_none rfl _ _ _) rfl ?_
    exact ⟨rfl, h1⟩
  · obtain ⟨k, rfl⟩ : ∃ k : Nat, n = k := ⟨n.toNat, by omega⟩
    by_cases hf : (k : Int) ≤ pMax m
    · have q : wCount M m (t, x) k = pOne M (t, x) (vText k) := by unfold wCount; rw [if_neg h1, if_pos hf]; rfl
      rw [q]
      have hA := above_no w k m hm (by omega) (by omega) (by omega)
      clear q h1
      go_enter Tryz.func73, Tryz.ntmps73
      go_wp2_with fail
      refine hA.mono ?_
      rintro e w' ⟨rfl, rfl⟩
      go_wp2_with fail
      refine (vput_one h k (by omega) ht _).mono ?_
      rintro e w1 ⟨rfl, h1⟩
      go_wp2
      go_end0
      exact ⟨rfl, h1⟩
    · have q : wCount M m (t, x) k = (t, pFail x 3) := by unfold wCount; rw [if_neg h1, if_neg hf]
      rw [q]
      have hA := above_yes w k m hm (by omega) (by omega) (by omega)
      clear q h1
      go_enter Tryz.func73, Tryz.ntmps73
      go_wp2_with fail
      refine hA.mono ?_
      rintro e w' ⟨rfl, rfl⟩
      go_wp2_with fail
      refine (pfail6 3 h).mono ?_
      rintro e w1 ⟨rfl, h1⟩
      go_wp2
      first | go_end0 | refine bodyPost_ret (results_none rfl _ _ _) rfl ?_
      exact ⟨rfl, h1⟩
theorem pflag6_any {w : World} {b r : Nat} {t : ByteArray} {M x : Int} (f : Bool) (h : Pen w b r t M x) (ht : t.size + 10 ≤ 140737488355328) :
    Calls Tryz.prog 148 #[pptr b, .bool f] w fun e w' => e = .returned (.tuple #[]) ∧ PenAfter w w' b r M (wFlag M (t, x) f) := by
  cases f with
  | true =>
    go_enter Tryz.func148, Tryz.ntmps148
    go_wp2_with fail
    refine (byte_one h 1 (.inl (by omega)) _).mono ?_
    rintro e w1 ⟨rfl, h1⟩
    go_wp2
    first | go_end0 | refine bodyPost_ret (results_none rfl _ _ _) rfl ?_
    exact ⟨rfl, h1⟩
  | false =>
    go_enter Tryz.func148, Tryz.ntmps148
    go_wp2_with fail
    refine (byte_one h 0 (.inl (by omega)) _).mono ?_
    rintro e w1 ⟨rfl, h1⟩
    go_wp2
    first | go_end0 | refine bodyPost_ret (results_none rfl _ _ _) rfl ?_
    exact ⟨rfl, h1⟩
theorem wPut_count (M m : Int) (p : ByteArray × Int) (s : ByteArray) : wPut M m p s = pOne M (wCount M m p s.size) s := by
  unfold wCount
  rw [if_neg (by omega)]
  by_cases hf : (s.size : Int) ≤ pMax m
  · rw [wPut_fit hf, if_pos hf]
    rfl
  · rw [wPut_long hf, if_neg hf, pOne_err (pFail_zero (by decide))]
theorem wPuts_size (M m : Int) : ∀ (l : List ByteArray) (p : ByteArray × Int), (∀ s ∈ l, s.size < 18446744073709551616) → (wPuts M m p l).1.size ≤ p.1.size + (l.map ByteArray.size).sum + 10 * l.length
  | [], p, _ => by simp [wPuts]
  | s :: l, p, h => by
    have h1 := wPuts_size M m l (wPut M m p s) (fun x hx => h x (by simp [hx]))
    have h2 := wPut_size M m p s (h s (by simp))
    show (wPuts M m (wPut M m p s) l).1.size ≤ _
    simp only [List.map_cons, List.sum_cons, List.length_cons]
    omega
def Room (M : Int) (t : ByteArray) (l : List ByteArray) : Prop := t.size + (l.map ByteArray.size).sum + 10 * l.length ≤ 140737488355000 ∨ M ≤ 140737488355000
set_option maxRecDepth 100000 in
set_option maxHeartbeats 2000000 in
theorem bput_any {w : World} {b r : Nat} {t : ByteArray} {M x : Int} (h : Pen w b r t M x) (m : Int) (hm : m ≤ 9223372036854775807) (ao : Option Addr) (cap : Nat) (l : List ByteArray) (hl : l.length ≤ maxLen) (hls : ∀ s ∈ l, s.size ≤ maxLen)
    (hc : ∀ k (hk : k < l.length), ∃ bb off, ao = some ⟨bb, off, none⟩ ∧ w.cell? ⟨bb, off + k, none⟩ = some (.string l[k]) ∧ bb ≠ b ∧ bb ≠ r) (hfit : Room M t l) :
    Calls Tryz.prog 72 #[pptr b, .int .i64 m, .slice ao l.length cap] w fun e w' => e = .returned (.tuple #[]) ∧ PenAfter w w' b r M (wPuts M m (t, x) l) := by
  have hl' : (l.length : Int) ≤ 9223372036854775807 := by unfold maxLen at hl; omega
  have hb := pMax_bd hm
  have HC : Hid (∀ k (hk : k < l.length), ∃ bb off, ao = some ⟨bb, off, none⟩ ∧ w.cell? ⟨bb, off + k, none⟩ = some (.string l[k]) ∧ bb ≠ b ∧ bb ≠ r) := hc
  have HS : Hid (∀ s ∈ l, s.size ≤ maxLen) := hls
  have HF : Hid (Room M t l) := hfit
  clear hc hls hfit
  go_enter Tryz.func72, Tryz.ntmps72
  go_wp2_with fail
  go_loopw [10] (fun i wr => ∃ (k r' : Nat) (t' : ByteArray) (x' : Int), k ≤ l.length ∧ i = .int .i64 k ∧ Pen wr b r' t' M x' ∧ wPuts M m (t, x) (l.take k) = (t', x') ∧ Keep (two b r) w wr ∧ (r' = r ∨ w.heap.size ≤ r')) (fun i _ => l.length - (intOf i).toNat)
  case atStart => exact ⟨0, r, t, x, by omega, rfl, h, rfl, Keep.refl _ _, .inl rfl⟩
  case round =>
    obtain ⟨k, r', t', x', hk, rfl, hp, hall, hkp, hr⟩ := hrel
    by_cases hlt : k < l.length
    · obtain ⟨bb, off, rfl, hcell0, hb1, hb2⟩ := HC.out k hlt
      have hcell : wr.cell? ⟨bb, off + k, none⟩ = some (.string l[k]) := hkp.cell hcell0 (by simp only [two]; omega)
      have hstep := wPuts_take M m (t, x) l k hlt
      rw [hall] at hstep
      have hsk := HS.out l[k] (List.getElem_mem hlt)
      have hsz := wPuts_size M m (l.take k) (t, x) (fun s hs => by have := HS.out s (List.mem_of_mem_take hs); unfold maxLen at this; omega)
      rw [hall] at hsz
      have hs1 := sum_take_succ l k hlt
      have hs2 := sum_take_le l (k + 1)
      have hlen : (l.take k).length = k := by rw [List.length_take]; omega
      rw [hlen] at hsz
      have hroom : (t'.size + 10 ≤ 140737488355328) ∧ ((t'.size : Int) + 10 + l[k].size ≤ 140737488355328 ∨ M ≤ 140737488355328) := by
        have hfit := hp.fit
        have := HF.out
        unfold Room at this
        simp only at hsz
        constructor
        · omega
        · omega
      have hse : wr.cell? ⟨bb, off + k, none⟩ = some (.string l[k]) := hcell
      generalize l[k] = s at *
      have hsi : (s.size : Int) ≤ 9223372036854775807 := by unfold maxLen at hsk; omega
      clear hcell hcell0 hs1 hs2 hsz hlen
      have hlt' : (k : Int) < l.length := by omega
      have HS2 : Hid (wPuts M m (t, x) (l.take (k + 1)) = pOne M (wCount M m (t', x') s.size) s) := hstep.trans (wPut_count M m (t', x') s)
      clear hstep hall
      have hos := wCount_size M m (t', x') s.size (by omega)
      simp only at hos
      go_wp2_with fail
      refine (pcount6_any m s.size hm hsi hp hroom.1).mono ?_
      rintro e w2 ⟨rfl, r2, hp2, k2, hr2⟩
      go_wp2_with fail
      refine (text_one hp2 s (by omega) _).mono ?_
      rintro e w3 ⟨rfl, hA⟩
      obtain ⟨r3, hp3, k3, hr3⟩ := PenAfter.trans hkp hr (PenAfter.trans k2 hr2 hA)
      clear hos hroom k2 hp2 hA
      go_wp2
      go_roundw
      case rel => exact ⟨k + 1, r3, _, _, by omega, by go_num, hp3, HS2.out, k3, hr3⟩
      case measure => simp [intOf]; omega
    · rw [List.take_of_length_le (by omega)] at hall
      have HE : Hid (wPuts M m (t, x) l = (t', x')) := hall
      clear hall
      go_wp2
      go_end0
      refine ⟨rfl, ?_⟩
      rw [HE.out]
      exact ⟨r', hp, hkp, hr⟩
set_option maxRecDepth 100000 in
theorem rising6_any (w : World) (ao : Option Addr) (cap : Nat) (l : List ByteArray) (hl : l.length ≤ maxLen) (hc : TextsIn w ao l) :
    Calls Tryz.prog 141 #[.slice ao l.length cap] w fun e w' => e = .returned (.int .i64 (rise l)) ∧ ∃ n, w' = w.drewN n := by
  have hl' : (l.length : Int) ≤ 9223372036854775807 := by unfold maxLen at hl; omega
  have HC : Hid (TextsIn w ao l) := hc
  obtain ⟨r, hr⟩ : ∃ r, rise l = r := ⟨_, rfl⟩
  rw [hr]
  have HR : Hid (riseAt ((0 : Nat) + 1 : Nat) (l.drop 0) = r) := hr
  clear hr hc
  have hleq := str_leq 9
  go_enter Tryz.func141, Tryz.ntmps141
  go_wp2_with fail
  go_loopw [3] (fun i wr => ∃ (k : Nat), (k + 1 ≤ l.length ∨ k = 0) ∧ i = .int .i64 ((k + 1 : Nat) : Int) ∧ Hid (riseAt ((k + 1 : Nat) : Int) (l.drop k) = r) ∧ ∃ n, wr = w.drewN n) (fun i _ => l.length - (intOf i).toNat)
  case atStart => exact ⟨0, .inr rfl, rfl, HR, 0, rfl⟩
  case round =>
    obtain ⟨k, hk, rfl, HK, hWr⟩ := hrel
    have kr := keepN hWr
    have HW : Hid (∃ n, wr = w.drewN n) := hWr
    clear hWr
    by_cases hlt : k + 1 < l.length
    · obtain ⟨bb, off, rfl, hc1'⟩ := HC.out k (by omega)
      obtain ⟨bb2, off2, e2, hc2'⟩ := HC.out (k + 1) hlt
      cases e2
      have hc1 := kr.cell hc1' (fun f => f)
      have hc2 := kr.cell hc2' (fun f => f)
      clear hc1' hc2'
      have hst := riseAt_step hlt (((k + 1 : Nat) : Int))
      rw [HK.out] at hst
      generalize l[k] = s at *
      generalize l[k + 1] = t at *
      generalize hj : k + 1 = j at *
      have i1 : (j : Int) < l.length := by omega
      have i2 : (j : Int) - 1 = (k : Int) := by omega
      have hwk : IntKind.i64.wrap (k : Int) = k := by rw [IntKind.wrap_i64]; omega
      have i3 : (k : Int) < l.length := by omega
      have i4 : k < l.length := by omega
      have HJ : Hid (k + 1 = j) := hj
      clear hj hk
      cases hb : lBelow s.data.toList t.data.toList with
      | true =>
        rw [hb, if_pos rfl] at hst
        have HK2 : Hid (riseAt ((j + 1 : Nat) : Int) (l.drop j) = r) := hst.symm
        clear hst HK
        go_wp2_with fail
        go_quiet (fail)
        go_wp2
        go_roundw
        case rel => exact ⟨j, .inl (by omega), by go_num, HK2, drewN_on HW.out _⟩
        case measure => simp [intOf]; omega
      | false =>
        rw [hb] at hst
        have HK2 : Hid (r = (j : Int)) := hst
        clear hst HK
        go_wp2_with fail
        go_quiet (fail)
        go_wp2
        go_ret
        exact ⟨by rw [HK2.out]; go_num, drewN_on HW.out _⟩
    · have he := riseAt_end (l := l) (k := k) (by omega) (((k + 1 : Nat) : Int))
      rw [HK.out] at he
      subst he
      have i1 : ¬ ((k + 1 : Nat) : Int) < l.length := by omega
      clear HK HR
      go_wp2
      go_ret
      exact ⟨rfl, HW.out⟩
end Go.Proofs.YtoefibkhlhmlfaaGreat
