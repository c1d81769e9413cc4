/-
  Frames out of chunks, on texts and lists: what a framer has and tells behind each chunk, and that it comes to the same however a text is cut. No program.
  Conditions: none beyond what each lemma states.
-/
import Derived.Test.YtmgfalkelembkaaL8
namespace Go.Proofs.Ytmgfalkelembkaa
open Go.RowKit

/-- The frames of a text, its error, how many bytes are left. -/
def fs (s : ByteArray) : List Fr := frsOf (sAll s).1
def er (s : ByteArray) : Int := (sAll s).2.2
def lf (s : ByteArray) : Nat := (sAll s).2.1
/-- What is kept of a text. -/
def tail (s : ByteArray) (n : Nat) : ByteArray := s.extract (s.size - n) s.size
def kp (s : ByteArray) : ByteArray := if er s = 0 then tail s (lf s) else ⟨#[]⟩
/-- All that counts behind a chunk more; what is told of it. -/
def push9 (s c : ByteArray) : ByteArray := if er s = 0 then s ++ c else s
def told9 (s c : ByteArray) : List Fr := (fs (push9 s c)).drop (fs s).length

theorem frsOf_cons (f : Fr) (a : Nat) (l : List (Fr × Nat)) : frsOf ((f, a) :: l) = f :: frsOf l := rfl
theorem tail_app {x y : ByteArray} {n : Nat} (h : n ≤ y.size) : tail (x ++ y) n = tail y n := by
  unfold tail
  apply ByteArray.ext
  apply Array.toList_inj.1
  rw [ByteArray.data_extract, ByteArray.data_extract, Array.toList_extract, Array.toList_extract, List.extract_eq_take_drop, List.extract_eq_take_drop, ByteArray.data_append, Array.toList_append]
  have hx : x.data.toList.length = x.size := by simp
  have hy : y.data.toList.length = y.size := by simp
  have hs : (x ++ y).size = x.size + y.size := ByteArray.size_append
  rw [hs, show x.size + y.size - n = x.data.toList.length + (y.size - n) from by omega, List.drop_append, List.drop_of_length_le (by omega), List.nil_append, show x.data.toList.length + (y.size - n) - x.data.toList.length = y.size - n from by omega, List.take_of_length_le (by rw [List.length_drop]; omega), List.take_of_length_le (by rw [List.length_drop]; omega)]
theorem tail_size {s : ByteArray} {n : Nat} (h : n ≤ s.size) : (tail s n).size = n := by
  unfold tail
  rw [ByteArray.size_extract]
  omega
theorem tail_all (s : ByteArray) : tail s s.size = s := by
  unfold tail
  rw [Nat.sub_self]
  simp
theorem tail_back {s : ByteArray} {n : Nat} (h : n ≤ s.size) : s.extract 0 (s.size - n) ++ tail s n = s := extract_app (by omega)
theorem frame_parts {s : ByteArray} (h : qErr s 0 0 = 0) : ∃ f : Fr, f.ok ∧ s = f.enc ++ sRest s ∧ sFr s = f ∧ sN s = f.enc.size := by
  obtain ⟨v, k, p, _, hv, hp, _, i, j, q⟩ := frame_read (by decide) h
  obtain ⟨n1, n2, n3⟩ := s_step h
  have e : qLen s = qAt s 0 0 := if_pos h
  have hN : sN s = (fEnc v k p).size := by omega
  have hcut : s.extract 0 (sN s) = fEnc v k p := by
    rw [← q]
    unfold cut
    congr 1
    omega
  have hs : s = (⟨v, k, p⟩ : Fr).enc ++ sRest s := by
    have := (extract_app n3).symm
    rw [hcut] at this
    exact this
  refine ⟨⟨v, k, p⟩, ⟨hv, hp⟩, hs, ?_, hN⟩
  have := (sFr_back (f := ⟨v, k, p⟩) ⟨hv, hp⟩ (sRest s)).2.1
  rwa [← hs] at this
theorem enc_pos (f : Fr) : 0 < f.enc.size := by
  unfold Fr.enc
  rw [fEnc_size]
  omega
/-- Nothing hangs on how far one may go, nor on the place at which it begins. -/
theorem sGo_any : ∀ (k k' : Nat) (s : ByteArray) (a a' : Nat), s.size < k → s.size < k' → frsOf (sGo k s a).1 = frsOf (sGo k' s a').1 ∧ (sGo k s a).2 = (sGo k' s a').2
  | 0, _, _, _, _, h, _ => absurd h (by omega)
  | _ + 1, 0, _, _, _, _, h => absurd h (by omega)
  | k + 1, k' + 1, s, a, a', h, h' => by
    by_cases h0 : qErr s 0 0 = 0
    · obtain ⟨_, n2, n3⟩ := s_step h0
      have hz := sRest_size (s := s)
      obtain ⟨i1, i2⟩ := sGo_any k k' (sRest s) (a + sN s) (a' + sN s) (by omega) (by omega)
      rw [sGo_more h0, sGo_more h0]
      exact ⟨by rw [frsOf_cons, frsOf_cons, i1], i2⟩
    · rw [sGo_stop h0, sGo_stop h0]
      exact ⟨rfl, rfl⟩
theorem sGo_left : ∀ (k : Nat) (s : ByteArray) (a : Nat), (sGo k s a).2.1 ≤ s.size
  | 0, _, _ => Nat.le_refl _
  | k + 1, s, a => by
    by_cases h0 : qErr s 0 0 = 0
    · have := sGo_left k (sRest s) (a + sN s)
      rw [sRest_size] at this
      rw [sGo_more h0]
      show (sGo k (sRest s) (a + sN s)).2.1 ≤ _
      omega
    · rw [sGo_stop h0]
      exact Nat.le_refl _
theorem lf_le (s : ByteArray) : lf s ≤ s.size := sGo_left _ _ _
theorem all_one {f : Fr} (h : f.ok) (r : ByteArray) : fs (f.enc ++ r) = f :: fs r ∧ (sAll (f.enc ++ r)).2 = (sAll r).2 := by
  obtain ⟨h1, h2, h3, h4⟩ := sFr_back h r
  have hs : (f.enc ++ r).size = f.enc.size + r.size := ByteArray.size_append
  have hp := enc_pos f
  unfold fs
  have e : sAll (f.enc ++ r) = ((f, 0) :: (sGo (f.enc ++ r).size r (0 + sN (f.enc ++ r))).1, (sGo (f.enc ++ r).size r (0 + sN (f.enc ++ r))).2) := by
    show sGo ((f.enc ++ r).size + 1) (f.enc ++ r) 0 = _
    rw [sGo_more h1, h2, h4]
  obtain ⟨i1, i2⟩ := sGo_any (f.enc ++ r).size (r.size + 1) r (0 + sN (f.enc ++ r)) 0 (by omega) (by omega)
  rw [e]
  exact ⟨by rw [frsOf_cons, i1]; rfl, i2⟩
theorem all_none {s : ByteArray} (h : qErr s 0 0 ≠ 0) : sAll s = ([], s.size, sErr s) := sGo_stop h
/-- A text with another one behind it: what was left goes on, and what was told stays; behind an error nothing comes. -/
theorem all_app : ∀ (n : Nat) (s c : ByteArray), s.size ≤ n →
    (er s = 0 → fs (s ++ c) = fs s ++ fs (tail s (lf s) ++ c) ∧ (sAll (s ++ c)).2 = (sAll (tail s (lf s) ++ c)).2) ∧ (er s ≠ 0 → fs (s ++ c) = fs s ∧ er (s ++ c) = er s) := by
  intro n
  induction n with
  | zero =>
    intro s c h
    have e : s = ⟨#[]⟩ := ByteArray.ext (Array.eq_empty_of_size_eq_zero (by show s.size = 0; omega))
    subst e
    have a0 : sAll ⟨#[]⟩ = ([], 0, 0) := by
      rw [all_none (by rw [nil_short]; decide)]
      unfold sErr
      rw [nil_short]
      rfl
    refine ⟨fun _ => ?_, fun h => absurd (by unfold er; rw [a0]) h⟩
    have e1 : fs ⟨#[]⟩ = [] := by unfold fs; rw [a0]; rfl
    have e2 : lf ⟨#[]⟩ = 0 := by unfold lf; rw [a0]
    have e3 : tail ⟨#[]⟩ 0 = ⟨#[]⟩ := rfl
    rw [e1, e2, e3, List.nil_append]
    exact ⟨rfl, rfl⟩
  | succ n ih =>
    intro s c hn
    by_cases h0 : qErr s 0 0 = 0
    · obtain ⟨f, hf, hs, _, hN⟩ := frame_parts h0
      generalize sRest s = r at hs
      have hp := enc_pos f
      have hz : s.size = f.enc.size + r.size := by rw [hs]; exact ByteArray.size_append
      obtain ⟨i1, i2⟩ := all_one hf r
      obtain ⟨j1, j2⟩ := all_one hf (r ++ c)
      rw [← hs] at i1 i2
      have hc : f.enc ++ (r ++ c) = s ++ c := by rw [hs, ByteArray.append_assoc]
      rw [hc] at j1 j2
      obtain ⟨p1, p2⟩ := ih r c (by omega)
      have e1 : er s = er r := by unfold er; rw [i2]
      have e2 : lf s = lf r := by unfold lf; rw [i2]
      have e3 : tail s (lf s) = tail r (lf r) := by rw [e2, hs]; exact tail_app (lf_le r)
      have e4 : er (s ++ c) = er (r ++ c) := by unfold er; rw [j2]
      refine ⟨fun h => ?_, fun h => ?_⟩
      · obtain ⟨q1, q2⟩ := p1 (e1 ▸ h)
        rw [e3, j1, i1, j2, q1, q2]
        exact ⟨rfl, rfl⟩
      · obtain ⟨q1, q2⟩ := p2 (e1 ▸ h)
        rw [j1, i1, e4, e1, q1, q2]
        exact ⟨rfl, rfl⟩
    · have a0 := all_none h0
      have e1 : fs s = [] := by unfold fs; rw [a0]; rfl
      have e2 : lf s = s.size := by unfold lf; rw [a0]
      have e3 : er s = sErr s := by unfold er; rw [a0]
      refine ⟨fun _ => by rw [e1, e2, tail_all, List.nil_append]; exact ⟨rfl, rfl⟩, fun h => ?_⟩
      rw [e3] at h
      have h2 : qErr s 0 0 ≠ 2 := fun e => h (by unfold sErr; rw [if_pos e])
      rcases q_app s c with e | ⟨q, _⟩
      · exact absurd e h2
      · have a1 := all_none (s := s ++ c) (by rw [q]; exact h0)
        rw [e1, e3]
        refine ⟨by unfold fs; rw [a1]; rfl, ?_⟩
        unfold er
        rw [a1]
        show sErr (s ++ c) = sErr s
        unfold sErr
        rw [q]

theorem kp_yes {s : ByteArray} (h : er s = 0) : kp s = tail s (lf s) := if_pos h
theorem kp_no {s : ByteArray} (h : er s ≠ 0) : kp s = ⟨#[]⟩ := if_neg h
theorem push_yes {s : ByteArray} (h : er s = 0) (c : ByteArray) : push9 s c = s ++ c := if_pos h
theorem push_no {s : ByteArray} (h : er s ≠ 0) (c : ByteArray) : push9 s c = s := if_neg h
theorem kp_size (s : ByteArray) : (kp s).size = if er s = 0 then lf s else 0 := by
  by_cases h : er s = 0
  · rw [kp_yes h, if_pos h, tail_size (lf_le s)]
  · rw [kp_no h, if_neg h]
    rfl
theorem kp_le (s : ByteArray) : (kp s).size ≤ s.size := by
  have := lf_le s
  rw [kp_size]
  split <;> omega
/-- Behind a chunk, where there is no error yet. -/
theorem push_more {s : ByteArray} (h : er s = 0) (c : ByteArray) :
    told9 s c = fs (kp s ++ c) ∧ er (push9 s c) = er (kp s ++ c) ∧ (fs (push9 s c)).length = (fs s).length + (fs (kp s ++ c)).length ∧ kp (push9 s c) = kp (kp s ++ c) := by
  obtain ⟨i1, i2⟩ := (all_app s.size s c (Nat.le_refl _)).1 h
  rw [← kp_yes h] at i1 i2
  have e1 : er (s ++ c) = er (kp s ++ c) := by unfold er; rw [i2]
  have e2 : lf (s ++ c) = lf (kp s ++ c) := by unfold lf; rw [i2]
  unfold told9
  rw [push_yes h, i1, List.drop_left, e1, List.length_append]
  refine ⟨rfl, rfl, rfl, ?_⟩
  by_cases h1 : er (kp s ++ c) = 0
  · rw [kp_yes (e1.trans h1), kp_yes h1, e2]
    have hs : s ++ c = s.extract 0 (s.size - lf s) ++ (kp s ++ c) := by rw [kp_yes h, ← ByteArray.append_assoc, tail_back (lf_le s)]
    rw [hs]
    exact tail_app (lf_le _)
  · rw [kp_no (by rw [e1]; exact h1), kp_no h1]
theorem told_no {s : ByteArray} (h : er s ≠ 0) (c : ByteArray) : told9 s c = [] := by
  unfold told9
  rw [push_no h, List.drop_length]
theorem push_fs (s c : ByteArray) : fs (push9 s c) = fs s ++ told9 s c := by
  by_cases h : er s = 0
  · obtain ⟨i1, _⟩ := (all_app s.size s c (Nat.le_refl _)).1 h
    rw [(push_more h c).1, push_yes h, i1, kp_yes h]
  · rw [told_no h, push_no h, List.append_nil]
theorem push_size (s c : ByteArray) : (push9 s c).size ≤ s.size + c.size := by
  unfold push9
  split
  · rw [ByteArray.size_append]; exact Nat.le_refl _
  · omega

/-! ### many chunks -/
def cat9 : List ByteArray → ByteArray
  | [] => ⟨#[]⟩
  | c :: l => c ++ cat9 l
def push9s (s : ByteArray) (l : List ByteArray) : ByteArray := l.foldl push9 s
theorem cat_app (l : List ByteArray) (c : ByteArray) : cat9 (l ++ [c]) = cat9 l ++ c := by
  induction l with
  | nil => show c ++ ⟨#[]⟩ = ⟨#[]⟩ ++ c; rw [app_nil]; exact ByteArray.empty_append.symm
  | cons d l ih => show d ++ cat9 (l ++ [c]) = d ++ cat9 l ++ c; rw [ih, ByteArray.append_assoc]
theorem push9s_app (s : ByteArray) (l : List ByteArray) (c : ByteArray) : push9s s (l ++ [c]) = push9 (push9s s l) c := by unfold push9s; rw [List.foldl_append]; rfl
theorem err_stays {s : ByteArray} (h : er s ≠ 0) (c : ByteArray) : fs (s ++ c) = fs s ∧ er (s ++ c) = er s := (all_app s.size s c (Nat.le_refl _)).2 h
/-- However a text is cut. -/
theorem push9s_cat : ∀ (l : List ByteArray) (s : ByteArray), fs (push9s s l) = fs (s ++ cat9 l) ∧ er (push9s s l) = er (s ++ cat9 l) ∧ (er (s ++ cat9 l) = 0 → push9s s l = s ++ cat9 l)
  | [], s => by
    have e : s ++ cat9 [] = s := app_nil s
    rw [e]
    exact ⟨rfl, rfl, fun _ => rfl⟩
  | c :: l, s => by
    have hc : s ++ cat9 (c :: l) = (s ++ c) ++ cat9 l := (ByteArray.append_assoc).symm
    obtain ⟨i1, i2, i3⟩ := push9s_cat l (push9 s c)
    have e : push9s s (c :: l) = push9s (push9 s c) l := rfl
    rw [e]
    by_cases h : er s = 0
    · rw [push_yes h] at i1 i2 i3 ⊢
      rw [hc]
      exact ⟨i1, i2, i3⟩
    · rw [push_no h] at i1 i2 i3 ⊢
      obtain ⟨a1, a2⟩ := err_stays h (cat9 l)
      obtain ⟨b1, b2⟩ := err_stays h (cat9 (c :: l))
      exact ⟨by rw [i1, a1, b1], by rw [i2, a2, b2], fun h' => absurd (b2.symm.trans h') h⟩
theorem nil_all : sAll ⟨#[]⟩ = ([], 0, 0) := by
  rw [all_none (by rw [nil_short]; decide)]
  unfold sErr
  rw [nil_short]
  rfl
theorem nil_fs : fs ⟨#[]⟩ = [] := by unfold fs; rw [nil_all]; rfl
theorem nil_er : er ⟨#[]⟩ = 0 := by unfold er; rw [nil_all]
theorem nil_kp : kp ⟨#[]⟩ = ⟨#[]⟩ := by rw [kp_yes nil_er]; unfold lf; rw [nil_all]; rfl
/-- What Run tells: of a text's chunks, from the beginning. -/
theorem cut_fs (l : List ByteArray) : fs (push9s ⟨#[]⟩ l) = fs (cat9 l) ∧ er (push9s ⟨#[]⟩ l) = er (cat9 l) ∧ (kp (push9s ⟨#[]⟩ l)).size = if er (cat9 l) = 0 then lf (cat9 l) else 0 := by
  obtain ⟨h1, h2, h3⟩ := push9s_cat l ⟨#[]⟩
  have e : (⟨#[]⟩ : ByteArray) ++ cat9 l = cat9 l := ByteArray.empty_append
  rw [e] at h1 h2 h3
  refine ⟨h1, h2, ?_⟩
  rw [kp_size, h2]
  by_cases h : er (cat9 l) = 0
  · rw [if_pos h, if_pos h, h3 h]
  · rw [if_neg h, if_neg h]

/-! ### one frame in pieces -/
theorem begin_all {f : Fr} (h : f.ok) {i : Nat} (hi : i < f.enc.size) : fs (f.enc.extract 0 i) = [] ∧ er (f.enc.extract 0 i) = 0 ∧ kp (f.enc.extract 0 i) = f.enc.extract 0 i := by
  have h2 : qErr (f.enc.extract 0 i) 0 0 = 2 := fEnc_begins h.1 h.2 hi
  have a := all_none (s := f.enc.extract 0 i) (by rw [h2]; decide)
  have e : sErr (f.enc.extract 0 i) = 0 := by unfold sErr; rw [if_pos h2]
  have e1 : er (f.enc.extract 0 i) = 0 := by unfold er; rw [a]; exact e
  refine ⟨by unfold fs; rw [a]; rfl, e1, ?_⟩
  rw [kp_yes e1]
  unfold lf
  rw [a]
  exact tail_all _
theorem whole_all {f : Fr} (h : f.ok) : fs f.enc = [f] ∧ er f.enc = 0 ∧ kp f.enc = ⟨#[]⟩ := by
  obtain ⟨h1, h2⟩ := all_one h ⟨#[]⟩
  rw [app_nil, nil_fs] at h1
  rw [app_nil, nil_all] at h2
  have e1 : er f.enc = 0 := by unfold er; rw [h2]
  refine ⟨h1, e1, ?_⟩
  rw [kp_yes e1]
  unfold lf
  rw [h2]
  apply ByteArray.ext
  apply Array.eq_empty_of_size_eq_zero
  exact tail_size (Nat.zero_le _)
theorem pieces {s : ByteArray} {i j : Nat} (h : i ≤ j) : s.extract 0 i ++ s.extract i j = s.extract 0 j := by
  apply ByteArray.ext
  apply Array.toList_inj.1
  rw [ByteArray.data_append, Array.toList_append, ByteArray.data_extract, ByteArray.data_extract, ByteArray.data_extract, Array.toList_extract, Array.toList_extract, Array.toList_extract, List.extract_eq_take_drop, List.extract_eq_take_drop, List.extract_eq_take_drop]
  rw [List.drop_zero, Nat.sub_zero, Nat.sub_zero, ← List.take_add, Nat.add_sub_cancel' h]
/-- A piece more that does not end the frame; one that does. -/
theorem piece_more {f : Fr} (h : f.ok) {i j : Nat} (hij : i ≤ j) (hj : j < f.enc.size) : push9 (f.enc.extract 0 i) (f.enc.extract i j) = f.enc.extract 0 j ∧ told9 (f.enc.extract 0 i) (f.enc.extract i j) = [] := by
  have e1 := (begin_all h (i := i) (by omega)).2.1
  have e2 := push_yes e1 (f.enc.extract i j)
  rw [pieces hij] at e2
  refine ⟨e2, ?_⟩
  unfold told9
  rw [e2, (begin_all h hj).1]
  exact List.drop_nil
theorem piece_last {f : Fr} (h : f.ok) {i : Nat} (hi : i < f.enc.size) : push9 (f.enc.extract 0 i) (f.enc.extract i f.enc.size) = f.enc ∧ told9 (f.enc.extract 0 i) (f.enc.extract i f.enc.size) = [f] := by
  obtain ⟨e0, e1, _⟩ := begin_all h (i := i) hi
  have e2 := push_yes e1 (f.enc.extract i f.enc.size)
  rw [extract_app (by omega)] at e2
  refine ⟨e2, ?_⟩
  unfold told9
  rw [e2, e0, (whole_all h).1]
  rfl
theorem fs_len (s : ByteArray) : (fs s).length ≤ s.size := by
  have go : ∀ (k : Nat) (s : ByteArray) (a : Nat), (sGo k s a).1.length ≤ s.size := by
    intro k
    induction k with
    | zero => intro s a; exact Nat.zero_le _
    | succ k ih =>
      intro s a
      by_cases h : qErr s 0 0 = 0
      · rw [sGo_more h]
        have h1 := ih (sRest s) (a + sN s)
        obtain ⟨_, h2, h3⟩ := s_step h
        rw [sRest_size] at h1
        simp only [List.length_cons]
        omega
      · rw [sGo_stop h]
        exact Nat.zero_le _
  unfold fs
  rw [frsOf_len]
  exact go _ s 0
end Go.Proofs.Ytmgfalkelembkaa
