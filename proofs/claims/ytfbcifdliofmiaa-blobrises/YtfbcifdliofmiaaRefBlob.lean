/-
  Contracts of the document's own blobs, counts and flags (layer 6), each proved over this seat's translation.
  Conditions: limits take 63 bits; what is written together is at most half of the greatest memory.
-/
import Derived.Test.YtfbcifdliofmiaaBlob
import Derived.Test.YtfbcifdliofmiaaRef01
import Derived.Test.YtfbcifdliofmiaaRef02
import Derived.PlainAid
import Derived.BigQuiet
namespace Go.Proofs.Ytfbcifdliofmiaa
open Go.RowKit
open Go.PlainAid (bt get_bt bt_nonneg bt_le)

theorem rcount_any {w : World} {b : Nat} {s : ByteArray} {a x : Int} (m : Int) (hm : m ≤ 9223372036854775807) (h : Cur w b s a x) :
    Calls Try.prog 11 #[ptr b, .int .i64 m] w fun e w' => e = .returned (.int .i64 (kNum s a x m)) ∧ Cur w' b s (tAt s a x) (kErr s a x m) ∧ Keep1 b w w' := by
  have hb := pMax_bd hm
  have ht := tNum_lt s a x
  by_cases he : tErr s a x = 0
  · by_cases ho : pMax m < tNum s a x
    · obtain ⟨q1, q2⟩ := k_over he ho
      rw [q1, q2]
      have hp : pMax m = if m < 0 then 0 else m := rfl
      generalize pMax m = L at *
      clear q1 q2
      by_cases h0 : m < 0
      · rw [if_pos h0] at hp
        subst hp
        go_enter Try.func11, Try.ntmps11
        go_wp2_with fail
        refine (rtake_any h).mono ?_
        rw [he]
        rintro e w1 ⟨rfl, h1, k1⟩
        obtain ⟨g0, g1, g2, g3, g4⟩ := h1.cells
        go_wp2
        go_ret
        exact ⟨rfl, h1.setErr 3, k1.set1 _ _⟩
      · rw [if_neg h0] at hp
        subst hp
        go_enter Try.func11, Try.ntmps11
        go_wp2_with fail
        refine (rtake_any h).mono ?_
        rw [he]
        rintro e w1 ⟨rfl, h1, k1⟩
        obtain ⟨g0, g1, g2, g3, g4⟩ := h1.cells
        go_wp2
        go_ret
        exact ⟨rfl, h1.setErr 3, k1.set1 _ _⟩
    · obtain ⟨q1, q2⟩ := k_ok he ho
      rw [q1, q2]
      have hp : pMax m = if m < 0 then 0 else m := rfl
      generalize pMax m = L at *
      clear q1 q2
      by_cases h0 : m < 0
      · rw [if_pos h0] at hp
        subst hp
        go_enter Try.func11, Try.ntmps11
        go_wp2_with fail
        refine (rtake_any h).mono ?_
        rw [he]
        rintro e w1 ⟨rfl, h1, k1⟩
        obtain ⟨g0, g1, g2, g3, g4⟩ := h1.cells
        go_wp2
        go_ret
        exact ⟨rfl, h1, k1⟩
      · rw [if_neg h0] at hp
        subst hp
        go_enter Try.func11, Try.ntmps11
        go_wp2_with fail
        refine (rtake_any h).mono ?_
        rw [he]
        rintro e w1 ⟨rfl, h1, k1⟩
        obtain ⟨g0, g1, g2, g3, g4⟩ := h1.cells
        go_wp2
        go_ret
        exact ⟨rfl, h1, k1⟩
  · obtain ⟨q1, q2⟩ := k_err (m := m) he
    have q3 := tNum_bad he
    rw [q1, q2]
    have he' : (tErr s a x != 0) = true := by simpa using he
    go_enter Try.func11, Try.ntmps11
    go_wp2_with fail
    refine (rtake_any h).mono ?_
    rintro e w1 ⟨rfl, h1, k1⟩
    obtain ⟨g0, g1, g2, g3, g4⟩ := h1.cells
    go_wp2
    go_ret
    exact ⟨rfl, h1, k1⟩

theorem rblob_any {w : World} {b : Nat} {s : ByteArray} {a x : Int} (m : Int) (hm : m ≤ 9223372036854775807) (h : Cur w b s a x) :
    Calls Try.prog 9 #[ptr b, .int .i64 m] w fun e w' => e = .returned (.string (bTxt s a x m)) ∧ Cur w' b s (bAt s a x m) (bErr s a x m) ∧ Keep1 b w w' := by
  go_enter Try.func9, Try.ntmps9
  go_wp2_with fail
  refine (rcount_any m hm h).mono ?_
  rintro e w1 ⟨rfl, h1, k1⟩
  go_wp2_with fail
  refine (rbytes_any _ h1).mono ?_
  rintro e w2 ⟨rfl, h2, k2⟩
  go_wp2
  go_ret
  exact ⟨rfl, h2, k1.trans k2⟩

theorem rflag_any {w : World} {b : Nat} {s : ByteArray} {a x : Int} (h : Cur w b s a x) :
    Calls Try.prog 13 #[ptr b] w fun e w' => e = .returned (.bool (gSet s a x)) ∧ Cur w' b s (cAt s a x 1) (gErr s a x) ∧ Keep1 b w w' := by
  by_cases hg : 1 < cByte s a x
  · have q1 : gErr s a x = cFail (cErr s a x 1) 13 := if_pos hg
    have q2 : gSet s a x = false := by unfold gSet; simp; omega
    rw [q1, q2]
    clear q1 q2
    go_enter Try.func13, Try.ntmps13
    go_wp2_with fail
    refine (rbyte_any h).mono ?_
    rintro e w1 ⟨rfl, h1, k1⟩
    go_wp2_with fail
    refine (rfail_any 13 h1).mono ?_
    rintro e w2 ⟨rfl, h2, k2⟩
    go_wp2
    go_ret
    exact ⟨rfl, h2, k1.trans k2⟩
  · have q1 : gErr s a x = cErr s a x 1 := if_neg hg
    have q2 : (cByte s a x == 1) = gSet s a x := rfl
    rw [q1]
    go_enter Try.func13, Try.ntmps13
    go_wp2_with fail
    refine (rbyte_any h).mono ?_
    rintro e w1 ⟨rfl, h1, k1⟩
    go_wp2
    go_ret
    exact ⟨rfl, h1, k1⟩

theorem rbput_any {w : World} {b : Nat} {t : ByteArray} {M x : Int} (m : Int) (hm : m ≤ 9223372036854775807) (s : ByteArray) (h : RPen w b t M x) (ht : t.size + s.size + 10 ≤ 140737488355328) :
    Calls Try.prog 19 #[pptr b, .int .i64 m, .string s] w fun e w' => e = .returned (.tuple #[]) ∧ RPen w' b (wPut M m (t, x) s).1 M (wPut M m (t, x) s).2 ∧ Keep1 b w w' := by
  have hb := pMax_bd hm
  have hp : pMax m = if m < 0 then 0 else m := rfl
  have hv := vText_le (n := s.size) (by omega)
  have hos := pOne_size M (t, x) (vText s.size)
  simp only at hos
  have hsz : (s.size : Int) ≤ 140737488355328 := by omega
  by_cases hf : (s.size : Int) ≤ pMax m
  · rw [wPut_fit hf]
    generalize pMax m = L at *
    by_cases h0 : m < 0
    · rw [if_pos h0] at hp
      subst hp
      go_enter Try.func19, Try.ntmps19
      go_wp2_with fail
      refine (rput_any s.size (by omega) h (by omega)).mono ?_
      rintro e w1 ⟨rfl, h1, k1⟩
      go_wp2_with fail
      refine (rptext_any s h1 (by omega)).mono ?_
      rintro e w2 ⟨rfl, h2, k2⟩
      go_wp2
      go_end0
      exact ⟨rfl, h2, k1.trans k2⟩
    · rw [if_neg h0] at hp
      subst hp
      go_enter Try.func19, Try.ntmps19
      go_wp2_with fail
      refine (rput_any s.size (by omega) h (by omega)).mono ?_
      rintro e w1 ⟨rfl, h1, k1⟩
      go_wp2_with fail
      refine (rptext_any s h1 (by omega)).mono ?_
      rintro e w2 ⟨rfl, h2, k2⟩
      go_wp2
      go_end0
      exact ⟨rfl, h2, k1.trans k2⟩
  · rw [wPut_long hf]
    generalize pMax m = L at *
    by_cases h0 : m < 0
    · rw [if_pos h0] at hp
      subst hp
      go_enter Try.func19, Try.ntmps19
      go_wp2_with fail
      refine (rpfail_any 3 h).mono ?_
      rintro e w1 ⟨rfl, h1, k1⟩
      go_wp2
      first | go_end0 | refine bodyPost_ret (results_none rfl _ _ _) rfl ?_
      exact ⟨rfl, h1, k1⟩
    · rw [if_neg h0] at hp
      subst hp
      go_enter Try.func19, Try.ntmps19
      go_wp2_with fail
      refine (rpfail_any 3 h).mono ?_
      rintro e w1 ⟨rfl, h1, k1⟩
      go_wp2
      first | go_end0 | refine bodyPost_ret (results_none rfl _ _ _) rfl ?_
      exact ⟨rfl, h1, k1⟩

theorem rpcount_any {w : World} {b : Nat} {t : ByteArray} {M x : Int} (m n : Int) (hm : m ≤ 9223372036854775807) (hn : n ≤ 9223372036854775807) (h : RPen w b t M x) (ht : t.size + 10 ≤ 140737488355328) :
    Calls Try.prog 21 #[pptr b, .int .i64 m, .int .i64 n] w fun e w' => e = .returned (.tuple #[]) ∧ RPen w' b (wCount M m (t, x) n).1 M (wCount M m (t, x) n).2 ∧ Keep1 b w w' := by
  have hb := pMax_bd hm
  have hp : pMax m = if m < 0 then 0 else m := rfl
  by_cases h1 : n < 0
  · have q : wCount M m (t, x) n = (t, pFail x 1) := if_pos h1
    rw [q]
    clear q hb hp
    by_cases h0 : m < 0
    · go_enter Try.func21, Try.ntmps21
      go_wp2_with fail
      refine (rpfail_any 1 h).mono ?_
      rintro e w1 ⟨rfl, h1, k1⟩
      go_wp2
      first | go_end0 | refine bodyPost_ret (results_none rfl _ _ _) rfl ?_
      exact ⟨rfl, h1, k1⟩
    · go_enter Try.func21, Try.ntmps21
      go_wp2_with fail
      refine (rpfail_any 1 h).mono ?_
      rintro e w1 ⟨rfl, h1, k1⟩
      go_wp2
      first | go_end0 | refine bodyPost_ret (results_none rfl _ _ _) rfl ?_
      exact ⟨rfl, h1, k1⟩
  · obtain ⟨k, rfl⟩ : ∃ k : Nat, n = k := ⟨n.toNat, by omega⟩
    have h1' : (0 : Int) ≤ k := by omega
    by_cases hf : (k : Int) ≤ pMax m
    · have q : wCount M m (t, x) k = pOne M (t, x) (vText k) := by unfold wCount; rw [if_neg h1, if_pos hf]; rfl
      rw [q]
      generalize pMax m = L at *
      clear q h1
      by_cases h0 : m < 0
      · rw [if_pos h0] at hp
        subst hp
        go_enter Try.func21, Try.ntmps21
        go_wp2_with fail
        refine (rput_any k (by omega) h (by omega)).mono ?_
        rintro e w1 ⟨rfl, h1, k1⟩
        go_wp2
        go_end0
        exact ⟨rfl, h1, k1⟩
      · rw [if_neg h0] at hp
        subst hp
        go_enter Try.func21, Try.ntmps21
        go_wp2_with fail
        refine (rput_any k (by omega) h (by omega)).mono ?_
        rintro e w1 ⟨rfl, h1, k1⟩
        go_wp2
        go_end0
        exact ⟨rfl, h1, k1⟩
    · have q : wCount M m (t, x) k = (t, pFail x 3) := by unfold wCount; rw [if_neg h1, if_neg hf]
      rw [q]
      generalize pMax m = L at *
      clear q h1
      by_cases h0 : m < 0
      · rw [if_pos h0] at hp
        subst hp
        go_enter Try.func21, Try.ntmps21
        go_wp2_with fail
        refine (rpfail_any 3 h).mono ?_
        rintro e w1 ⟨rfl, h1, k1⟩
        go_wp2
        first | go_end0 | refine bodyPost_ret (results_none rfl _ _ _) rfl ?_
        exact ⟨rfl, h1, k1⟩
      · rw [if_neg h0] at hp
        subst hp
        go_enter Try.func21, Try.ntmps21
        go_wp2_with fail
        refine (rpfail_any 3 h).mono ?_
        rintro e w1 ⟨rfl, h1, k1⟩
        go_wp2
        first | go_end0 | refine bodyPost_ret (results_none rfl _ _ _) rfl ?_
        exact ⟨rfl, h1, k1⟩

theorem rpflag_any {w : World} {b : Nat} {t : ByteArray} {M x : Int} (f : Bool) (h : RPen w b t M x) (ht : t.size + 10 ≤ 140737488355328) :
    Calls Try.prog 23 #[pptr b, .bool f] w fun e w' => e = .returned (.tuple #[]) ∧ RPen w' b (wFlag M (t, x) f).1 M (wFlag M (t, x) f).2 ∧ Keep1 b w w' := by
  cases f with
  | true =>
    go_enter Try.func23, Try.ntmps23
    go_wp2_with fail
    refine (rpbyte_any 1 h (by omega)).mono ?_
    rintro e w1 ⟨rfl, h1, k1⟩
    go_wp2
    go_end0
    exact ⟨rfl, h1, k1⟩
  | false =>
    go_enter Try.func23, Try.ntmps23
    go_wp2_with fail
    refine (rpbyte_any 0 h (by omega)).mono ?_
    rintro e w1 ⟨rfl, h1, k1⟩
    go_wp2
    go_end0
    exact ⟨rfl, h1, k1⟩

/-! ### the order of texts -/
theorem lBelow_same {l r : List UInt8} {k : Nat} (hl : k < l.length) (hr : k < r.length) (h : l[k] = r[k]) : lBelow (l.drop k) (r.drop k) = lBelow (l.drop (k + 1)) (r.drop (k + 1)) := by
  rw [List.drop_eq_getElem_cons hl, List.drop_eq_getElem_cons hr]
  show (if l[k] = r[k] then _ else _) = _
  rw [if_pos h]
theorem lBelow_diff {l r : List UInt8} {k : Nat} (hl : k < l.length) (hr : k < r.length) (h : l[k] ≠ r[k]) : lBelow (l.drop k) (r.drop k) = decide (l[k].toNat < r[k].toNat) := by
  rw [List.drop_eq_getElem_cons hl, List.drop_eq_getElem_cons hr]
  show (if l[k] = r[k] then _ else _) = _
  rw [if_neg h]
theorem lBelow_end {l r : List UInt8} {k : Nat} (h1 : k ≤ l.length) (h2 : k ≤ r.length) (h : ¬ (k < l.length ∧ k < r.length)) : lBelow (l.drop k) (r.drop k) = decide (l.length < r.length) := by
  by_cases hl : k < l.length
  · have hr : r.length = k := by omega
    have e : r.drop k = [] := List.drop_eq_nil_of_le (by omega)
    rw [e, List.drop_eq_getElem_cons hl]
    show false = _
    simp; omega
  · have e : l.drop k = [] := List.drop_eq_nil_of_le (by omega)
    rw [e]
    by_cases hr : k < r.length
    · rw [List.drop_eq_getElem_cons hr]
      show true = _
      simp; omega
    · have e : r.drop k = [] := List.drop_eq_nil_of_le (by omega)
      rw [e]
      show false = _
      simp; omega

set_option maxRecDepth 100000 in
theorem rbelow_any (w : World) (s t : ByteArray) (hs : s.size ≤ maxLen) (ht : t.size ≤ maxLen) :
    Calls Try.prog 49 #[.string s, .string t] w fun e w' => e = .returned (.bool (lBelow s.data.toList t.data.toList)) ∧ ∃ n, w' = w.drewN n := by
  have hgs := get_bt s
  have hgt := get_bt t
  have hs' : (s.size : Int) ≤ 9223372036854775807 := by unfold maxLen at hs; omega
  have ht' : (t.size : Int) ≤ 9223372036854775807 := by unfold maxLen at ht; omega
  obtain ⟨r, hr⟩ : ∃ r, lBelow s.data.toList t.data.toList = r := ⟨_, rfl⟩
  rw [hr]
  have HR : Hid (lBelow (s.data.toList.drop 0) (t.data.toList.drop 0) = r) := hr
  clear hr
  go_enter Try.func49, Try.ntmps49
  go_wp2_with fail
  go_loopw [5] (fun i wr => ∃ (k : Nat), k ≤ s.size ∧ k ≤ t.size ∧ i = .int .i64 k ∧ Hid (lBelow (s.data.toList.drop k) (t.data.toList.drop k) = r) ∧ ∃ n, wr = w.drewN n) (fun i _ => s.size - (intOf i).toNat)
  case atStart => exact ⟨0, by omega, by omega, rfl, HR, 0, rfl⟩
  case round =>
    obtain ⟨k, hk1, hk2, rfl, HK, n, rfl⟩ := hrel
    have hl1 : s.data.toList.length = s.size := by simp
    have hl2 : t.data.toList.length = t.size := by simp
    by_cases hlt : k < s.size ∧ k < t.size
    · obtain ⟨h1, h2⟩ := hlt
      have hb1 : bt s k = (s.data.toList[k].toNat : Int) := by rw [← hgs k h1]; rfl
      have hb2 : bt t k = (t.data.toList[k].toNat : Int) := by rw [← hgt k h2]; rfl
      have i1 : (k : Int) < s.size := by omega
      have i2 : (k : Int) < t.size := by omega
      have hk := HK.out
      have hsame := lBelow_same (l := s.data.toList) (r := t.data.toList) (k := k) (by omega) (by omega)
      have hdiff := lBelow_diff (l := s.data.toList) (r := t.data.toList) (k := k) (by omega) (by omega)
      generalize s.data.toList[k] = c at *
      generalize t.data.toList[k] = d at *
      by_cases hcd : c = d
      · rw [hsame hcd] at hk
        have HK2 : Hid (lBelow (s.data.toList.drop (k + 1)) (t.data.toList.drop (k + 1)) = r) := hk
        have hb2' : bt t k = (c.toNat : Int) := by rw [hb2, hcd]
        clear hsame hdiff hk HK hb2 hcd hl1 hl2
        go_wp2_with fail
        go_quiet (fail)
        go_wp2
        go_roundw
        case rel => exact ⟨k + 1, by omega, by omega, by go_num, HK2, _, rfl⟩
        case measure => simp [intOf]; omega
      · rw [hdiff hcd] at hk
        have hne : (c.toNat : Int) ≠ d.toNat := by
          intro e
          exact hcd (UInt8.toNat_inj.1 (by omega))
        have hne' : ((c.toNat : Int) != d.toNat) = true := by simpa using hne
        have hrr : Hid (decide (c.toNat < d.toNat) = r) := hk
        clear hsame hdiff hk HK hcd hl1 hl2
        go_wp2_with fail
        go_quiet (fail)
        go_wp2_with fail
        go_quiet (fail)
        go_wp2
        go_ret
        exact ⟨by rw [← hrr.out]; rfl, _, by rw [World.drewN_drewN, World.drewN_drewN]⟩
    · have he := lBelow_end (l := s.data.toList) (r := t.data.toList) (k := k) (by omega) (by omega) (by omega)
      rw [HK.out, hl1, hl2] at he
      have hrr : Hid (r = decide (s.size < t.size)) := he
      clear he HK hl1 hl2
      have hc : ¬ ((k : Int) < s.size ∧ (k : Int) < t.size) := by omega
      by_cases hc1 : (k : Int) < s.size
      · have hc2 : ¬ (k : Int) < t.size := by omega
        go_wp2
        go_ret
        exact ⟨by rw [hrr.out]; rfl, _, rfl⟩
      · go_wp2
        go_ret
        exact ⟨by rw [hrr.out]; rfl, _, rfl⟩
theorem rbelow_q (w : World) (n : Nat) (s t : ByteArray) (hs : s.size ≤ maxLen) (ht : t.size ≤ maxLen) :
    Calls Try.prog 49 #[.string s, .string t] (w.drewN n) fun e w' => e = .returned (.bool (lBelow s.data.toList t.data.toList)) ∧ ∃ m, w' = w.drewN m := by
  refine (rbelow_any (w.drewN n) s t hs ht).mono ?_
  rintro e w' ⟨rfl, m, rfl⟩
  exact ⟨rfl, _, by rw [World.drewN_drewN]⟩

theorem drewN_on {w w' : World} (h : ∃ n, w' = w.drewN n) (m : Nat) : ∃ n, w'.drewN m = w.drewN n := by
  obtain ⟨n, rfl⟩ := h
  exact ⟨_, by rw [World.drewN_drewN]⟩
/-- The slice ao holds the texts l in w. -/
def TextsIn (w : World) (ao : Option Addr) (l : List ByteArray) : Prop := ∀ k (hk : k < l.length), ∃ bb off, ao = some ⟨bb, off, none⟩ ∧ w.cell? ⟨bb, off + k, none⟩ = some (.string l[k])
set_option maxRecDepth 100000 in
theorem rrising_any (w : World) (ao : Option Addr) (cap : Nat) (l : List ByteArray) (hl : l.length ≤ maxLen) (hls : ∀ s ∈ l, s.size ≤ maxLen) (hc : TextsIn w ao l) :
    Calls Try.prog 30 #[.slice ao l.length cap] w fun e w' => e = .returned (.int .i64 (rise l)) ∧ ∃ n, w' = w.drewN n := by
  have hl' : (l.length : Int) ≤ 9223372036854775807 := by unfold maxLen at hl; omega
  have HC : Hid (TextsIn w ao l) := hc
  have HS : Hid (∀ s ∈ l, s.size ≤ maxLen) := hls
  obtain ⟨r, hr⟩ : ∃ r, rise l = r := ⟨_, rfl⟩
  rw [hr]
  have HR : Hid (riseAt ((0 : Nat) + 1 : Nat) (l.drop 0) = r) := hr
  clear hr hc hls
  go_enter Try.func30, Try.ntmps30
  go_wp2_with fail
  go_loopw [3] (fun i wr => ∃ (k : Nat), (k + 1 ≤ l.length ∨ k = 0) ∧ i = .int .i64 ((k + 1 : Nat) : Int) ∧ Hid (riseAt ((k + 1 : Nat) : Int) (l.drop k) = r) ∧ ∃ n, wr = w.drewN n) (fun i _ => l.length - (intOf i).toNat)
  case atStart => exact ⟨0, .inr rfl, rfl, HR, 0, rfl⟩
  case round =>
    obtain ⟨k, hk, rfl, HK, hWr⟩ := hrel
    have kr := keepN hWr
    have HW : Hid (∃ n, wr = w.drewN n) := hWr
    clear hWr
    by_cases hlt : k + 1 < l.length
    · obtain ⟨bb, off, rfl, hc1'⟩ := HC.out k (by omega)
      obtain ⟨bb2, off2, e2, hc2'⟩ := HC.out (k + 1) hlt
      cases e2
      have hc1 := kr.cell hc1' (fun f => f)
      have hc2 := kr.cell hc2' (fun f => f)
      clear hc1' hc2'
      have hs1 := HS.out l[k] (List.getElem_mem (by omega))
      have hs2 := HS.out l[k + 1] (List.getElem_mem hlt)
      have hst := riseAt_step hlt (((k + 1 : Nat) : Int))
      rw [HK.out] at hst
      generalize l[k] = s at *
      generalize l[k + 1] = t at *
      generalize hj : k + 1 = j at *
      have i1 : (j : Int) < l.length := by omega
      have i2 : (j : Int) - 1 = (k : Int) := by omega
      have hwk : IntKind.i64.wrap (k : Int) = k := by rw [IntKind.wrap_i64]; omega
      have i3 : (k : Int) < l.length := by omega
      have i4 : k < l.length := by omega
      have hq := fun n' => rbelow_q wr n' s t hs1 hs2
      have HJ : Hid (k + 1 = j) := hj
      clear hj hk
      cases hb : lBelow s.data.toList t.data.toList with
      | true =>
        rw [hb] at hq
        rw [hb, if_pos rfl] at hst
        have HK2 : Hid (riseAt ((j + 1 : Nat) : Int) (l.drop j) = r) := hst.symm
        clear hst HK
        go_wp2_with fail
        go_quiet ((go_at_call 49; exact hq _))
        go_wp2
        go_roundw
        case rel => exact ⟨j, .inl (by omega), by go_num, HK2, drewN_on HW.out _⟩
        case measure => simp [intOf]; omega
      | false =>
        rw [hb] at hst hq
        have HK2 : Hid (r = (j : Int)) := hst
        clear hst HK
        go_wp2_with fail
        go_quiet ((go_at_call 49; exact hq _))
        go_wp2
        go_ret
        exact ⟨by rw [HK2.out]; go_num, drewN_on HW.out _⟩
    · have he := riseAt_end (l := l) (k := k) (by omega) (((k + 1 : Nat) : Int))
      rw [HK.out] at he
      subst he
      have i1 : ¬ ((k + 1 : Nat) : Int) < l.length := by omega
      clear HK HR
      go_wp2
      go_ret
      exact ⟨rfl, HW.out⟩
end Go.Proofs.Ytfbcifdliofmiaa
