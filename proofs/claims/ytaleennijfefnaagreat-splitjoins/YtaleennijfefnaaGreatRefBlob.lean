/-
  Contracts of the document's own blobs, counts and flags (layer 6), each proved over this seat's translation.
  Conditions: limits take 63 bits; what is written together is at most half of the greatest memory.
-/
import Derived.Test.YtaleennijfefnaaGreatBlob
import Derived.Test.YtaleennijfefnaaGreatRef01
import Derived.Test.YtaleennijfefnaaGreatRef02
import Derived.PlainAid
import Derived.BigQuiet
namespace Go.Proofs.YtaleennijfefnaaGreat
open Go.RowKit
open Go.PlainAid (bt get_bt bt_nonneg bt_le)

theorem rcount_any {w : World} {b : Nat} {s : ByteArray} {a x : Int} (m : Int) (hm : m ≤ 9223372036854775807) (h : Cur w b s a x) :
    Calls Tryz.prog 51 #[ptr b, .int .i64 m] w fun e w' => e = .returned (.int .i64 (kNum s a x m)) ∧ Cur w' b s (tAt s a x) (kErr s a x m) ∧ Keep1 b w w' := by
  have hb := pMax_bd hm
  have ht := tNum_lt s a x
  by_cases he : tErr s a x = 0
  · by_cases ho : pMax m < tNum s a x
    · obtain ⟨q1, q2⟩ := k_over he ho
      rw [q1, q2]
      have hp : pMax m = if m < 0 then 0 else m := rfl
      generalize pMax m = L at *
      clear q1 q2
      by_cases h0 : m < 0
      · rw [if_pos h0] at hp
        subst hp
        go_enter Tryz.func51, Tryz.ntmps51
        go_wp2_with fail
        refine (rtake_any h).mono ?_
        rw [he]
        rintro e w1 ⟨rfl, h1, k1⟩
        obtain ⟨g0, g1, g2, g3, g4⟩ := h1.cells
        go_wp2
        go_ret
        exact ⟨rfl, h1.setErr 3, k1.set1 _ _⟩
      · rw [if_neg h0] at hp
        subst hp
        go_enter Tryz.func51, Tryz.ntmps51
        go_wp2_with fail
        refine (rtake_any h).mono ?_
        rw [he]
        rintro e w1 ⟨rfl, h1, k1⟩
        obtain ⟨g0, g1, g2, g3, g4⟩ := h1.cells
        go_wp2
        go_ret
        exact ⟨rfl, h1.setErr 3, k1.set1 _ _⟩
    · obtain ⟨q1, q2⟩ := k_ok he ho
      rw [q1, q2]
      have hp : pMax m = if m < 0 then 0 else m := rfl
      generalize pMax m = L at *
      clear q1 q2
      by_cases h0 : m < 0
      · rw [if_pos h0] at hp
        subst hp
        go_enter Tryz.func51, Tryz.ntmps51
        go_wp2_with fail
        refine (rtake_any h).mono ?_
        rw [he]
        rintro e w1 ⟨rfl, h1, k1⟩
        obtain ⟨g0, g1, g2, g3, g4⟩ := h1.cells
        go_wp2
        go_ret
        exact ⟨rfl, h1, k1⟩
      · rw [if_neg h0] at hp
        subst hp
        go_enter Tryz.func51, Tryz.ntmps51
        go_wp2_with fail
        refine (rtake_any h).mono ?_
        rw [he]
        rintro e w1 ⟨rfl, h1, k1⟩
        obtain ⟨g0, g1, g2, g3, g4⟩ := h1.cells
        go_wp2
        go_ret
        exact ⟨rfl, h1, k1⟩
  · obtain ⟨q1, q2⟩ := k_err (m := m) he
    have q3 := tNum_bad he
    rw [q1, q2]
    have he' : (tErr s a x != 0) = true := by simpa using he
    go_enter Tryz.func51, Tryz.ntmps51
    go_wp2_with fail
    refine (rtake_any h).mono ?_
    rintro e w1 ⟨rfl, h1, k1⟩
    obtain ⟨g0, g1, g2, g3, g4⟩ := h1.cells
    go_wp2
    go_ret
    exact ⟨rfl, h1, k1⟩

theorem rblob_any {w : World} {b : Nat} {s : ByteArray} {a x : Int} (m : Int) (hm : m ≤ 9223372036854775807) (h : Cur w b s a x) :
    Calls Tryz.prog 31 #[ptr b, .int .i64 m] w fun e w' => e = .returned (.string (bTxt s a x m)) ∧ Cur w' b s (bAt s a x m) (bErr s a x m) ∧ Keep1 b w w' := by
  go_enter Tryz.func31, Tryz.ntmps31
  go_wp2_with fail
  refine (rcount_any m hm h).mono ?_
  rintro e w1 ⟨rfl, h1, k1⟩
  go_wp2_with fail
  refine (rbytes_any _ h1).mono ?_
  rintro e w2 ⟨rfl, h2, k2⟩
  go_wp2
  go_ret
  exact ⟨rfl, h2, k1.trans k2⟩

/-! ### the order of texts -/
theorem lBelow_same {l r : List UInt8} {k : Nat} (hl : k < l.length) (hr : k < r.length) (h : l[k] = r[k]) : lBelow (l.drop k) (r.drop k) = lBelow (l.drop (k + 1)) (r.drop (k + 1)) := by
  rw [List.drop_eq_getElem_cons hl, List.drop_eq_getElem_cons hr]
  show (if l[k] = r[k] then _ else _) = _
  rw [if_pos h]
theorem lBelow_diff {l r : List UInt8} {k : Nat} (hl : k < l.length) (hr : k < r.length) (h : l[k] ≠ r[k]) : lBelow (l.drop k) (r.drop k) = decide (l[k].toNat < r[k].toNat) := by
  rw [List.drop_eq_getElem_cons hl, List.drop_eq_getElem_cons hr]
  show (if l[k] = r[k] then _ else _) = _
  rw [if_neg h]
theorem lBelow_end {l r : List UInt8} {k : Nat} (h1 : k ≤ l.length) (h2 : k ≤ r.length) (h : ¬ (k < l.length ∧ k < r.length)) : lBelow (l.drop k) (r.drop k) = decide (l.length < r.length) := by
  by_cases hl : k < l.length
  · have hr : r.length = k := by omega
    have e : r.drop k = [] := List.drop_eq_nil_of_le (by omega)
    rw [e, List.drop_eq_getElem_cons hl]
    show false = _
    simp; omega
  · have e : l.drop k = [] := List.drop_eq_nil_of_le (by omega)
    rw [e]
    by_cases hr : k < r.length
    · rw [List.drop_eq_getElem_cons hr]
      show true = _
      simp; omega
    · have e : r.drop k = [] := List.drop_eq_nil_of_le (by omega)
      rw [e]
      show false = _
      simp; omega

theorem drewN_on {w w' : World} (h : ∃ n, w' = w.drewN n) (m : Nat) : ∃ n, w'.drewN m = w.drewN n := by
  obtain ⟨n, rfl⟩ := h
  exact ⟨_, by rw [World.drewN_drewN]⟩
/-- The slice ao holds the texts l in w. -/
def TextsIn (w : World) (ao : Option Addr) (l : List ByteArray) : Prop := ∀ k (hk : k < l.length), ∃ bb off, ao = some ⟨bb, off, none⟩ ∧ w.cell? ⟨bb, off + k, none⟩ = some (.string l[k])
end Go.Proofs.YtaleennijfefnaaGreat
