/-
  What this seat's claims lean on of the texts VcPen.
  Conditions: as each theorem states.
-/
import Derived.WalkKit
import Derived.ProofKit
import Derived.Below
import Derived.Deep.Draws
import Derived.Deep.RegionHeld
import Derived.Test.YtmllchembkpdkaaChecked
import Derived.OpenShut
import Derived.ShutString
import Derived.WalkSpells
import Derived.WalkLawsBesides
import Derived.Deep.QuietTactic
import Derived.BigQuiet
import Derived.Laws.Bits64b
import Derived.PlainAid
import Derived.Lib.AppendStr
import Derived.Deep.AppendLies
import Derived.Laws.IdiomStrings
import Derived.Laws.BytesArg
import Derived.Deep.RegionWith
import Derived.Test.YtmllchembkpdkaaZ8
namespace Go.Proofs.Ytmllchembkpdkaa
open Go.RowKit
def pEnt (M : Int) (q : ByteArray × Int) (x : En) : ByteArray × Int := pOne M (wPut M 32 q x.a) (vText x.n)
def pEnts (M : Int) (p : ByteArray × Int) (l : List En) : ByteArray × Int := l.foldl (pEnt M) p
def pVec (M : Int) (p : ByteArray × Int) (v : List En) : ByteArray × Int := if vCheck v = 0 then pEnts M (pOne M p (vText v.length)) v else (p.1, pFail p.2 (vCheck v))
def pVecs (M : Int) (p : ByteArray × Int) (l : List (List En)) : ByteArray × Int := l.foldl (pVec M) p
theorem pEnts_take {M : Int} {p : ByteArray × Int} {l : List En} {k : Nat} (h : k < l.length) : pEnts M p (l.take (k + 1)) = pEnt M (pEnts M p (l.take k)) l[k] := by
  rw [List.take_succ_eq_append_getElem h]
  unfold pEnts
  rw [List.foldl_append]
  rfl
theorem pVecs_take {M : Int} {p : ByteArray × Int} {l : List (List En)} {k : Nat} (h : k < l.length) : pVecs M p (l.take (k + 1)) = pVec M (pVecs M p (l.take k)) l[k] := by
  rw [List.take_succ_eq_append_getElem h]
  unfold pVecs
  rw [List.foldl_append]
  rfl
theorem pVec_yes {M : Int} {p : ByteArray × Int} {v : List En} (h : vCheck v = 0) : pVec M p v = pEnts M (pOne M p (vText v.length)) v := if_pos h
theorem pVec_no {M : Int} {p : ByteArray × Int} {v : List En} (h : vCheck v ≠ 0) : pVec M p v = (p.1, pFail p.2 (vCheck v)) := if_neg h
theorem pEnt_err {M : Int} {t : ByteArray} {x : Int} (h : x ≠ 0) (y : En) : pEnt M (t, x) y = (t, x) := by
  unfold pEnt
  rw [wPut_err h, pOne_err h]
theorem pEnts_err {M : Int} {t : ByteArray} {x : Int} (h : x ≠ 0) : ∀ l, pEnts M (t, x) l = (t, x)
  | [] => rfl
  | y :: l => by
    show pEnts M (pEnt M (t, x) y) l = _
    rw [pEnt_err h]
    exact pEnts_err h l
theorem pVec_err {M : Int} {t : ByteArray} {x : Int} (h : x ≠ 0) (v : List En) : pVec M (t, x) v = (t, x) := by
  by_cases h0 : vCheck v = 0
  · rw [pVec_yes h0, pOne_err h, pEnts_err h]
  · rw [pVec_no h0]
    show (t, pFail x (vCheck v)) = _
    unfold pFail
    rw [if_neg h]
theorem pVecs_err {M : Int} {t : ByteArray} {x : Int} (h : x ≠ 0) : ∀ l, pVecs M (t, x) l = (t, x)
  | [] => rfl
  | v :: l => by
    show pVecs M (pVec M (t, x) v) l = _
    rw [pVec_err h]
    exact pVecs_err h l
theorem pVecs_stop {M : Int} {p : ByteArray × Int} {l : List (List En)} {k : Nat} {t : ByteArray} {x : Int} (h : pVecs M p (l.take k) = (t, x)) (hx : x ≠ 0) : pVecs M p l = (t, x) := by
  have e : l = l.take k ++ l.drop k := (List.take_append_drop k l).symm
  rw [e]
  unfold pVecs at h ⊢
  rw [List.foldl_append, h]
  exact pVecs_err hx _
theorem pEnt_size (M : Int) (q : ByteArray × Int) {x : En} (h : x.a.size ≤ 32) (hn : U64 x.n) : (pEnt M q x).1.size ≤ q.1.size + 52 := by
  have h1 := pOne_size M (wPut M 32 q x.a) (vText x.n)
  have h2 := wPut_size M 32 q x.a (by omega)
  have h3 := (vText_le hn).2
  unfold pEnt
  omega
theorem pEnts_size (M : Int) : ∀ (l : List En) (q : ByteArray × Int), (∀ x ∈ l, x.a.size ≤ 32 ∧ U64 x.n) → (pEnts M q l).1.size ≤ q.1.size + 52 * l.length
  | [], _, _ => by show _ ≤ _ + 52 * 0; exact Nat.le_refl _
  | x :: l, q, h => by
    have h1 := pEnt_size M q (h x List.mem_cons_self).1 (h x List.mem_cons_self).2
    have h2 := pEnts_size M l (pEnt M q x) (fun y hy => h y (List.mem_cons_of_mem _ hy))
    show (pEnts M (pEnt M q x) l).1.size ≤ _
    rw [List.length_cons]
    omega
theorem pVec_size (M : Int) (q : ByteArray × Int) {v : List En} (hn : ∀ x ∈ v, U64 x.n) : (pVec M q v).1.size ≤ q.1.size + 3338 := by
  by_cases h0 : vCheck v = 0
  · obtain ⟨h1, h2⟩ := (check_zero v).1 h0
    have h3 := pEnts_size M v (pOne M q (vText v.length)) (fun x hx => ⟨(h2.1 x hx).2.1, hn x hx⟩)
    have h4 := pOne_size M q (vText v.length)
    have h5 := (vText_le (n := v.length) (by omega)).2
    rw [pVec_yes h0]
    omega
  · rw [pVec_no h0]
    show q.1.size ≤ _
    omega
def decV (s : ByteArray) : List En × Int := if cEnd s (rVec s 0).2.1 (rVec s 0).2.2 = 0 then ((rVec s 0).1, 0) else ([], cEnd s (rVec s 0).2.1 (rVec s 0).2.2)
theorem dec_enc {v : List En} (h : okVec v) : decV (eVec v) = (v, 0) := by
  have h1 := vec_codec.only h
  unfold decV
  rw [h1]
  have e : cEnd (eVec v) ((eVec v).size : Int) 0 = 0 := if_neg (by omega)
  show (if cEnd (eVec v) ((eVec v).size : Int) 0 = 0 then (v, (0 : Int)) else _) = _
  rw [if_pos e]
theorem dec_zero {s : ByteArray} (h : (decV s).2 = 0) : okVec (decV s).1 ∧ eVec (decV s).1 = s := by
  unfold decV at h ⊢
  by_cases h0 : cEnd s (rVec s 0).2.1 (rVec s 0).2.2 = 0
  · rw [if_pos h0]
    have hp := (vec_codec.place (s := s) (a := 0) (by decide) (by omega)).2
    unfold cEnd cFail at h0
    by_cases hl : (rVec s 0).2.1 < s.size
    · rw [if_pos hl] at h0
      split at h0
      · exact absurd h0 (by decide)
      · rename_i hx; exact absurd h0 hx
    · rw [if_neg hl] at h0
      obtain ⟨h1, h2⟩ := vec_codec.all h0 (by omega)
      exact ⟨h1, h2.symm⟩
  · rw [if_neg h0] at h
    exact absurd h h0
theorem dec_short {v : List En} (h : okVec v) {i : Nat} (hi : i < (eVec v).size) : (decV ((eVec v).extract 0 i)).2 = 2 := by
  have e : (eVec v).extract 0 i ++ (eVec v).extract i (eVec v).size = eVec v := by
    have e1 := cut_head (s := eVec v) (j := (i : Int)) (by omega) (by omega)
    have e2 : cut (eVec v) 0 (i : Int) = (eVec v).extract 0 i := rfl
    have e3 : cut (eVec v) (i : Int) (eVec v).size = (eVec v).extract i (eVec v).size := rfl
    rw [e2, e3] at e1
    exact e1.symm
  have h2 := vec_codec.short h e (by rw [ByteArray.size_extract]; omega)
  have h3 : ∀ s : ByteArray, ∀ a : Int, cEnd s a 2 = 2 := by
    intro s a
    unfold cEnd cFail
    split <;> rfl
  unfold decV
  rw [h2, h3, if_neg (by decide)]
theorem dec_more {v : List En} (h : okVec v) {y : ByteArray} (hy : 0 < y.size) : (decV (eVec v ++ y)).2 = 8 := by
  have h1 := vec_codec.more h y
  have e : cEnd (eVec v ++ y) ((eVec v).size : Int) 0 = 8 := by
    unfold cEnd
    rw [if_pos (by rw [ByteArray.size_append]; omega)]
    rfl
  unfold decV
  rw [h1]
  show (if cEnd (eVec v ++ y) ((eVec v).size : Int) 0 = 0 then (v, (0 : Int)) else ([], cEnd (eVec v ++ y) ((eVec v).size : Int) 0)).2 = 8
  rw [e]
  rfl
end Go.Proofs.Ytmllchembkpdkaa
