/-
  Pairs written to a pen: errors, sizes, what fits. No program.
  Conditions: none beyond what each lemma states.
-/
import Derived.Test.YtmcinehbhgaiaaaPcode
namespace Go.Proofs.Ytmcinehbhgaiaaa
open Go.RowKit

theorem pPair_err {M : Int} {t : ByteArray} {x : Int} (h : x ≠ 0) (y : Pr) : pPair M (t, x) y = (t, x) := by
  unfold pPair
  rw [wPut_err h, wPut_err h]
theorem pPairs_err {M : Int} {t : ByteArray} {x : Int} (h : x ≠ 0) : ∀ l, pPairs M (t, x) l = (t, x)
  | [] => rfl
  | y :: l => by
    show pPairs M (pPair M (t, x) y) l = _
    rw [pPair_err h]
    exact pPairs_err h l
theorem pPrs_err {M : Int} {t : ByteArray} {x : Int} (h : x ≠ 0) (l : List Pr) : pPrs M (t, x) l = (t, x) := by
  by_cases h0 : qCheck l = 0
  · rw [pPrs_yes h0, pOne_err h, pPairs_err h]
  · rw [pPrs_no h0]
    show (t, pFail x (qCheck l)) = _
    unfold pFail
    rw [if_neg h]
theorem pPair_size (M : Int) (q : ByteArray × Int) {x : Pr} (h : x.n.size ≤ 32) (hv : x.v.size ≤ 32768) : (pPair M q x).1.size ≤ q.1.size + 32820 := by
  have h1 := wPut_size M 32768 (wPut M 32 q x.n) x.v (by omega)
  have h2 := wPut_size M 32 q x.n (by omega)
  unfold pPair
  omega
theorem pPairs_size (M : Int) : ∀ (l : List Pr) (q : ByteArray × Int), (∀ x ∈ l, x.n.size ≤ 32 ∧ x.v.size ≤ 32768) → (pPairs M q l).1.size ≤ q.1.size + 32820 * l.length
  | [], _, _ => by show _ ≤ _ + 32820 * 0; exact Nat.le_refl _
  | x :: l, q, h => by
    have h1 := pPair_size M q (h x List.mem_cons_self).1 (h x List.mem_cons_self).2
    have h2 := pPairs_size M l (pPair M q x) (fun y hy => h y (List.mem_cons_of_mem _ hy))
    show (pPairs M (pPair M q x) l).1.size ≤ _
    rw [List.length_cons]
    omega
theorem pPairs_fit {M : Int} : ∀ {l : List Pr} {t : ByteArray}, (∀ x ∈ l, x.n.size ≤ 32 ∧ x.v.size ≤ 32768) → (t.size : Int) + (ePairs l).size ≤ M → pPairs M (t, 0) l = (t ++ ePairs l, 0)
  | [], t, _, _ => by
    have e : t ++ ePairs [] = t := ByteArray.append_empty
    rw [e]
    rfl
  | x :: l, t, h, hm => by
    obtain ⟨hx, hv⟩ := h x List.mem_cons_self
    have hz0 : (ePair x).size = (vText x.n.size).size + x.n.size + ((vText x.v.size).size + x.v.size) := by
      show ((vText x.n.size ++ x.n) ++ (vText x.v.size ++ x.v)).size = _
      rw [ByteArray.size_append, ByteArray.size_append, ByteArray.size_append]
    have hz : (ePairs (x :: l)).size = (ePair x).size + (ePairs l).size := ByteArray.size_append
    have e1 : pPair M (t, 0) x = (t ++ ePair x, 0) := by
      unfold pPair
      rw [wPut_fit (m := 32) (by rw [pMax32]; omega), pOne_yes (by omega), pOne_yes (by rw [ByteArray.size_append]; omega), wPut_fit (m := 32768) (by rw [pMax15]; omega), pOne_yes (by rw [ByteArray.size_append, ByteArray.size_append]; omega), pOne_yes (by rw [ByteArray.size_append, ByteArray.size_append, ByteArray.size_append]; omega)]
      unfold ePair bEncT
      rw [ByteArray.append_assoc, ByteArray.append_assoc, ByteArray.append_assoc, ByteArray.append_assoc]
    show pPairs M (pPair M (t, 0) x) l = _
    rw [e1, pPairs_fit (fun y hy => h y (List.mem_cons_of_mem _ hy)) (by rw [ByteArray.size_append]; omega), ByteArray.append_assoc]
    rfl
end Go.Proofs.Ytmcinehbhgaiaaa
