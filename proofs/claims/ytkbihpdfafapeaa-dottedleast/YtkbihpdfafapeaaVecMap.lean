/-
  The greatest count of each actor, as a map keeps it: what the map holds, and that its keys, sorted, with their counts, are the vectors joined. No program.
  Conditions: none beyond what each lemma states.
-/
import Derived.Test.YtkbihpdfafapeaaVector
import Derived.Maps.OwnSet
import Derived.Maps.Ext
import Derived.Sort.KeysCollected
namespace Go.Proofs.Ytkbihpdfafapeaa
open Go.RowKit Go.Maps

/-- The greatest count of an actor, on whatever list. -/
def gMax : List En → ByteArray → Nat
  | [], _ => 0
  | x :: l, z => if x.a = z then max x.n (gMax l z) else gMax l z
theorem gMax_nil (z : ByteArray) : gMax [] z = 0 := rfl
theorem gMax_cons (x : En) (l : List En) (z : ByteArray) : gMax (x :: l) z = if x.a = z then max x.n (gMax l z) else gMax l z := rfl
theorem gMax_app : ∀ (P Q : List En) (z : ByteArray), gMax (P ++ Q) z = max (gMax P z) (gMax Q z)
  | [], Q, z => by rw [List.nil_append, gMax_nil]; omega
  | x :: P, Q, z => by
    rw [List.cons_append, gMax_cons, gMax_cons, gMax_app P Q z]
    split <;> omega
theorem gMax_none : ∀ {P : List En} {z : ByteArray}, (∀ x ∈ P, x.a ≠ z) → gMax P z = 0
  | [], _, _ => rfl
  | x :: P, z, h => by
    rw [gMax_cons, if_neg (h x List.mem_cons_self)]
    exact gMax_none (fun y hy => h y (List.mem_cons_of_mem _ hy))
theorem gMax_mem : ∀ {P : List En} {x : En}, x ∈ P → x.n ≤ gMax P x.a
  | y :: P, x, h => by
    rw [gMax_cons]
    rcases List.mem_cons.1 h with rfl | h
    · rw [if_pos rfl]; omega
    · have := gMax_mem h
      split <;> omega
theorem gMax_good : ∀ {v : List En}, Good v → ∀ z, gMax v z = vCount v z
  | [], _, _ => rfl
  | x :: l, h, z => by
    rw [gMax_cons, count_cons, gMax_good h.tail z]
    by_cases e : x.a = z
    · subst e
      rw [if_pos rfl, if_pos rfl, count_below h.above]
      omega
    · rw [if_neg e, if_neg e]
theorem gMax_all : ∀ {ls : List (List En)}, (∀ v ∈ ls, Good v) → ∀ z, gMax ls.flatten z = most ls z
  | [], _, _ => rfl
  | v :: ls, h, z => by
    rw [List.flatten_cons, gMax_app, gMax_good (h v List.mem_cons_self), gMax_all (fun u hu => h u (List.mem_cons_of_mem _ hu)), most]
theorem gMax_lt : ∀ {P : List En}, (∀ x ∈ P, x.n < 18446744073709551616) → ∀ z, gMax P z < 18446744073709551616
  | [], _, _ => by rw [gMax_nil]; decide
  | x :: P, h, z => by
    rw [gMax_cons]
    have h1 := h x List.mem_cons_self
    have h2 := gMax_lt (fun y hy => h y (List.mem_cons_of_mem _ hy)) z
    split <;> omega

/-! ### the map -/
def kOf (z : ByteArray) : Lit := .string z.data.toList
theorem kOf_inj {a b : ByteArray} (h : kOf a = kOf b) : a = b := by
  unfold kOf at h
  have e : a.data.toList = b.data.toList := by simpa using h
  exact ByteArray.ext (Array.toList_inj.1 e)
theorem kOf_key (a : ByteArray) : WideAt.IsKeyLit (kOf a) := trivial
def nOf (n : Nat) : DataW Unit := .lit (.int .u64 (n : Int))
/-- The map holds each actor of P, with its greatest count. -/
def GAt (D : DataW Unit) (P : List En) : Prop := IsMap D ∧ (∀ z : ByteArray, has D (kOf z) = P.any (fun x => decide (x.a = z))) ∧ ∀ z : ByteArray, D.atKey (kOf z) (nOf 0) = nOf (gMax P z)
theorem GAt.new : GAt (.map []) [] := ⟨⟨[], rfl⟩, fun _ => rfl, fun _ => rfl⟩
theorem GAt.put {D : DataW Unit} {P : List En} (h : GAt D P) (x : En) : GAt (D.put (kOf x.a) (nOf (max (gMax P x.a) x.n))) (P ++ [x]) := by
  obtain ⟨h1, h2, h3⟩ := h
  refine ⟨h1.put _ _, fun z => ?_, fun z => ?_⟩
  · rw [List.any_append, List.any_cons, List.any_nil, Bool.or_false]
    by_cases e : x.a = z
    · subst e
      rw [has_put_same h1 (kOf_key _), decide_eq_true rfl, Bool.or_true]
    · rw [has_put_other (fun e' => e (kOf_inj e').symm), h2 z, decide_eq_false e, Bool.or_false]
  · rw [gMax_app, gMax_cons, gMax_nil]
    by_cases e : x.a = z
    · subst e
      rw [atKey_put_same h1 (kOf_key _), if_pos rfl]
      congr 1
      omega
    · rw [atKey_put_other (fun e' => e (kOf_inj e').symm), h3 z, if_neg e]
      congr 1
      omega

/-! ### its keys -/
theorem lBelow_lt : ∀ a b : List UInt8, lBelow a b = true ↔ a < b
  | [], [] => ⟨fun h => (by cases h), fun h => absurd h (List.lt_irrefl [])⟩
  | [], _ :: _ => ⟨fun _ => List.nil_lt_cons _ _, fun _ => rfl⟩
  | _ :: _, [] => ⟨fun h => (by cases h), fun h => absurd h (List.not_lt_nil _)⟩
  | x :: a, y :: b => by
    rw [lBelow, List.cons_lt_cons_iff]
    by_cases e : x = y
    · subst e
      rw [if_pos rfl, lBelow_lt a b]
      exact ⟨fun h => Or.inr ⟨rfl, h⟩, fun h => h.elim (fun h => absurd h (UInt8.lt_irrefl _)) (fun h => h.2)⟩
    · rw [if_neg e]
      exact ⟨fun h => Or.inl (UInt8.lt_iff_toNat_lt.2 (of_decide_eq_true h)), fun h => h.elim (fun h => decide_eq_true (UInt8.lt_iff_toNat_lt.1 h)) (fun h => absurd h.1 e)⟩
def txt (x : List UInt8) : ByteArray := ⟨x.toArray⟩
theorem txt_list (x : List UInt8) : (txt x).data.toList = x := rfl
theorem kOf_txt (x : List UInt8) : kOf (txt x) = .string x := rfl
theorem txt_of (z : ByteArray) : txt z.data.toList = z := by cases z; rfl
/-- The entries of some actors. -/
def vecOf (ss : List (List UInt8)) (P : List En) : List En := ss.map (fun x => ⟨txt x, gMax P (txt x)⟩)
theorem vecOf_len (ss : List (List UInt8)) (P : List En) : (vecOf ss P).length = ss.length := List.length_map ..
theorem sorted_keys {ss : List (List UInt8)} (hn : ss.Nodup) : (ss.mergeSort leB).Pairwise (fun x y => lBelow x y = true) := by
  have tr : ∀ a b c : List UInt8, leB a b = true → leB b c = true → leB a c = true := fun a b c h1 h2 => by simp only [leB, decide_eq_true_eq] at *; exact List.le_trans h1 h2
  have to : ∀ a b : List UInt8, (leB a b || leB b a) = true := fun a b => by simp only [leB, Bool.or_eq_true, decide_eq_true_eq]; exact List.le_total a b
  have h1 := List.pairwise_mergeSort tr to ss
  have h2 : (ss.mergeSort leB).Nodup := ((List.mergeSort_perm ss leB).nodup_iff).2 hn
  refine (h1.and h2).imp ?_
  rintro a b ⟨hle, hne⟩
  rw [lBelow_lt]
  have hle : a ≤ b := by simpa [leB] using hle
  by_cases h : a < b
  · exact h
  · exact absurd (List.le_antisymm hle (List.not_lt.1 h)) hne
/-- The keys of the map, sorted, with their counts, are the vectors joined. -/
theorem keys_vec {ls : List (List En)} (hr : rights ls = true) {D : DataW Unit} (hD : GAt D ls.flatten) {ss : List (List UInt8)} (hn : ss.Nodup) (hm : ∀ x, x ∈ ss ↔ has D (.string x) = true) :
    vecOf (ss.mergeSort leB) ls.flatten = vAll [] ls := by
  have hg := rights_good hr
  have hmem : ∀ x, x ∈ ss.mergeSort leB ↔ ∃ e ∈ ls.flatten, e.a = txt x := by
    intro x
    rw [List.mem_mergeSort, hm x, ← kOf_txt, hD.2.1, List.any_eq_true]
    exact ⟨fun ⟨e, h1, h2⟩ => ⟨e, h1, of_decide_eq_true h2⟩, fun ⟨e, h1, h2⟩ => ⟨e, h1, decide_eq_true h2⟩⟩
  have hok : ∀ e ∈ ls.flatten, e.ok := by
    intro e he
    obtain ⟨v, hv, hev⟩ := List.mem_flatten.1 he
    exact (hg v hv).1 e hev
  have hG : Good (vecOf (ss.mergeSort leB) ls.flatten) := by
    refine ⟨?_, ?_⟩
    · intro y hy
      obtain ⟨x, hx, rfl⟩ := List.mem_map.1 hy
      obtain ⟨e, he, hea⟩ := (hmem x).1 hx
      have h1 := hok e he
      have h2 := gMax_mem he
      rw [hea] at h2
      refine ⟨by show 0 < (txt x).size; rw [← hea]; exact h1.1, by show (txt x).size ≤ 32; rw [← hea]; exact h1.2.1, ?_⟩
      show gMax ls.flatten (txt x) ≠ 0
      have := h1.2.2
      omega
    · refine List.pairwise_map.2 ((sorted_keys hn).imp ?_)
      intro x y h
      exact h
  refine join_unique hr hG (fun z => ?_)
  rw [← gMax_all hg z]
  by_cases hz : z.data.toList ∈ ss.mergeSort leB
  · have hx : (⟨z, gMax ls.flatten z⟩ : En) ∈ vecOf (ss.mergeSort leB) ls.flatten := List.mem_map.2 ⟨z.data.toList, hz, by rw [txt_of]⟩
    exact count_mem hG _ hx
  · have h1 : ∀ x ∈ ls.flatten, x.a ≠ z := fun x hx e => hz ((hmem _).2 ⟨x, hx, by rw [txt_of]; exact e⟩)
    rw [gMax_none h1]
    refine count_none (fun y hy e => hz ?_)
    obtain ⟨x, hx, rfl⟩ := List.mem_map.1 hy
    have e : txt x = z := e
    rw [← e, txt_list]
    exact hx
theorem strKeys_len {D : DataW Unit} (h : IsMap D) : (strKeys D).length = Maps.size D := by
  obtain ⟨es, rfl⟩ := h
  exact List.length_map ..
end Go.Proofs.Ytkbihpdfafapeaa
