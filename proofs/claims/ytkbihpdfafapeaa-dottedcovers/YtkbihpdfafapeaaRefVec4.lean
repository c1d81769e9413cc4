/-
  Contracts of the document's own Event and Join of vectors, each proved over this seat's translation.
  Conditions: at most 10,000 entries (Event), at most 100 lists (Join); each actor takes at most the greatest length that a text may have.
-/
import Derived.Test.YtkbihpdfafapeaaRefVec3
namespace Go.Proofs.Ytkbihpdfafapeaa
open Go.RowKit

/-- A list, and an error, are answered. -/
def REnsE (p : List En × Int) (w : World) (e : Ending) (w' : World) : Prop := ∃ ao cap, e = .returned (.tuple #[.slice ao p.1.length cap, .int .i64 p.2]) ∧ EnsAt w' ao p.1 ∧ (∀ g off m, ao = some ⟨g, off, m⟩ → w.heap.size ≤ g) ∧ Keep0 w w'
theorem REnsE.mk {p : List En × Int} {w w' : World} {e : Ending} {ao : Option Addr} {cap : Nat} (h : e = .returned (.tuple #[.slice ao p.1.length cap, .int .i64 p.2])) (h1 : EnsAt w' ao p.1) (h2 : ∀ g off m, ao = some ⟨g, off, m⟩ → w.heap.size ≤ g) (h3 : Keep0 w w') : REnsE p w e w' := ⟨ao, cap, h, h1, h2, h3⟩
theorem REnsE.bare {p : List En × Int} {w w' : World} {e : Ending} {E : Int} (hp : p = ([], E)) (h : e = .returned (.tuple #[.slice none 0 0, .int .i64 E])) (h3 : Keep0 w w') : REnsE p w e w' := by
  subst hp
  exact ⟨none, 0, h, ens_nil _ _, (fun _ _ _ e => by cases e), h3⟩
theorem count_lt : ∀ {l : List En} (_ : ∀ x ∈ l, x.n < 18446744073709551616) (s : ByteArray), vCount l s < 18446744073709551616
  | [], _, s => by rw [count_nil]; decide
  | x :: l, h, s => by
    rw [count_cons]
    split
    · exact h x List.mem_cons_self
    · exact count_lt (fun y hy => h y (List.mem_cons_of_mem _ hy)) s
theorem event_no {v : List En} {a : ByteArray} (h : ¬ (vCheck v = 0 ∧ 0 < a.size ∧ a.size ≤ 32)) : vEvent v a = ([], 1) := if_neg h
theorem event_over {v : List En} {a : ByteArray} (h : vCheck v = 0 ∧ 0 < a.size ∧ a.size ≤ 32) (h1 : vCount v a = 18446744073709551615) : vEvent v a = ([], 5) := by unfold vEvent; rw [if_pos h, if_pos h1]
theorem event_many {v : List En} {a : ByteArray} (h : vCheck v = 0 ∧ 0 < a.size ∧ a.size ≤ 32) (h1 : vCount v a ≠ 18446744073709551615) (h2 : 64 < (vPut v ⟨a, vCount v a + 1⟩).length) : vEvent v a = ([], 3) := by unfold vEvent; rw [if_pos h, if_neg h1, if_pos h2]
theorem event_yes {v : List En} {a : ByteArray} (h : vCheck v = 0 ∧ 0 < a.size ∧ a.size ≤ 32) (h1 : vCount v a ≠ 18446744073709551615) (h2 : ¬ 64 < (vPut v ⟨a, vCount v a + 1⟩).length) : vEvent v a = (vPut v ⟨a, vCount v a + 1⟩, 0) := by unfold vEvent; rw [if_pos h, if_neg h1, if_neg h2]
/-! ### Join -/
/-- The slice ao holds the lists ls in w. -/
def VecsAt (w : World) (ao : Option Addr) (ls : List (List En)) : Prop := ∀ i (_ : i < ls.length), ∃ b off bo c, ao = some ⟨b, off, none⟩ ∧ w.cell? ⟨b, off + i, none⟩ = some (.slice bo ls[i].length c) ∧ EnsAt w bo ls[i]
theorem VecsAt.keep0 {w w' : World} {ao : Option Addr} {ls : List (List En)} (h : VecsAt w ao ls) (K : Keep0 w w') : VecsAt w' ao ls := by
  intro i hi
  obtain ⟨b, off, bo, c, e, h1, h2⟩ := h i hi
  exact ⟨b, off, bo, c, e, K.cell h1 (fun f => f), h2.keep0 K⟩
theorem all_take {ls : List (List En)} {i : Nat} (hi : i < ls.length) : vAll [] (ls.take (i + 1)) = vPuts (vAll [] (ls.take i)) ls[i] := by
  rw [List.take_succ_eq_append_getElem hi, all_snoc]
theorem puts_take {o l : List En} {k : Nat} (hk : k < l.length) : vPuts o (l.take (k + 1)) = vPut (vPuts o (l.take k)) l[k] := by
  rw [List.take_succ_eq_append_getElem hk, puts_app]
  rfl
theorem join_no {ls : List (List En)} {i : Nat} (hi : i < ls.length) (h : vCheck ls[i] ≠ 0) : vJoin ls = ([], 1) := by
  unfold vJoin
  rw [if_neg]
  intro hr
  exact h (rights_iff.1 hr _ (List.getElem_mem hi))
theorem join_many {ls : List (List En)} (h : rights ls = true) (h1 : 64 < (vAll [] ls).length) : vJoin ls = ([], 3) := by unfold vJoin; rw [if_pos h, if_pos h1]
theorem join_yes {ls : List (List En)} (h : rights ls = true) (h1 : ¬ 64 < (vAll [] ls).length) : vJoin ls = (vAll [] ls, 0) := by unfold vJoin; rw [if_pos h, if_neg h1]
set_option maxRecDepth 100000 in
set_option maxHeartbeats 8000000 in
theorem rjoin10m (M : Nat) (w : World) (ao : Option Addr) (cap : Nat) (ls : List (List En)) (hl : ls.length ≤ 10000) (hMl : M * ls.length ≤ 9000) (hB : ∀ l ∈ ls, vCheck l = 0 → l.length ≤ M) (hf : ∀ l ∈ ls, Fits l) (hc : VecsAt w ao ls) :
    Calls Try.prog 36 #[.slice ao ls.length cap] w (REnsE (vJoin ls) w) := by
  have HC : Hid (VecsAt w ao ls) := hc
  have HF : Hid (∀ l ∈ ls, Fits l) := hf
  have hl' : (ls.length : Int) ≤ 9223372036854775807 := by omega
  have HMl : Hid (M * ls.length ≤ 9000) := hMl
  have HB : Hid (∀ l ∈ ls, vCheck l = 0 → l.length ≤ M) := hB
  clear hMl hB
  have HE : Hid (∀ (W : World) (e : Ending) (E : Int), vJoin ls = ([], E) → e = .returned (.tuple #[.slice none 0 0, .int .i64 E]) → Keep0 w W → REnsE (vJoin ls) w e W) := fun _ _ _ h1 h2 h3 => REnsE.bare h1 h2 h3
  have HM : Hid (∀ (W : World) (e : Ending) (bo : Option Addr) (c : Nat) (R : List En), vJoin ls = (R, 0) → e = .returned (.tuple #[.slice bo R.length c, .int .i64 0]) → EnsAt W bo R → (∀ g off m, bo = some ⟨g, off, m⟩ → w.heap.size ≤ g) → Keep0 w W → REnsE (vJoin ls) w e W) := by
    intro W e bo c R h1 h2 h3 h4 h5
    rw [h1]
    exact REnsE.mk h2 h3 h4 h5
  clear hc hf
  go_enter Try.func36, Try.ntmps36
  go_wp2_with fail
  go_loopw [4, 5] (fun o i wr => ∃ (k : Nat) (O : List En) (oo : Option Addr) (oc : Nat), i = .int .i64 (k : Int) ∧ o = .slice oo O.length oc ∧ k ≤ ls.length ∧ Hid (O = vAll [] (ls.take k)) ∧ Hid (∀ v ∈ ls.take k, vCheck v = 0) ∧ O.length ≤ M * k ∧ EnsAt wr oo O ∧ (∀ g off m, oo = some ⟨g, off, m⟩ → w.heap.size ≤ g) ∧ Keep0 w wr) (fun _ i _ => ls.length - (intOf i).toNat)
  case atStart => exact ⟨0, [], none, 0, rfl, rfl, by omega, rfl, (fun v h => by cases h), by simp, ens_nil _ _, (fun _ _ _ e => by cases e), Keep.refl _ _⟩
  case round =>
    obtain ⟨k, O, oo, oc, rfl, rfl, hk, HO, HR, hOl, hOe, hOn, hK⟩ := hrel
    have hmk : M * k ≤ 9000 := Nat.le_trans (Nat.mul_le_mul_left M hk) HMl.out
    have HMS : Hid (M * (k + 1) = M * k + M) := Nat.mul_succ M k
    by_cases hlt : k < ls.length
    · have i1 : (k : Int) < ls.length := by omega
      obtain ⟨b, off, bo, c, rfl, x0, x1⟩ := HC.out k hlt
      have y0 := hK.cell x0 (fun f => f)
      have hfk := HF.out ls[k] (List.getElem_mem hlt)
      have yc := rcheck10 wr bo c ls[k] hfk (x1.keep0 hK)
      by_cases h0 : vCheck ls[k] = 0
      · obtain ⟨h64, hg⟩ := (check_zero _).1 h0
        have HLM : Hid (ls[k].length ≤ M) := HB.out ls[k] (List.getElem_mem hlt) h0
        have HR2 : Hid (∀ v ∈ ls.take (k + 1), vCheck v = 0) := by
          intro v hv
          rw [List.take_succ_eq_append_getElem hlt] at hv
          rcases List.mem_append.1 hv with hv | hv
          · exact HR.out v hv
          · rw [List.mem_singleton.1 hv]; exact h0
        have HO2 : Hid (vAll [] (ls.take (k + 1)) = vPuts O ls[k]) := by
          show _ = vPuts O ls[k]
          rw [all_take hlt, HO.out]
        have HG : Hid (Good O) := by
          show Good O
          rw [HO.out]
          exact all_good Good.nil (fun v hv => ((check_zero v).1 (HR.out v hv)).2)
        have HGl : Hid (Good ls[k]) := hg
        have HX : Hid (EnsAt w bo ls[k]) := x1
        have HX0 : Hid (w.cell? ⟨b, off + k, none⟩ = some (.slice bo ls[k].length c)) := x0
        rw [h0] at yc
        generalize ls[k] = L at *
        clear x0 x1 HO HR h0 hg hfk
        go_wp2_with fail
        refine yc.mono ?_
        rintro e w1 ⟨rfl, hw1⟩
        have k1 := keepN hw1
        have hOe1 := hOe.keep0 k1
        have K1 := hK.trans k1
        clear yc hw1 k1 hOe hK y0
        have H64 : Hid (L.length ≤ 64) := h64
        have hL' : (L.length : Int) ≤ 9223372036854775807 := by omega
        clear h64
        go_wp2_with fail
        go_loopw [4, 6] (fun o i wr => ∃ (j : Nat) (P : List En) (po : Option Addr) (pc : Nat), i = .int .i64 (j : Int) ∧ o = .slice po P.length pc ∧ j ≤ L.length ∧ Hid (P = vPuts O (L.take j)) ∧ P.length ≤ M * k + j ∧ EnsAt wr po P ∧ (∀ g off m, po = some ⟨g, off, m⟩ → w.heap.size ≤ g) ∧ Keep0 w wr) (fun _ i _ => L.length - (intOf i).toNat)
        case atStart => exact ⟨0, O, oo, oc, rfl, rfl, by omega, rfl, by omega, hOe1, hOn, K1⟩
        case round =>
          obtain ⟨j, P, po, pc, rfl, rfl, hj, HP, hPl, hPe, hPn, hK2⟩ := hrel
          clear hOe1 K1
          have y0 := hK2.cell HX0.out (fun f => f)
          have h64 := H64.out
          have hlm := HLM.out
          by_cases hjt : j < L.length
          · have i2 : (j : Int) < L.length := by omega
            obtain ⟨b2, o2, rfl, p0, p1⟩ := HX.out j hjt
            have z0 := hK2.cell p0 (fun f => f)
            have z1 := hK2.cell p1 (fun f => f)
            have hok : L[j].ok := HGl.out.1 _ (List.getElem_mem hjt)
            have HPg : Good P := by
              rw [HP.out]
              exact puts_good HG.out (fun y hy => HGl.out.1 y (List.mem_of_mem_take hy))
            have yp := rput10 wr po pc P (by omega) (fun y hy => by have := (HPg.1 y hy).2.1; unfold maxLen; omega) hPe L[j] (by have := hok.2.1; unfold maxLen; omega)
            have HP2 : Hid (vPut P L[j] = vPuts O (L.take (j + 1))) := by
              show vPut P L[j] = _
              rw [puts_take hjt, HP.out]
            have hpl := put_len P L[j]
            generalize vPut P L[j] = P' at *
            generalize (L[j].n : Int) = N at *
            generalize L[j].a = A at *
            clear p0 p1 hok HPg HP
            go_wp2_with fail
            refine yp.mono ?_
            rintro e w3 ⟨qo, qc, rfl, q1, q2, k3⟩
            have K3 := hK2.trans k3
            have s2 := hK2.size
            have q2' : ∀ g off m, qo = some ⟨g, off, m⟩ → w.heap.size ≤ g := fun g off m e => by have := q2 g off m e; omega
            clear yp k3 hK2 q2 hPe hPn y0 z0 z1
            go_wp2
            go_roundw
            case rel => exact ⟨j + 1, P', qo, qc, by go_num, rfl, by omega, HP2, by omega, q1, q2', K3⟩
            case measure => simp [intOf]; omega
          · have i2 : ¬ (j : Int) < L.length := by omega
            have HF2 : Hid (P = vAll [] (ls.take (k + 1))) := by
              show P = _
              rw [HO2.out, HP.out, List.take_of_length_le (by omega)]
            go_wp2
            go_roundw
            case rel => exact ⟨k + 1, P, po, pc, by go_num, rfl, by omega, HF2, HR2, by rw [HMS.out]; omega, hPe, hPn, hK2⟩
            case measure => simp [intOf]; omega
      · have HV : Hid (vJoin ls = ([], 1)) := join_no hlt h0
        have e0 : (vCheck ls[k] != 0) = true := by simpa using h0
        clear HM h0 HO HR
        generalize vCheck ls[k] = C at *
        generalize ls[k].length = LL at *
        go_wp2_with fail
        refine yc.mono ?_
        rintro e w1 ⟨rfl, hw1⟩
        have K1 := hK.trans (keepN hw1)
        clear yc hw1 hK
        go_wp2
        go_ret2
        exact HE.out _ _ _ HV.out rfl K1
    · have i1 : ¬ (k : Int) < ls.length := by omega
      have hT : ls.take k = ls := List.take_of_length_le (by omega)
      have ho := HO.out
      have hr := HR.out
      rw [hT] at ho hr
      have hrr := rights_iff.2 hr
      have j0 : (O.length : Int) ≤ 9223372036854775807 := by omega
      by_cases h64 : 64 < O.length
      · have HV : Hid (vJoin ls = ([], 3)) := join_many hrr (by rw [← ho]; exact h64)
        have j1 : (64 : Int) < O.length := by omega
        clear HM HO HR ho hr hrr hT
        go_wp2
        go_ret2
        exact HE.out _ _ _ HV.out rfl hK
      · have HV : Hid (vJoin ls = (O, 0)) := by
          show vJoin ls = (O, 0)
          rw [ho]
          exact join_yes hrr (by rw [← ho]; exact h64)
        have j1 : ¬ (64 : Int) < O.length := by omega
        clear HE HO HR ho hr hrr hT
        go_wp2
        go_ret2
        exact HM.out _ _ _ _ _ HV.out rfl hOe hOn hK
theorem rjoin10 (w : World) (ao : Option Addr) (cap : Nat) (ls : List (List En)) (hl : ls.length ≤ 100) (hf : ∀ l ∈ ls, Fits l) (hc : VecsAt w ao ls) :
    Calls Try.prog 36 #[.slice ao ls.length cap] w (REnsE (vJoin ls) w) :=
  rjoin10m 64 w ao cap ls (by omega) (by omega) (fun l _ h => ((check_zero l).1 h).1) hf hc
end Go.Proofs.Ytkbihpdfafapeaa
