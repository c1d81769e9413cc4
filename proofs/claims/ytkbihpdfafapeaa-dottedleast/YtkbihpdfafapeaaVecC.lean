/-
  Contracts of package vector's Same and of its test of many vectors, each proved over this seat's translation.
  Conditions: at most 10,000 entries a list, 10,000 lists.
-/
import Derived.Test.YtkbihpdfafapeaaVecB
namespace Go.Proofs.Ytkbihpdfafapeaa
open Go.RowKit

/-! ### Same -/
set_option maxRecDepth 100000 in
theorem equal10 (w : World) (ao bo : Option Addr) (ca cb : Nat) (l m : List En) (hl : l.length ≤ maxLen) (hm : m.length ≤ maxLen) (ha : EnsAt w ao l) (hb : EnsAt w bo m) :
    Calls Try.prog 41 #[.slice ao l.length ca, .slice bo m.length cb] w fun e w' => e = .returned (.bool (vSame l m)) ∧ ∃ n, w' = w.drewN n := by
  have HA : Hid (EnsAt w ao l) := ha
  have HB : Hid (EnsAt w bo m) := hb
  have hl' : (l.length : Int) ≤ 9223372036854775807 := by unfold maxLen at hl; omega
  have hm' : (m.length : Int) ≤ 9223372036854775807 := by unfold maxLen at hm; omega
  clear ha hb
  by_cases he : l.length = m.length
  · obtain ⟨r, hr⟩ : ∃ r, vSame l m = r := ⟨_, rfl⟩
    rw [hr]
    have HR : Hid (vSame (l.drop 0) (m.drop 0) = r) := hr
    have HE : Hid (l.length = m.length) := he
    have i0 : ((l.length : Int) != (m.length : Int)) = false := by simp [he]
    clear hr he
    go_enter Try.func41, Try.ntmps41
    go_wp2_with fail
    go_loopw [13] (fun i wr => ∃ (k : Nat), i = .int .i64 (k : Int) ∧ k ≤ l.length ∧ Hid (vSame (l.drop k) (m.drop k) = r) ∧ ∃ n, wr = w.drewN n) (fun i _ => l.length - (intOf i).toNat)
    case atStart => exact ⟨0, rfl, by omega, HR, 0, rfl⟩
    case round =>
      obtain ⟨k, rfl, hk, HK, hWr⟩ := hrel
      have kr := keepN hWr
      have HW : Hid (∃ n, wr = w.drewN n) := hWr
      have he := HE.out
      clear hWr
      by_cases hlt : k < l.length
      · have i1 : (k : Int) < l.length := by omega
        have i2 : (k : Int) < m.length := by omega
        have hkm : k < m.length := by omega
        obtain ⟨b1, o1, rfl, p0, p1⟩ := HA.out k hlt
        obtain ⟨b2, o2, rfl, q0, q1⟩ := HB.out k hkm
        have x0 := kr.cell p0 (fun f => f)
        have x1 := kr.cell p1 (fun f => f)
        have y0 := kr.cell q0 (fun f => f)
        have y1 := kr.cell q1 (fun f => f)
        clear p0 p1 q0 q1
        have hd := HK.out
        rw [same_drop hlt hkm] at hd
        by_cases h1 : l[k].a = m[k].a
        · by_cases h2 : l[k].n = m[k].n
          · rw [if_pos ⟨h1, h2⟩] at hd
            have HD : Hid (vSame (l.drop (k + 1)) (m.drop (k + 1)) = r) := hd
            rw [← h1] at y0
            rw [← h2] at y1
            generalize l[k].a = A at *
            generalize l[k].n = N at *
            clear hd HK kr he h1 h2 HA HB
            go_wp2_with fail
            go_quiet (fail)
            go_wp2
            go_roundw
            case rel => exact ⟨k + 1, by go_num, by omega, HD, drewN_on HW.out _⟩
            case measure => simp [intOf]; omega
          · rw [if_neg (fun h => h2 h.2)] at hd
            have HD : Hid (false = r) := hd
            rw [← h1] at y0
            have e2 : ((l[k].n : Int) == (m[k].n : Int)) = false := by simp; omega
            have e3 : ¬ ((l[k].n : Int) = (m[k].n : Int)) := by omega
            generalize l[k].a = A at *
            generalize (l[k].n : Int) = N at *
            generalize (m[k].n : Int) = M at *
            clear hd HK kr he h1 h2 HA HB
            go_wp2_with fail
            go_quiet (fail)
            go_wp2
            go_ret
            exact ⟨by rw [← HD.out]; rfl, drewN_on HW.out _⟩
        · rw [if_neg (fun h => h1 h.1)] at hd
          have HD : Hid (false = r) := hd
          obtain ⟨e2, e3, e4⟩ := txt_ne h1
          generalize l[k].a = A at *
          generalize m[k].a = A2 at *
          generalize (l[k].n : Int) = N at *
          generalize (m[k].n : Int) = M at *
          clear hd HK kr he HA HB
          go_wp2_with fail
          go_quiet (fail)
          go_wp2
          go_ret
          exact ⟨by rw [← HD.out]; rfl, drewN_on HW.out _⟩
      · have i1 : ¬ (k : Int) < l.length := by omega
        have hd := HK.out
        rw [List.drop_eq_nil_of_le (by omega), List.drop_eq_nil_of_le (by omega)] at hd
        have HD : Hid (true = r) := hd
        clear hd HK kr he
        go_wp2
        go_ret
        exact ⟨by rw [← HD.out]; rfl, HW.out⟩
  · rw [vSame_len he]
    have i0 : ((l.length : Int) != (m.length : Int)) = true := by simp; omega
    go_enter Try.func41, Try.ntmps41
    go_wp2
    go_ret
    exact ⟨rfl, 0, rfl⟩

set_option maxRecDepth 100000 in
theorem same10 (w : World) (ao bo : Option Addr) (ca cb : Nat) (l m : List En) (hl : Ok10 l) (hm : Ok10 m) (ha : EnsAt w ao l) (hb : EnsAt w bo m) :
    Calls Try.prog 30 #[.slice ao l.length ca, .slice bo m.length cb] w fun e w' => e = .returned (.bool (vSame l m)) ∧ Keep0 w w' := by
  have y := equal10 w ao bo ca cb l m hl.len hm.len ha hb
  generalize vSame l m = r at *
  go_enter Try.func30, Try.ntmps30
  go_wp2_with fail
  refine y.mono ?_
  rintro e w1 ⟨rfl, hw1⟩
  have K1 := keepN hw1
  clear y hw1
  go_wp2
  go_ret
  exact ⟨rfl, K1⟩

/-! ### right -/
theorem rights_drop {ls : List (List En)} {k : Nat} (hk : k < ls.length) : rights (ls.drop k) = ((vCheck ls[k] == 0) && rights (ls.drop (k + 1))) := by
  rw [List.drop_eq_getElem_cons hk]
  rfl
set_option maxRecDepth 100000 in
theorem right10 (w : World) (ao : Option Addr) (cap : Nat) (ls : List (List En)) (hl : ls.length ≤ 10000) (hf : ∀ l ∈ ls, Ok10 l) (hc : VecsAt w ao ls) :
    Calls Try.prog 43 #[.slice ao ls.length cap] w fun e w' => e = .returned (.bool (rights ls)) ∧ Keep0 w w' := by
  have HC : Hid (VecsAt w ao ls) := hc
  have HF : Hid (∀ l ∈ ls, Ok10 l) := hf
  have hl' : (ls.length : Int) ≤ 9223372036854775807 := by omega
  obtain ⟨r, hr⟩ : ∃ r, rights ls = r := ⟨_, rfl⟩
  rw [hr]
  have HR : Hid (rights (ls.drop 0) = r) := hr
  clear hc hf hr
  go_enter Try.func43, Try.ntmps43
  go_wp2_with fail
  go_loopw [7] (fun i wr => ∃ (k : Nat), i = .int .i64 (k : Int) ∧ k ≤ ls.length ∧ Hid (rights (ls.drop k) = r) ∧ Keep0 w wr) (fun i _ => ls.length - (intOf i).toNat)
  case atStart => exact ⟨0, rfl, by omega, HR, Keep.refl _ _⟩
  case round =>
    obtain ⟨k, rfl, hk, HK, hK⟩ := hrel
    by_cases hlt : k < ls.length
    · have i1 : (k : Int) < ls.length := by omega
      obtain ⟨b, off, bo, c, rfl, x0, x1⟩ := HC.out k hlt
      have y0 := hK.cell x0 (fun f => f)
      have yc := check10 wr bo c ls[k] (HF.out ls[k] (List.getElem_mem hlt)) (x1.keep0 hK)
      have hd := HK.out
      rw [rights_drop hlt] at hd
      generalize ls[k].length = LL at *
      clear x0 x1
      by_cases h0 : vCheck ls[k] = 0
      · rw [h0] at hd yc
        have HD : Hid (rights (ls.drop (k + 1)) = r) := hd
        clear hd HK h0
        go_wp2_with fail
        refine yc.mono ?_
        rintro e w1 ⟨rfl, k1⟩
        have K1 := hK.trans k1
        clear yc k1 hK y0
        go_wp2
        go_roundw
        case rel => exact ⟨k + 1, by go_num, by omega, HD, K1⟩
        case measure => simp [intOf]; omega
      · have e0 : (vCheck ls[k] == 0) = false := beq_eq_false_iff_ne.2 h0
        rw [e0] at hd
        have HD : Hid (false = r) := hd
        have e1 : (vCheck ls[k] != 0) = true := by simpa using h0
        clear hd HK
        generalize vCheck ls[k] = C at *
        go_wp2_with fail
        refine yc.mono ?_
        rintro e w1 ⟨rfl, k1⟩
        have K1 := hK.trans k1
        clear yc k1 hK y0
        go_wp2
        go_ret
        exact ⟨by rw [← HD.out]; rfl, K1⟩
    · have i1 : ¬ (k : Int) < ls.length := by omega
      have hd := HK.out
      rw [List.drop_eq_nil_of_le (by omega)] at hd
      have HD : Hid (true = r) := hd
      clear hd HK
      go_wp2
      go_ret
      exact ⟨by rw [← HD.out]; rfl, hK⟩
end Go.Proofs.Ytkbihpdfafapeaa
