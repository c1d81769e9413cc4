/-
  What this seat's claims lean on of the texts Law10, VecA, VecB, VecC.
  Conditions: as each theorem states.
-/
import Derived.Test.YteonkfedgopdiaaGreatChecked
import Derived.WalkKit
import Derived.ProofKit
import Derived.Below
import Derived.Deep.Draws
import Derived.Deep.RegionHeld
import Derived.OpenShut
import Derived.ShutString
import Derived.WalkSpells
import Derived.WalkLawsBesides
import Derived.Deep.QuietTactic
import Derived.BigQuiet
import Derived.Deep.Slices
import Derived.Laws.Bits64b
import Derived.PlainAid
import Derived.Lib.AppendStr
import Derived.Deep.AppendLies
import Derived.Laws.IdiomStrings
import Derived.Laws.BytesArg
import Derived.Deep.RegionWith
import Derived.Laws.AppendOwn
import Derived.Deep.DeepAppendWide
import Derived.Deep.Upon
import Derived.Test.YteonkfedgopdiaaGreatZ26
import Derived.Test.YteonkfedgopdiaaGreatZ4
namespace Go.Proofs.YteonkfedgopdiaaGreat
open Go.RowKit
def Ok10 (l : List En) : Prop := l.length ≤ 10000 ∧ ∀ x ∈ l, x.a.size ≤ maxLen ∧ x.n < 18446744073709551616
theorem Ok10.fits {l : List En} (h : Ok10 l) : Fits l := ⟨by have := h.1; unfold maxLen; omega, h.2⟩
theorem Ok10.len {l : List En} (h : Ok10 l) : l.length ≤ maxLen := by have := h.1; unfold maxLen; omega
def xA : List En := [⟨⟨#[97]⟩, 1⟩, ⟨⟨#[98]⟩, 2⟩]
end Go.Proofs.YteonkfedgopdiaaGreat
namespace Go.Proofs.YteonkfedgopdiaaGreat
open Go.RowKit
theorem texts_two10 (w : World) (t : TypeId) (a b : ByteArray) : TextsIn (w.alloc (.cells #[.string a, .string b] t)) (some ⟨w.heap.size, 0, none⟩) [a, b] := by
  intro i hi
  have hi : i = 0 ∨ i = 1 := by simp at hi; omega
  rcases hi with rfl | rfl
  · exact ⟨w.heap.size, 0, rfl, cell_alloc w t rfl⟩
  · exact ⟨w.heap.size, 0, rfl, cell_alloc w t rfl⟩
theorem rise_yes {a b : ByteArray} (h : bl a b = true) : rise [a, b] = -1 := by
  show (if bl a b = true then riseAt (1 + 1) [b] else 1) = -1
  rw [if_pos h]
  rfl
theorem rise_no {a b : ByteArray} (h : bl a b = false) : rise [a, b] = 1 := by
  show (if bl a b = true then riseAt (1 + 1) [b] else 1) = 1
  rw [h]
  rfl
theorem empty_no {a : ByteArray} (h : a.size ≠ 0) : a.toList.isEmpty = false := by
  rw [ByteArray.toList_eq]
  cases hb : a.data.toList with
  | nil => exact absurd (by show a.data.size = 0; rw [← Array.length_toList, hb]; rfl) h
  | cons x l => rfl
theorem empty_eq {a : ByteArray} (h : a.size = 0) : a = ⟨#[]⟩ := ByteArray.ext (Array.eq_empty_of_size_eq_zero h)
set_option maxRecDepth 100000 in
set_option maxHeartbeats 4000000 in
theorem checkAt10 (w : World) (ao : Option Addr) (cap : Nat) (l : List En) (ok : Ok10 l) (hc : EnsAt w ao l) (k : Nat) (hk : k < l.length) :
    Calls Tryz.prog 141 #[.slice ao l.length cap, .int .i64 (k : Int)] w fun e w' => e = .returned (.int .i64 (cOne (prv l k) l[k])) ∧ Keep0 w w' := by
  have hl := ok.1
  have hm := (ok.2 l[k] (List.getElem_mem hk)).1
  have hl' : (l.length : Int) ≤ 9223372036854775807 := by omega
  have i1 : (k : Int) < l.length := by omega
  have i2 : (l[k].a.size : Int) ≤ 9223372036854775807 := by unfold maxLen at hm; omega
  obtain ⟨b, off, rfl, x0, x1⟩ := hc k hk
  by_cases h1 : 32 < l[k].a.size
  · rw [cOne_a h1]
    have i3 : (32 : Int) < l[k].a.size := by omega
    clear hm h1 x1 ok
    generalize l[k].a = A at *
    go_enter Tryz.func141, Tryz.ntmps141
    go_wp2
    go_ret
    exact ⟨rfl, Keep.refl _ _⟩
  have i3 : ¬ (32 : Int) < l[k].a.size := by omega
  by_cases h2 : l[k].a.size = 0
  · rw [cOne_b h2]
    rw [empty_eq h2] at x0
    clear hm h1 x1 ok i2 i3 h2
    go_enter Tryz.func141, Tryz.ntmps141
    go_wp2
    go_ret
    exact ⟨rfl, Keep.refl _ _⟩
  have e1 := empty_no h2
  cases k with
  | zero =>
    have hp : falls (prv l 0) l[0].a = false := rfl
    have v0 : w.cell? ⟨b, off, none⟩ = some (.string l[0].a) := x0
    have v1 : w.cell? ⟨b, off + 1, none⟩ = some (.int .u64 (l[0].n : Int)) := x1
    by_cases h4 : l[0].n = 0
    · rw [cOne_d h1 h2 hp h4]
      have i6 : (l[0].n : Int) = 0 := by omega
      rw [i6] at v1
      clear hm h1 x1 x0 ok i6 hp h2 h4
      generalize l[0].a = A at *
      go_enter Tryz.func141, Tryz.ntmps141
      go_wp2
      go_ret
      exact ⟨rfl, Keep.refl _ _⟩
    · rw [cOne_e h1 h2 hp h4]
      have i6 : ((l[0].n : Int) == 0) = false := beq_eq_false_iff_ne.2 (by omega)
      have i7 : ¬ (l[0].n : Int) = 0 := by omega
      clear hm h1 x1 x0 ok hp h2 h4
      generalize (l[0].n : Int) = N at *
      generalize l[0].a = A at *
      go_enter Tryz.func141, Tryz.ntmps141
      go_wp2
      go_ret
      exact ⟨rfl, Keep.refl _ _⟩
  | succ j =>
    have hj : j < l.length := by omega
    obtain ⟨b', off', e', p0, _⟩ := hc j hj
    cases e'
    have hp : falls (prv l (j + 1)) l[j + 1].a = !bl l[j].a l[j + 1].a := by rw [prv_succ hj, falls_some]
    have yr := rising6_any _ _ 2 [l[j].a, l[j + 1].a] (by show 2 ≤ maxLen; unfold maxLen; omega) (texts_two10 w 9 l[j].a l[j + 1].a)
    have kA : Keep0 w (w.alloc (.cells #[.string l[j].a, .string l[j + 1].a] 9)) := (Keep.refl _ w).alloc _
    have z1 := kA.cell x1 (fun f => f)
    have i9 : (j : Int) < l.length := by omega
    have el : [l[j].a, l[j + 1].a].length = 2 := rfl
    rw [el] at yr
    clear el
    have hQ : ∃ q : Nat, j + 1 = q := ⟨_, rfl⟩
    have i7 : IntKind.i64.wrap (j : Int) = (j : Int) := by rw [IntKind.wrap_i64]; omega
    cases hB : bl l[j].a l[j + 1].a with
    | false =>
      rw [hB] at hp
      rw [cOne_c h1 h2 hp]
      rw [rise_no hB] at yr
      clear hm h1 h2 hp hB ok hc x1 z1 i2
      generalize l[j + 1].a = A at *
      generalize l[j].a = A' at *
      obtain ⟨q, hq⟩ := hQ
      have i6 : (q : Int) - 1 = (j : Int) := by omega
      have i8 : decide (0 < q) = true := decide_eq_true (by omega)
      have i8' : 0 < q := by omega
      rw [hq] at i1 x0 hk ⊢
      clear hq
      go_enter Tryz.func141, Tryz.ntmps141
      go_wp2_with fail
      refine yr.mono ?_
      rintro e w1 ⟨rfl, hw1⟩
      have K1 := kA.trans (keepN hw1)
      clear yr kA hw1
      go_wp2
      go_ret
      exact ⟨rfl, K1⟩
    | true =>
      rw [hB] at hp
      rw [rise_yes hB] at yr
      by_cases h4 : l[j + 1].n = 0
      · rw [cOne_d h1 h2 hp h4]
        have i6 : (l[j + 1].n : Int) = 0 := by omega
        rw [i6] at z1
        clear hm h1 h2 hp hB ok hc x1 i2 i6 h4
        generalize l[j + 1].a = A at *
        generalize l[j].a = A' at *
        obtain ⟨q, hq⟩ := hQ
        have i6 : (q : Int) - 1 = (j : Int) := by omega
        have i8 : decide (0 < q) = true := decide_eq_true (by omega)
        have i8' : 0 < q := by omega
        rw [hq] at i1 x0 hk z1 ⊢
        clear hq
        go_enter Tryz.func141, Tryz.ntmps141
        go_wp2_with fail
        refine yr.mono ?_
        rintro e w1 ⟨rfl, hw1⟩
        have k1 := keepN hw1
        have z1 := k1.cell z1 (fun f => f)
        have K1 := kA.trans k1
        clear yr kA hw1 k1 x0 p0
        go_wp2
        go_ret
        exact ⟨rfl, K1⟩
      · rw [cOne_e h1 h2 hp h4]
        have i10 : ((l[j + 1].n : Int) == 0) = false := beq_eq_false_iff_ne.2 (by omega)
        have i11 : ¬ (l[j + 1].n : Int) = 0 := by omega
        clear hm h1 h2 hp hB ok hc x1 i2 h4
        generalize (l[j + 1].n : Int) = N at *
        generalize l[j + 1].a = A at *
        generalize l[j].a = A' at *
        obtain ⟨q, hq⟩ := hQ
        have i6 : (q : Int) - 1 = (j : Int) := by omega
        have i8 : decide (0 < q) = true := decide_eq_true (by omega)
        have i8' : 0 < q := by omega
        rw [hq] at i1 x0 hk z1 ⊢
        clear hq
        go_enter Tryz.func141, Tryz.ntmps141
        go_wp2_with fail
        refine yr.mono ?_
        rintro e w1 ⟨rfl, hw1⟩
        have k1 := keepN hw1
        have z1 := k1.cell z1 (fun f => f)
        have K1 := kA.trans k1
        clear yr kA hw1 k1 x0 p0
        go_wp2
        go_ret
        exact ⟨rfl, K1⟩
end Go.Proofs.YteonkfedgopdiaaGreat
namespace Go.Proofs.YteonkfedgopdiaaGreat
open Go.RowKit
set_option maxRecDepth 100000 in
theorem check10 (w : World) (ao : Option Addr) (cap : Nat) (l : List En) (ok : Ok10 l) (hc : EnsAt w ao l) :
    Calls Tryz.prog 106 #[.slice ao l.length cap] w fun e w' => e = .returned (.int .i64 (vCheck l)) ∧ Keep0 w w' := by
  have hl := ok.1
  have hl' : (l.length : Int) ≤ 9223372036854775807 := by omega
  by_cases h64 : 64 < l.length
  · have i0 : (64 : Int) < l.length := by omega
    have e : vCheck l = 3 := if_pos h64
    rw [e]
    go_enter Tryz.func106, Tryz.ntmps106
    go_wp2
    go_ret
    exact ⟨rfl, Keep.refl _ _⟩
  · have i0 : ¬ (64 : Int) < l.length := by omega
    have e : vCheck l = cGo (prv l 0) (l.drop 0) := if_neg h64
    obtain ⟨r, hr⟩ : ∃ r, vCheck l = r := ⟨_, rfl⟩
    rw [hr]
    rw [e] at hr
    have HR : Hid (cGo (prv l 0) (l.drop 0) = r) := hr
    have HC : Hid (EnsAt w ao l) := hc
    have HF : Hid (Ok10 l) := ok
    clear hr e hc ok h64
    go_enter Tryz.func106, Tryz.ntmps106
    go_wp2_with fail
    go_loopw [10] (fun i wr => ∃ (k : Nat), i = .int .i64 (k : Int) ∧ k ≤ l.length ∧ Hid (cGo (prv l k) (l.drop k) = r) ∧ Keep0 w wr) (fun i _ => l.length - (intOf i).toNat)
    case atStart => exact ⟨0, rfl, by omega, HR, Keep.refl _ _⟩
    case round =>
      obtain ⟨k, rfl, hk, HK, hK⟩ := hrel
      by_cases hlt : k < l.length
      · have i1 : (k : Int) < l.length := by omega
        have y := checkAt10 wr ao cap l HF.out (HC.out.keep0 hK) k hlt
        have hd := HK.out
        rw [go_drop hlt] at hd
        by_cases h0 : cOne (prv l k) l[k] = 0
        · rw [if_pos h0] at hd
          rw [h0] at y
          have HD : Hid (cGo (prv l (k + 1)) (l.drop (k + 1)) = r) := hd
          clear hd HK h0
          go_wp2_with fail
          refine y.mono ?_
          rintro e w1 ⟨rfl, k1⟩
          have K1 := hK.trans k1
          clear y k1 hK
          go_wp2
          go_roundw
          case rel => exact ⟨k + 1, by go_num, by omega, HD, K1⟩
          case measure => simp [intOf]; omega
        · rw [if_neg h0] at hd
          rw [hd] at y
          have e0 : (r != 0) = true := by rw [← hd]; simpa using h0
          have e1 : ¬ r = 0 := by rw [← hd]; exact h0
          clear hd HK h0 HR
          go_wp2_with fail
          refine y.mono ?_
          rintro e w1 ⟨rfl, k1⟩
          have K1 := hK.trans k1
          clear y k1 hK
          go_wp2
          go_ret
          exact ⟨rfl, K1⟩
      · have i1 : ¬ (k : Int) < l.length := by omega
        have hd := HK.out
        rw [List.drop_eq_nil_of_le (by omega)] at hd
        have HD : Hid ((0 : Int) = r) := hd
        clear hd HK
        go_wp2
        go_ret
        exact ⟨by rw [← HD.out]; rfl, hK⟩
set_option maxRecDepth 100000 in
theorem count10 (w : World) (ao : Option Addr) (cap : Nat) (l : List En) (ok : Ok10 l) (hc : EnsAt w ao l) (s : ByteArray) :
    Calls Tryz.prog 142 #[.slice ao l.length cap, .string s] w fun e w' => e = .returned (.int .u64 (vCount l s : Int)) ∧ Keep0 w w' := by
  have HC : Hid (EnsAt w ao l) := hc
  have hl := ok.1
  have hl' : (l.length : Int) ≤ 9223372036854775807 := by omega
  obtain ⟨r, hr⟩ : ∃ r, vCount l s = r := ⟨_, rfl⟩
  rw [hr]
  have HR : Hid (vCount (l.drop 0) s = r) := hr
  clear hc hr ok
  go_enter Tryz.func142, Tryz.ntmps142
  go_wp2_with fail
  go_loopw [9] (fun i wr => ∃ (k : Nat), i = .int .i64 (k : Int) ∧ k ≤ l.length ∧ Hid (vCount (l.drop k) s = r) ∧ Keep0 w wr) (fun i _ => l.length - (intOf i).toNat)
  case atStart => exact ⟨0, rfl, by omega, HR, Keep.refl _ _⟩
  case round =>
    obtain ⟨k, rfl, hk, HK, hK⟩ := hrel
    by_cases hlt : k < l.length
    · have i1 : (k : Int) < l.length := by omega
      obtain ⟨b, off, rfl, p0, p1⟩ := HC.out k hlt
      have x0 := hK.cell p0 (fun f => f)
      have x1 := hK.cell p1 (fun f => f)
      clear p0 p1
      have hd := HK.out
      rw [count_drop hlt] at hd
      have kA : ∀ o, Keep0 w (wr.alloc o) := fun o => hK.alloc o
      by_cases h1 : l[k].a = s
      · rw [if_pos h1] at hd
        have HD : Hid (l[k].n = r) := hd
        rw [h1] at x0
        clear hd HK h1
        generalize l[k].n = N at *
        go_wp2
        go_ret
        exact ⟨by rw [HD.out]; rfl, kA _⟩
      · rw [if_neg h1] at hd
        have HD : Hid (vCount (l.drop (k + 1)) s = r) := hd
        obtain ⟨e1, e2, e3⟩ := txt_ne h1
        clear hd HK
        generalize (l[k].n : Int) = N at *
        generalize l[k].a = A at *
        go_wp2
        go_roundw
        case rel => exact ⟨k + 1, by go_num, by omega, HD, kA _⟩
        case measure => simp [intOf]; omega
    · have i1 : ¬ (k : Int) < l.length := by omega
      have hd := HK.out
      rw [List.drop_eq_nil_of_le (by omega), count_nil] at hd
      have HD : Hid (0 = r) := hd
      clear hd HK
      go_wp2
      go_ret
      exact ⟨by rw [← HD.out]; rfl, hK⟩
end Go.Proofs.YteonkfedgopdiaaGreat
namespace Go.Proofs.YteonkfedgopdiaaGreat
open Go.RowKit
set_option maxRecDepth 100000 in
theorem equal10 (w : World) (ao bo : Option Addr) (ca cb : Nat) (l m : List En) (hl : l.length ≤ maxLen) (hm : m.length ≤ maxLen) (ha : EnsAt w ao l) (hb : EnsAt w bo m) :
    Calls Tryz.prog 143 #[.slice ao l.length ca, .slice bo m.length cb] w fun e w' => e = .returned (.bool (vSame l m)) ∧ ∃ n, w' = w.drewN n := by
  have HA : Hid (EnsAt w ao l) := ha
  have HB : Hid (EnsAt w bo m) := hb
  have hl' : (l.length : Int) ≤ 9223372036854775807 := by unfold maxLen at hl; omega
  have hm' : (m.length : Int) ≤ 9223372036854775807 := by unfold maxLen at hm; omega
  clear ha hb
  by_cases he : l.length = m.length
  · obtain ⟨r, hr⟩ : ∃ r, vSame l m = r := ⟨_, rfl⟩
    rw [hr]
    have HR : Hid (vSame (l.drop 0) (m.drop 0) = r) := hr
    have HE : Hid (l.length = m.length) := he
    have i0 : ((l.length : Int) != (m.length : Int)) = false := by simp [he]
    clear hr he
    go_enter Tryz.func143, Tryz.ntmps143
    go_wp2_with fail
    go_loopw [13] (fun i wr => ∃ (k : Nat), i = .int .i64 (k : Int) ∧ k ≤ l.length ∧ Hid (vSame (l.drop k) (m.drop k) = r) ∧ ∃ n, wr = w.drewN n) (fun i _ => l.length - (intOf i).toNat)
    case atStart => exact ⟨0, rfl, by omega, HR, 0, rfl⟩
    case round =>
      obtain ⟨k, rfl, hk, HK, hWr⟩ := hrel
      have kr := keepN hWr
      have HW : Hid (∃ n, wr = w.drewN n) := hWr
      have he := HE.out
      clear hWr
      by_cases hlt : k < l.length
      · have i1 : (k : Int) < l.length := by omega
        have i2 : (k : Int) < m.length := by omega
        have hkm : k < m.length := by omega
        obtain ⟨b1, o1, rfl, p0, p1⟩ := HA.out k hlt
        obtain ⟨b2, o2, rfl, q0, q1⟩ := HB.out k hkm
        have x0 := kr.cell p0 (fun f => f)
        have x1 := kr.cell p1 (fun f => f)
        have y0 := kr.cell q0 (fun f => f)
        have y1 := kr.cell q1 (fun f => f)
        clear p0 p1 q0 q1
        have hd := HK.out
        rw [same_drop hlt hkm] at hd
        by_cases h1 : l[k].a = m[k].a
        · by_cases h2 : l[k].n = m[k].n
          · rw [if_pos ⟨h1, h2⟩] at hd
            have HD : Hid (vSame (l.drop (k + 1)) (m.drop (k + 1)) = r) := hd
            rw [← h1] at y0
            rw [← h2] at y1
            generalize l[k].a = A at *
            generalize l[k].n = N at *
            clear hd HK kr he h1 h2 HA HB
            go_wp2_with fail
            go_quiet (fail)
            go_wp2
            go_roundw
            case rel => exact ⟨k + 1, by go_num, by omega, HD, drewN_on HW.out _⟩
            case measure => simp [intOf]; omega
          · rw [if_neg (fun h => h2 h.2)] at hd
            have HD : Hid (false = r) := hd
            rw [← h1] at y0
            have e2 : ((l[k].n : Int) == (m[k].n : Int)) = false := by simp; omega
            have e3 : ¬ ((l[k].n : Int) = (m[k].n : Int)) := by omega
            generalize l[k].a = A at *
            generalize (l[k].n : Int) = N at *
            generalize (m[k].n : Int) = M at *
            clear hd HK kr he h1 h2 HA HB
            go_wp2_with fail
            go_quiet (fail)
            go_wp2
            go_ret
            exact ⟨by rw [← HD.out]; rfl, drewN_on HW.out _⟩
        · rw [if_neg (fun h => h1 h.1)] at hd
          have HD : Hid (false = r) := hd
          obtain ⟨e2, e3, e4⟩ := txt_ne h1
          generalize l[k].a = A at *
          generalize m[k].a = A2 at *
          generalize (l[k].n : Int) = N at *
          generalize (m[k].n : Int) = M at *
          clear hd HK kr he HA HB
          go_wp2_with fail
          go_quiet (fail)
          go_wp2
          go_ret
          exact ⟨by rw [← HD.out]; rfl, drewN_on HW.out _⟩
      · have i1 : ¬ (k : Int) < l.length := by omega
        have hd := HK.out
        rw [List.drop_eq_nil_of_le (by omega), List.drop_eq_nil_of_le (by omega)] at hd
        have HD : Hid (true = r) := hd
        clear hd HK kr he
        go_wp2
        go_ret
        exact ⟨by rw [← HD.out]; rfl, HW.out⟩
  · rw [vSame_len he]
    have i0 : ((l.length : Int) != (m.length : Int)) = true := by simp; omega
    go_enter Tryz.func143, Tryz.ntmps143
    go_wp2
    go_ret
    exact ⟨rfl, 0, rfl⟩
set_option maxRecDepth 100000 in
theorem same10 (w : World) (ao bo : Option Addr) (ca cb : Nat) (l m : List En) (hl : Ok10 l) (hm : Ok10 m) (ha : EnsAt w ao l) (hb : EnsAt w bo m) :
    Calls Tryz.prog 111 #[.slice ao l.length ca, .slice bo m.length cb] w fun e w' => e = .returned (.bool (vSame l m)) ∧ Keep0 w w' := by
  have y := equal10 w ao bo ca cb l m hl.len hm.len ha hb
  generalize vSame l m = r at *
  go_enter Tryz.func111, Tryz.ntmps111
  go_wp2_with fail
  refine y.mono ?_
  rintro e w1 ⟨rfl, hw1⟩
  have K1 := keepN hw1
  clear y hw1
  go_wp2
  go_ret
  exact ⟨rfl, K1⟩
end Go.Proofs.YteonkfedgopdiaaGreat
