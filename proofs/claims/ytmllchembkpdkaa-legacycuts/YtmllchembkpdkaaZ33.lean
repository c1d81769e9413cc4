/-
  What this seat's claims lean on of the texts VecC.
  Conditions: as each theorem states.
-/
import Derived.Test.YtmllchembkpdkaaChecked
import Derived.WalkKit
import Derived.ProofKit
import Derived.Below
import Derived.Deep.Draws
import Derived.Deep.RegionHeld
import Derived.OpenShut
import Derived.ShutString
import Derived.WalkSpells
import Derived.WalkLawsBesides
import Derived.Deep.QuietTactic
import Derived.BigQuiet
import Derived.Deep.Slices
import Derived.Laws.Bits64b
import Derived.PlainAid
import Derived.Lib.AppendStr
import Derived.Deep.AppendLies
import Derived.Laws.IdiomStrings
import Derived.Laws.BytesArg
import Derived.Deep.RegionWith
import Derived.Laws.AppendOwn
import Derived.Deep.DeepAppendWide
import Derived.Deep.Upon
import Derived.Test.YtmllchembkpdkaaZ31
namespace Go.Proofs.Ytmllchembkpdkaa
open Go.RowKit
set_option maxRecDepth 100000 in
theorem equal10 (w : World) (ao bo : Option Addr) (ca cb : Nat) (l m : List En) (hl : l.length ≤ maxLen) (hm : m.length ≤ maxLen) (ha : EnsAt w ao l) (hb : EnsAt w bo m) :
    Calls Try.prog 81 #[.slice ao l.length ca, .slice bo m.length cb] w fun e w' => e = .returned (.bool (vSame l m)) ∧ ∃ n, w' = w.drewN n := by
  have HA : Hid (EnsAt w ao l) := ha
  have HB : Hid (EnsAt w bo m) := hb
  have hl' : (l.length : Int) ≤ 9223372036854775807 := by unfold maxLen at hl; omega
  have hm' : (m.length : Int) ≤ 9223372036854775807 := by unfold maxLen at hm; omega
  clear ha hb
  by_cases he : l.length = m.length
  · obtain ⟨r, hr⟩ : ∃ r, vSame l m = r := ⟨_, rfl⟩
    rw [hr]
    have HR : Hid (vSame (l.drop 0) (m.drop 0) = r) := hr
    have HE : Hid (l.length = m.length) := he
    have i0 : ((l.length : Int) != (m.length : Int)) = false := by simp [he]
    clear hr he
    go_enter Try.func81, Try.ntmps81
    go_wp2_with fail
    go_loopw [13] (fun i wr => ∃ (k : Nat), i = .int .i64 (k : Int) ∧ k ≤ l.length ∧ Hid (vSame (l.drop k) (m.drop k) = r) ∧ ∃ n, wr = w.drewN n) (fun i _ => l.length - (intOf i).toNat)
    case atStart => exact ⟨0, rfl, by omega, HR, 0, rfl⟩
    case round =>
      obtain ⟨k, rfl, hk, HK, hWr⟩ := hrel
      have kr := keepN hWr
      have HW : Hid (∃ n, wr = w.drewN n) := hWr
      have he := HE.out
      clear hWr
      by_cases hlt : k < l.length
      · have i1 : (k : Int) < l.length := by omega
        have i2 : (k : Int) < m.length := by omega
        have hkm : k < m.length := by omega
        obtain ⟨b1, o1, rfl, p0, p1⟩ := HA.out k hlt
        obtain ⟨b2, o2, rfl, q0, q1⟩ := HB.out k hkm
        have x0 := kr.cell p0 (fun f => f)
        have x1 := kr.cell p1 (fun f => f)
        have y0 := kr.cell q0 (fun f => f)
        have y1 := kr.cell q1 (fun f => f)
        clear p0 p1 q0 q1
        have hd := HK.out
        rw [same_drop hlt hkm] at hd
        by_cases h1 : l[k].a = m[k].a
        · by_cases h2 : l[k].n = m[k].n
          · rw [if_pos ⟨h1, h2⟩] at hd
            have HD : Hid (vSame (l.drop (k + 1)) (m.drop (k + 1)) = r) := hd
            rw [← h1] at y0
            rw [← h2] at y1
            generalize l[k].a = A at *
            generalize l[k].n = N at *
            clear hd HK kr he h1 h2 HA HB
            go_wp2_with fail
            go_quiet (fail)
            go_wp2
            go_roundw
            case rel => exact ⟨k + 1, by go_num, by omega, HD, drewN_on HW.out _⟩
            case measure => simp [intOf]; omega
          · rw [if_neg (fun h => h2 h.2)] at hd
            have HD : Hid (false = r) := hd
            rw [← h1] at y0
            have e2 : ((l[k].n : Int) == (m[k].n : Int)) = false := by simp; omega
            have e3 : ¬ ((l[k].n : Int) = (m[k].n : Int)) := by omega
            generalize l[k].a = A at *
            generalize (l[k].n : Int) = N at *
            generalize (m[k].n : Int) = M at *
            clear hd HK kr he h1 h2 HA HB
            go_wp2_with fail
            go_quiet (fail)
            go_wp2
            go_ret
            exact ⟨by rw [← HD.out]; rfl, drewN_on HW.out _⟩
        · rw [if_neg (fun h => h1 h.1)] at hd
          have HD : Hid (false = r) := hd
          obtain ⟨e2, e3, e4⟩ := txt_ne h1
          generalize l[k].a = A at *
          generalize m[k].a = A2 at *
          generalize (l[k].n : Int) = N at *
          generalize (m[k].n : Int) = M at *
          clear hd HK kr he HA HB
          go_wp2_with fail
          go_quiet (fail)
          go_wp2
          go_ret
          exact ⟨by rw [← HD.out]; rfl, drewN_on HW.out _⟩
      · have i1 : ¬ (k : Int) < l.length := by omega
        have hd := HK.out
        rw [List.drop_eq_nil_of_le (by omega), List.drop_eq_nil_of_le (by omega)] at hd
        have HD : Hid (true = r) := hd
        clear hd HK kr he
        go_wp2
        go_ret
        exact ⟨by rw [← HD.out]; rfl, HW.out⟩
  · rw [vSame_len he]
    have i0 : ((l.length : Int) != (m.length : Int)) = true := by simp; omega
    go_enter Try.func81, Try.ntmps81
    go_wp2
    go_ret
    exact ⟨rfl, 0, rfl⟩
set_option maxRecDepth 100000 in
theorem same10 (w : World) (ao bo : Option Addr) (ca cb : Nat) (l m : List En) (hl : Ok10 l) (hm : Ok10 m) (ha : EnsAt w ao l) (hb : EnsAt w bo m) :
    Calls Try.prog 61 #[.slice ao l.length ca, .slice bo m.length cb] w fun e w' => e = .returned (.bool (vSame l m)) ∧ Keep0 w w' := by
  have y := equal10 w ao bo ca cb l m hl.len hm.len ha hb
  generalize vSame l m = r at *
  go_enter Try.func61, Try.ntmps61
  go_wp2_with fail
  refine y.mono ?_
  rintro e w1 ⟨rfl, hw1⟩
  have K1 := keepN hw1
  clear y hw1
  go_wp2
  go_ret
  exact ⟨rfl, K1⟩
end Go.Proofs.Ytmllchembkpdkaa
