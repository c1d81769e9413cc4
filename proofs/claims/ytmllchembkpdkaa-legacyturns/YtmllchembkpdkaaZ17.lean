/-
  What this seat's claims lean on of the texts RefVec2.
  Conditions: as each theorem states.
-/
import Derived.WalkKit
import Derived.ProofKit
import Derived.Below
import Derived.Deep.Draws
import Derived.Deep.RegionHeld
import Derived.Test.YtmllchembkpdkaaChecked
import Derived.OpenShut
import Derived.ShutString
import Derived.WalkSpells
import Derived.WalkLawsBesides
import Derived.Deep.QuietTactic
import Derived.BigQuiet
import Derived.Laws.Bits64b
import Derived.PlainAid
import Derived.Lib.AppendStr
import Derived.Deep.AppendLies
import Derived.Laws.IdiomStrings
import Derived.Laws.BytesArg
import Derived.Deep.RegionWith
import Derived.Laws.AppendOwn
import Derived.Deep.DeepAppendWide
import Derived.Deep.Upon
import Derived.Test.YtmllchembkpdkaaZ15
namespace Go.Proofs.Ytmllchembkpdkaa
open Go.RowKit
def prv (l : List En) : Nat → Option ByteArray
  | 0 => none
  | k + 1 => (l[k]?).map (·.a)
theorem prv_zero (l : List En) : prv l 0 = none := rfl
theorem prv_succ {l : List En} {k : Nat} (h : k < l.length) : prv l (k + 1) = some l[k].a := by
  show (l[k]?).map (·.a) = _
  rw [List.getElem?_eq_getElem h]
  rfl
theorem go_drop {l : List En} {k : Nat} (hk : k < l.length) : cGo (prv l k) (l.drop k) = if cOne (prv l k) l[k] = 0 then cGo (prv l (k + 1)) (l.drop (k + 1)) else cOne (prv l k) l[k] := by
  rw [List.drop_eq_getElem_cons hk, cGo, prv_succ hk]
theorem cOne_a {p : Option ByteArray} {x : En} (h : 32 < x.a.size) : cOne p x = 3 := if_pos h
theorem cOne_b {p : Option ByteArray} {x : En} (h : x.a.size = 0) : cOne p x = 14 := by unfold cOne; rw [if_neg (by omega), if_pos h]
theorem cOne_c {p : Option ByteArray} {x : En} (h1 : ¬ 32 < x.a.size) (h2 : x.a.size ≠ 0) (h3 : falls p x.a = true) : cOne p x = 6 := by unfold cOne; rw [if_neg h1, if_neg h2, if_pos h3]
theorem cOne_d {p : Option ByteArray} {x : En} (h1 : ¬ 32 < x.a.size) (h2 : x.a.size ≠ 0) (h3 : falls p x.a = false) (h4 : x.n = 0) : cOne p x = 7 := by unfold cOne; rw [if_neg h1, if_neg h2, h3, if_neg (by decide), if_pos h4]
theorem cOne_e {p : Option ByteArray} {x : En} (h1 : ¬ 32 < x.a.size) (h2 : x.a.size ≠ 0) (h3 : falls p x.a = false) (h4 : x.n ≠ 0) : cOne p x = 0 := by unfold cOne; rw [if_neg h1, if_neg h2, h3, if_neg (by decide), if_neg h4]
set_option maxRecDepth 100000 in
set_option maxHeartbeats 4000000 in
theorem rcheck10 (w : World) (ao : Option Addr) (cap : Nat) (l : List En) (hf : Fits l) (hc : EnsAt w ao l) :
    Calls Try.prog 34 #[.slice ao l.length cap] w fun e w' => e = .returned (.int .i64 (vCheck l)) ∧ ∃ n, w' = w.drewN n := by
  have HC : Hid (EnsAt w ao l) := hc
  have HF : Hid (∀ x ∈ l, x.a.size ≤ maxLen ∧ x.n < 18446744073709551616) := hf.2
  have hl' : (l.length : Int) ≤ 9223372036854775807 := by have := hf.1; unfold maxLen at this; omega
  clear hc hf
  by_cases h64 : 64 < l.length
  · have i0 : (64 : Int) < l.length := by omega
    have e : vCheck l = 3 := if_pos h64
    rw [e]
    go_enter Try.func34, Try.ntmps34
    go_wp2
    go_ret
    exact ⟨rfl, 0, rfl⟩
  · have i0 : ¬ (64 : Int) < l.length := by omega
    have e : vCheck l = cGo (prv l 0) (l.drop 0) := if_neg h64
    obtain ⟨r, hr⟩ : ∃ r, vCheck l = r := ⟨_, rfl⟩
    rw [hr]
    rw [e] at hr
    have HR : Hid (cGo (prv l 0) (l.drop 0) = r) := hr
    clear hr e
    go_enter Try.func34, Try.ntmps34
    go_wp2_with fail
    go_loopw [3] (fun i wr => ∃ (k : Nat), i = .int .i64 (k : Int) ∧ k ≤ l.length ∧ Hid (cGo (prv l k) (l.drop k) = r) ∧ ∃ n, wr = w.drewN n) (fun i _ => l.length - (intOf i).toNat)
    case atStart => exact ⟨0, rfl, by omega, HR, 0, rfl⟩
    case round =>
      obtain ⟨k, rfl, hk, HK, hWr⟩ := hrel
      have kr := keepN hWr
      have HW : Hid (∃ n, wr = w.drewN n) := hWr
      clear hWr
      by_cases hlt : k < l.length
      · have i1 : (k : Int) < l.length := by omega
        obtain ⟨b, off, rfl, p0, p1⟩ := HC.out k hlt
        have x0 := kr.cell p0 (fun f => f)
        have x1 := kr.cell p1 (fun f => f)
        clear p0 p1
        have hm := (HF.out l[k] (List.getElem_mem hlt)).1
        have i2 : (l[k].a.size : Int) ≤ 9223372036854775807 := by unfold maxLen at hm; omega
        have hd := HK.out
        rw [go_drop hlt] at hd
        by_cases h1 : 32 < l[k].a.size
        · rw [cOne_a h1, if_neg (by decide)] at hd
          have HD : Hid ((3 : Int) = r) := hd
          have i3 : (32 : Int) < l[k].a.size := by omega
          clear hd HK kr hm h1 x1
          generalize l[k].a = A at *
          go_wp2
          go_ret
          exact ⟨by rw [← HD.out]; rfl, HW.out⟩
        by_cases h2 : l[k].a.size = 0
        · rw [cOne_b h2, if_neg (by decide)] at hd
          have HD : Hid ((14 : Int) = r) := hd
          have i3 : ¬ (32 : Int) < l[k].a.size := by omega
          have i4 : (l[k].a.size : Int) = 0 := by omega
          clear hd HK kr hm h1 x1
          generalize l[k].a = A at *
          go_wp2
          go_ret
          exact ⟨by rw [← HD.out]; rfl, HW.out⟩
        have i3 : ¬ (32 : Int) < l[k].a.size := by omega
        have i4 : ((l[k].a.size : Int) == 0) = false := beq_eq_false_iff_ne.2 (by omega)
        have i5 : ¬ (l[k].a.size : Int) = 0 := by omega
        cases k with
        | zero =>
          have hp : falls (prv l 0) l[0].a = false := rfl
          have v0 : wr.cell? ⟨b, off, none⟩ = some (.string l[0].a) := x0
          have v1 : wr.cell? ⟨b, off + 1, none⟩ = some (.int .u64 (l[0].n : Int)) := x1
          clear x0 x1
          have HZ : Hid (cGo (prv l 1) (l.drop 1) = r ∨ (l[0].n = 0 ∧ (7 : Int) = r)) := by
            by_cases h4 : l[0].n = 0
            · rw [cOne_d h1 h2 hp h4, if_neg (by decide)] at hd
              exact Or.inr ⟨h4, hd⟩
            · rw [cOne_e h1 h2 hp h4, if_pos rfl] at hd
              exact Or.inl hd
          have HN : Hid (l[0].n ≠ 0 → cGo (prv l 1) (l.drop 1) = r) := fun h => HZ.out.elim (fun e => e) (fun e => absurd e.1 h)
          have HN' : Hid (l[0].n = 0 → (7 : Int) = r) := by
            intro h4
            rw [cOne_d h1 h2 hp h4, if_neg (by decide)] at hd
            exact hd
          clear hd HK kr hm h1 h2 hp HZ HC HF HR
          by_cases h4 : l[0].n = 0
          · have HD : Hid ((7 : Int) = r) := HN'.out h4
            have i6 : (l[0].n : Int) = 0 := by omega
            rw [i6] at v1
            clear HN HN' h4 i6
            generalize l[0].a = A at *
            go_wp2_with fail
            go_quiet (fail)
            go_wp2
            go_ret
            exact ⟨by rw [← HD.out]; rfl, drewN_on HW.out _⟩
          · have i6 : ((l[0].n : Int) == 0) = false := beq_eq_false_iff_ne.2 (by omega)
            have i7 : ¬ (l[0].n : Int) = 0 := by omega
            have HD : Hid (cGo (prv l 1) (l.drop 1) = r) := HN.out h4
            clear HN HN' h4
            generalize l[0].a = A at *
            generalize (l[0].n : Int) = N at *
            go_wp2_with fail
            go_quiet (fail)
            go_wp2
            go_roundw
            case rel => exact ⟨1, by go_num, by omega, HD, drewN_on HW.out _⟩
            case measure => simp [intOf]; omega
        | succ j =>
          have hj : j < l.length := by omega
          obtain ⟨b', off', e', p0, _⟩ := HC.out j hj
          cases e'
          have y0 := kr.cell p0 (fun f => f)
          clear p0
          have hmj := (HF.out l[j] (List.getElem_mem hj)).1
          have HQ : Hid (∀ n, Calls Try.prog 60 #[.string l[j].a, .string l[j + 1].a] (wr.drewN n) fun e w' => e = .returned (.bool (bl l[j].a l[j + 1].a)) ∧ ∃ m, w' = wr.drewN m) := fun n => rbelow_q wr n l[j].a l[j + 1].a hmj hm
          have hp : falls (prv l (j + 1)) l[j + 1].a = !bl l[j].a l[j + 1].a := by rw [prv_succ hj, falls_some]
          obtain ⟨q, hq⟩ : ∃ q : Nat, j + 1 = q := ⟨_, rfl⟩
          have i6 : (q : Int) - 1 = (j : Int) := by omega
          have i7 : IntKind.i64.wrap (j : Int) = (j : Int) := by rw [IntKind.wrap_i64]; omega
          have i8 : decide (0 < q) = true := decide_eq_true (by omega)
          have i8' : 0 < q := by omega
          have i9 : (j : Int) < l.length := by omega
          cases hB : bl l[j].a l[j + 1].a with
          | false =>
            rw [hB] at hp HQ
            rw [cOne_c h1 h2 hp, if_neg (by decide)] at hd
            have HD : Hid ((6 : Int) = r) := hd
            clear hd HK kr hm h1 h2 hp HC HF HR hB hmj x1
            subst hq
            have yq := HQ.out
            clear HQ
            generalize l[j + 1].a = A at *
            generalize l[j].a = A' at *
            generalize hq : j + 1 = q at *
            go_wp2_with fail
            go_quiet ((go_at_call 60; exact yq _))
            go_wp2
            go_ret
            exact ⟨by rw [← HD.out]; rfl, drewN_on HW.out _⟩
          | true =>
            rw [hB] at hp HQ
            have HN : Hid (l[j + 1].n ≠ 0 → cGo (prv l (j + 2)) (l.drop (j + 2)) = r) := by
              intro h4
              rw [cOne_e h1 h2 hp h4, if_pos rfl] at hd
              exact hd
            have HN' : Hid (l[j + 1].n = 0 → (7 : Int) = r) := by
              intro h4
              rw [cOne_d h1 h2 hp h4, if_neg (by decide)] at hd
              exact hd
            have yq := HQ.out
            clear hd HK kr hm h1 h2 hp HC HF HR hB hmj HQ
            subst hq
            by_cases h4 : l[j + 1].n = 0
            · have HD : Hid ((7 : Int) = r) := HN'.out h4
              have i10 : (l[j + 1].n : Int) = 0 := by omega
              rw [i10] at x1
              clear HN HN' h4 i10
              generalize l[j + 1].a = A at *
              generalize l[j].a = A' at *
              generalize hq : j + 1 = q at *
              go_wp2_with fail
              go_quiet ((go_at_call 60; exact yq _))
              go_wp2
              go_ret
              exact ⟨by rw [← HD.out]; rfl, drewN_on HW.out _⟩
            · have i10 : ((l[j + 1].n : Int) == 0) = false := beq_eq_false_iff_ne.2 (by omega)
              have i11 : ¬ (l[j + 1].n : Int) = 0 := by omega
              have HD : Hid (cGo (prv l (j + 2)) (l.drop (j + 2)) = r) := HN.out h4
              clear HN HN' h4
              generalize l[j + 1].a = A at *
              generalize l[j].a = A' at *
              generalize (l[j + 1].n : Int) = N at *
              have HQ2 : Hid (cGo (prv l (j + 1 + 1)) (l.drop (j + 1 + 1)) = r) := HD
              clear HD
              generalize hq : j + 1 = q at *
              go_wp2_with fail
              go_quiet ((go_at_call 60; exact yq _))
              go_wp2
              go_roundw
              case rel => exact ⟨q + 1, by go_num, by omega, HQ2, drewN_on HW.out _⟩
              case measure => simp [intOf]; omega
      · have i1 : ¬ (k : Int) < l.length := by omega
        have hd := HK.out
        rw [List.drop_eq_nil_of_le (by omega), cGo] at hd
        have HD : Hid ((0 : Int) = r) := hd
        clear hd HK kr
        go_wp2
        go_ret
        exact ⟨by rw [← HD.out]; rfl, HW.out⟩
end Go.Proofs.Ytmllchembkpdkaa
