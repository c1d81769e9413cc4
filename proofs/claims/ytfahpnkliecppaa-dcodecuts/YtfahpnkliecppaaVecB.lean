/-
  Contracts of package vector's Check, Count, Same and of the test of many vectors, each proved over this seat's translation.
  Conditions: at most 10,000 entries a list, 100 lists; each actor takes at most the greatest length that a text may have.
-/
import Derived.Test.YtfahpnkliecppaaVecA
namespace Go.Proofs.Ytfahpnkliecppaa
open Go.RowKit

set_option maxRecDepth 100000 in
theorem check10 (w : World) (ao : Option Addr) (cap : Nat) (l : List En) (ok : Ok10 l) (hc : EnsAt w ao l) :
    Calls Try.prog 60 #[.slice ao l.length cap] w fun e w' => e = .returned (.int .i64 (vCheck l)) ∧ Keep0 w w' := by
  have hl := ok.1
  have hl' : (l.length : Int) ≤ 9223372036854775807 := by omega
  by_cases h64 : 64 < l.length
  · have i0 : (64 : Int) < l.length := by omega
    have e : vCheck l = 3 := if_pos h64
    rw [e]
    go_enter Try.func60, Try.ntmps60
    go_wp2
    go_ret
    exact ⟨rfl, Keep.refl _ _⟩
  · have i0 : ¬ (64 : Int) < l.length := by omega
    have e : vCheck l = cGo (prv l 0) (l.drop 0) := if_neg h64
    obtain ⟨r, hr⟩ : ∃ r, vCheck l = r := ⟨_, rfl⟩
    rw [hr]
    rw [e] at hr
    have HR : Hid (cGo (prv l 0) (l.drop 0) = r) := hr
    have HC : Hid (EnsAt w ao l) := hc
    have HF : Hid (Ok10 l) := ok
    clear hr e hc ok h64
    go_enter Try.func60, Try.ntmps60
    go_wp2_with fail
    go_loopw [10] (fun i wr => ∃ (k : Nat), i = .int .i64 (k : Int) ∧ k ≤ l.length ∧ Hid (cGo (prv l k) (l.drop k) = r) ∧ Keep0 w wr) (fun i _ => l.length - (intOf i).toNat)
    case atStart => exact ⟨0, rfl, by omega, HR, Keep.refl _ _⟩
    case round =>
      obtain ⟨k, rfl, hk, HK, hK⟩ := hrel
      by_cases hlt : k < l.length
      · have i1 : (k : Int) < l.length := by omega
        have y := checkAt10 wr ao cap l HF.out (HC.out.keep0 hK) k hlt
        have hd := HK.out
        rw [go_drop hlt] at hd
        by_cases h0 : cOne (prv l k) l[k] = 0
        · rw [if_pos h0] at hd
          rw [h0] at y
          have HD : Hid (cGo (prv l (k + 1)) (l.drop (k + 1)) = r) := hd
          clear hd HK h0
          go_wp2_with fail
          refine y.mono ?_
          rintro e w1 ⟨rfl, k1⟩
          have K1 := hK.trans k1
          clear y k1 hK
          go_wp2
          go_roundw
          case rel => exact ⟨k + 1, by go_num, by omega, HD, K1⟩
          case measure => simp [intOf]; omega
        · rw [if_neg h0] at hd
          rw [hd] at y
          have e0 : (r != 0) = true := by rw [← hd]; simpa using h0
          have e1 : ¬ r = 0 := by rw [← hd]; exact h0
          clear hd HK h0 HR
          go_wp2_with fail
          refine y.mono ?_
          rintro e w1 ⟨rfl, k1⟩
          have K1 := hK.trans k1
          clear y k1 hK
          go_wp2
          go_ret
          exact ⟨rfl, K1⟩
      · have i1 : ¬ (k : Int) < l.length := by omega
        have hd := HK.out
        rw [List.drop_eq_nil_of_le (by omega)] at hd
        have HD : Hid ((0 : Int) = r) := hd
        clear hd HK
        go_wp2
        go_ret
        exact ⟨by rw [← HD.out]; rfl, hK⟩

/-! ### Count -/
set_option maxRecDepth 100000 in
theorem count10 (w : World) (ao : Option Addr) (cap : Nat) (l : List En) (ok : Ok10 l) (hc : EnsAt w ao l) (s : ByteArray) :
    Calls Try.prog 78 #[.slice ao l.length cap, .string s] w fun e w' => e = .returned (.int .u64 (vCount l s : Int)) ∧ Keep0 w w' := by
  have HC : Hid (EnsAt w ao l) := hc
  have hl := ok.1
  have hl' : (l.length : Int) ≤ 9223372036854775807 := by omega
  obtain ⟨r, hr⟩ : ∃ r, vCount l s = r := ⟨_, rfl⟩
  rw [hr]
  have HR : Hid (vCount (l.drop 0) s = r) := hr
  clear hc hr ok
  go_enter Try.func78, Try.ntmps78
  go_wp2_with fail
  go_loopw [9] (fun i wr => ∃ (k : Nat), i = .int .i64 (k : Int) ∧ k ≤ l.length ∧ Hid (vCount (l.drop k) s = r) ∧ Keep0 w wr) (fun i _ => l.length - (intOf i).toNat)
  case atStart => exact ⟨0, rfl, by omega, HR, Keep.refl _ _⟩
  case round =>
    obtain ⟨k, rfl, hk, HK, hK⟩ := hrel
    by_cases hlt : k < l.length
    · have i1 : (k : Int) < l.length := by omega
      obtain ⟨b, off, rfl, p0, p1⟩ := HC.out k hlt
      have x0 := hK.cell p0 (fun f => f)
      have x1 := hK.cell p1 (fun f => f)
      clear p0 p1
      have hd := HK.out
      rw [count_drop hlt] at hd
      have kA : ∀ o, Keep0 w (wr.alloc o) := fun o => hK.alloc o
      by_cases h1 : l[k].a = s
      · rw [if_pos h1] at hd
        have HD : Hid (l[k].n = r) := hd
        rw [h1] at x0
        clear hd HK h1
        generalize l[k].n = N at *
        go_wp2
        go_ret
        exact ⟨by rw [HD.out]; rfl, kA _⟩
      · rw [if_neg h1] at hd
        have HD : Hid (vCount (l.drop (k + 1)) s = r) := hd
        obtain ⟨e1, e2, e3⟩ := txt_ne h1
        clear hd HK
        generalize (l[k].n : Int) = N at *
        generalize l[k].a = A at *
        go_wp2
        go_roundw
        case rel => exact ⟨k + 1, by go_num, by omega, HD, kA _⟩
        case measure => simp [intOf]; omega
    · have i1 : ¬ (k : Int) < l.length := by omega
      have hd := HK.out
      rw [List.drop_eq_nil_of_le (by omega), count_nil] at hd
      have HD : Hid (0 = r) := hd
      clear hd HK
      go_wp2
      go_ret
      exact ⟨by rw [← HD.out]; rfl, hK⟩
end Go.Proofs.Ytfahpnkliecppaa
