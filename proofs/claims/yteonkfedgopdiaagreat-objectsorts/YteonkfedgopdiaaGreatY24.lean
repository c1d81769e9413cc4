/-
  What this seat's claims lean on of the texts RefDcode2, VecB.
  Conditions: as each theorem states.
-/
import Derived.WalkKit
import Derived.ProofKit
import Derived.Below
import Derived.Deep.Draws
import Derived.Deep.RegionHeld
import Derived.Test.YteonkfedgopdiaaGreatChecked
import Derived.OpenShut
import Derived.ShutString
import Derived.WalkSpells
import Derived.WalkLawsBesides
import Derived.Deep.QuietTactic
import Derived.BigQuiet
import Derived.Laws.Bits64b
import Derived.PlainAid
import Derived.Lib.AppendStr
import Derived.Deep.AppendLies
import Derived.Laws.IdiomStrings
import Derived.Laws.BytesArg
import Derived.Deep.RegionWith
import Derived.Laws.AppendOwn
import Derived.Deep.DeepAppendWide
import Derived.Deep.Upon
import Derived.Laws.Rows
import Derived.Test.YteonkfedgopdiaaGreatY22
import Derived.Test.YteonkfedgopdiaaGreatY17
import Derived.Deep.Slices
namespace Go.Proofs.YteonkfedgopdiaaGreat
open Go.RowKit
section
variable {s : ByteArray} {a : Int}
theorem clk_rest (h : (rVec s a).2.2 = 0) : rClk s a = (if (rRest (rVec s a).1 s (rVec s a).2.1).2.2 = 0 then ((⟨(rVec s a).1, (rRest (rVec s a).1 s (rVec s a).2.1).1.1, (rRest (rVec s a).1 s (rVec s a).2.1).1.2⟩ : Ck), (rRest (rVec s a).1 s (rVec s a).2.1).2) else (zCk, (rRest (rVec s a).1 s (rVec s a).2.1).2)) := by
  show rMap (fun q : List En × (Bool × En) => (⟨q.1, q.2.1, q.2.2⟩ : Ck)) (rSeq ([], (false, zEn)) rVec rRest) s a = _
  unfold rMap
  by_cases h1 : (rRest (rVec s a).1 s (rVec s a).2.1).2.2 = 0
  · rw [rSeq_yes h h1, if_pos h1]
  · rw [rSeq_mid h h1, if_neg h1]
    rfl
theorem clk_1 (h : (rVec s a).2.2 ≠ 0) : rClk s a = (zCk, (rVec s a).2) := by
  show rMap (fun q : List En × (Bool × En) => (⟨q.1, q.2.1, q.2.2⟩ : Ck)) (rSeq ([], (false, zEn)) rVec rRest) s a = _
  unfold rMap
  rw [rSeq_no h]
  rfl
variable {V : List En} {b : Int}
theorem clk_2 (h : rVec s a = (V, b, 0)) (h1 : gErr s b 0 ≠ 0) : rClk s a = (zCk, cAt s b 0 1, gErr s b 0) := by
  have e : rRest V s b = ((false, zEn), cAt s b 0 1, gErr s b 0) := rSeq_no (A := rFlag) h1
  rw [clk_rest (by rw [h]), h]
  show (if (rRest V s b).2.2 = 0 then _ else (zCk, (rRest V s b).2)) = _
  rw [e, if_neg h1]
theorem clk_3 (h : rVec s a = (V, b, 0)) (h1 : gErr s b 0 = 0) (h2 : gSet s b 0 = false) : rClk s a = (⟨V, false, zEn⟩, cAt s b 0 1, 0) := by
  have e0 : rFlag s b = (false, cAt s b 0 1, 0) := by unfold rFlag; rw [h1, h2]
  have e : rRest V s b = ((false, zEn), cAt s b 0 1, 0) := by
    unfold rRest
    rw [rSeq_yes (by rw [e0]) (by rw [e0]; rfl), e0]
    rfl
  rw [clk_rest (by rw [h]), h]
  show (if (rRest V s b).2.2 = 0 then _ else _) = _
  rw [e]
  rfl
theorem clk_dot (h : rVec s a = (V, b, 0)) (h1 : gErr s b 0 = 0) (h2 : gSet s b 0 = true) : rClk s a = if (rDot V s (cAt s b 0 1)).2.2 = 0 then (⟨V, true, (rDot V s (cAt s b 0 1)).1⟩, (rDot V s (cAt s b 0 1)).2) else (zCk, (rDot V s (cAt s b 0 1)).2) := by
  have e0 : rFlag s b = (true, cAt s b 0 1, 0) := by unfold rFlag; rw [h1, h2]
  rw [clk_rest (by rw [h]), h]
  show (if (rRest V s b).2.2 = 0 then ((⟨V, (rRest V s b).1.1, (rRest V s b).1.2⟩ : Ck), (rRest V s b).2) else (zCk, (rRest V s b).2)) = _
  by_cases hd : (rDot V s (cAt s b 0 1)).2.2 = 0
  · have e : rRest V s b = ((true, (rDot V s (cAt s b 0 1)).1), (rDot V s (cAt s b 0 1)).2) := by
      unfold rRest
      rw [rSeq_yes (by rw [e0]) (by rw [e0]; exact hd), e0]
      rfl
    rw [e, if_pos hd]
  · have e : rRest V s b = ((false, zEn), (rDot V s (cAt s b 0 1)).2) := by
      unfold rRest
      rw [rSeq_mid (by rw [e0]) (by rw [e0]; exact hd), e0]
      rfl
    rw [e, if_neg hd, if_neg hd]
variable {c : Int}
theorem dot_bad (h : (rEnt none s c).2.2 ≠ 0) : (rDot V s c).2 = (rEnt none s c).2 := by unfold rDot; rw [rTest_no h]
theorem dot_15' (h : (rEnt none s c).2.2 = 0) (h1 : (rEnt none s c).1.n ≤ vCount V (rEnt none s c).1.a) : (rDot V s c).2 = ((rEnt none s c).2.1, 15) := by
  have e : dTest V (rEnt none s c).1 = 15 := if_pos h1
  unfold rDot
  rw [rTest_bad h (by rw [e]; decide), e]
theorem dot_yes (h : (rEnt none s c).2.2 = 0) (h1 : ¬ (rEnt none s c).1.n ≤ vCount V (rEnt none s c).1.a) : rDot V s c = rEnt none s c := by
  have e : dTest V (rEnt none s c).1 = 0 := if_neg h1
  unfold rDot
  rw [rTest_yes h e]
end
def RTakeK (r : Ck × Int × Int) (s : ByteArray) (b : Nat) (w : World) (e : Ending) (w' : World) : Prop := ∃ ao cap, e = .returned (.agg #[.slice ao r.1.c.length cap, .bool r.1.d, .string r.1.x.a, .int .u64 (r.1.x.n : Int)]) ∧ Cur w' b s r.2.1 r.2.2 ∧ EnsAt w' ao r.1.c ∧ (∀ g off m, ao = some ⟨g, off, m⟩ → w.heap.size ≤ g) ∧ Keep1 b w w'
theorem RTakeK.bare {r : Ck × Int × Int} {s : ByteArray} {b : Nat} {w w' : World} {e : Ending} {A E : Int} (hr : r = (zCk, A, E)) (h : e = .returned (.agg #[.slice none 0 0, .bool false, .string ⟨#[]⟩, .int .u64 0])) (h1 : Cur w' b s A E) (h4 : Keep1 b w w') : RTakeK r s b w e w' := by
  subst hr
  exact ⟨none, 0, h, h1, ens_nil _ _, (fun _ _ _ e => by cases e), h4⟩
theorem RTakeK.mk {r : Ck × Int × Int} {s : ByteArray} {b : Nat} {w w' : World} {e : Ending} {A E : Int} {V : List En} {d : Bool} {x : ByteArray} {n : Nat} {ao : Option Addr} {cap : Nat} (hr : r = (⟨V, d, ⟨x, n⟩⟩, A, E)) (h : e = .returned (.agg #[.slice ao V.length cap, .bool d, .string x, .int .u64 (n : Int)])) (h1 : Cur w' b s A E) (h2 : EnsAt w' ao V) (h3 : ∀ g off m, ao = some ⟨g, off, m⟩ → w.heap.size ≤ g) (h4 : Keep1 b w w') : RTakeK r s b w e w' := by
  subst hr
  exact ⟨ao, cap, h, h1, h2, h3, h4⟩
end Go.Proofs.YteonkfedgopdiaaGreat
namespace Go.Proofs.YteonkfedgopdiaaGreat
open Go.RowKit
set_option maxRecDepth 100000 in
theorem check10 (w : World) (ao : Option Addr) (cap : Nat) (l : List En) (ok : Ok10 l) (hc : EnsAt w ao l) :
    Calls Tryz.prog 106 #[.slice ao l.length cap] w fun e w' => e = .returned (.int .i64 (vCheck l)) ∧ Keep0 w w' := by
  have hl := ok.1
  have hl' : (l.length : Int) ≤ 9223372036854775807 := by omega
  by_cases h64 : 64 < l.length
  · have i0 : (64 : Int) < l.length := by omega
    have e : vCheck l = 3 := if_pos h64
    rw [e]
    go_enter Tryz.func106, Tryz.ntmps106
    go_wp2
    go_ret
    exact ⟨rfl, Keep.refl _ _⟩
  · have i0 : ¬ (64 : Int) < l.length := by omega
    have e : vCheck l = cGo (prv l 0) (l.drop 0) := if_neg h64
    obtain ⟨r, hr⟩ : ∃ r, vCheck l = r := ⟨_, rfl⟩
    rw [hr]
    rw [e] at hr
    have HR : Hid (cGo (prv l 0) (l.drop 0) = r) := hr
    have HC : Hid (EnsAt w ao l) := hc
    have HF : Hid (Ok10 l) := ok
    clear hr e hc ok h64
    go_enter Tryz.func106, Tryz.ntmps106
    go_wp2_with fail
    go_loopw [10] (fun i wr => ∃ (k : Nat), i = .int .i64 (k : Int) ∧ k ≤ l.length ∧ Hid (cGo (prv l k) (l.drop k) = r) ∧ Keep0 w wr) (fun i _ => l.length - (intOf i).toNat)
    case atStart => exact ⟨0, rfl, by omega, HR, Keep.refl _ _⟩
    case round =>
      obtain ⟨k, rfl, hk, HK, hK⟩ := hrel
      by_cases hlt : k < l.length
      · have i1 : (k : Int) < l.length := by omega
        have y := checkAt10 wr ao cap l HF.out (HC.out.keep0 hK) k hlt
        have hd := HK.out
        rw [go_drop hlt] at hd
        by_cases h0 : cOne (prv l k) l[k] = 0
        · rw [if_pos h0] at hd
          rw [h0] at y
          have HD : Hid (cGo (prv l (k + 1)) (l.drop (k + 1)) = r) := hd
          clear hd HK h0
          go_wp2_with fail
          refine y.mono ?_
          rintro e w1 ⟨rfl, k1⟩
          have K1 := hK.trans k1
          clear y k1 hK
          go_wp2
          go_roundw
          case rel => exact ⟨k + 1, by go_num, by omega, HD, K1⟩
          case measure => simp [intOf]; omega
        · rw [if_neg h0] at hd
          rw [hd] at y
          have e0 : (r != 0) = true := by rw [← hd]; simpa using h0
          have e1 : ¬ r = 0 := by rw [← hd]; exact h0
          clear hd HK h0 HR
          go_wp2_with fail
          refine y.mono ?_
          rintro e w1 ⟨rfl, k1⟩
          have K1 := hK.trans k1
          clear y k1 hK
          go_wp2
          go_ret
          exact ⟨rfl, K1⟩
      · have i1 : ¬ (k : Int) < l.length := by omega
        have hd := HK.out
        rw [List.drop_eq_nil_of_le (by omega)] at hd
        have HD : Hid ((0 : Int) = r) := hd
        clear hd HK
        go_wp2
        go_ret
        exact ⟨by rw [← HD.out]; rfl, hK⟩
set_option maxRecDepth 100000 in
theorem count10 (w : World) (ao : Option Addr) (cap : Nat) (l : List En) (ok : Ok10 l) (hc : EnsAt w ao l) (s : ByteArray) :
    Calls Tryz.prog 142 #[.slice ao l.length cap, .string s] w fun e w' => e = .returned (.int .u64 (vCount l s : Int)) ∧ Keep0 w w' := by
  have HC : Hid (EnsAt w ao l) := hc
  have hl := ok.1
  have hl' : (l.length : Int) ≤ 9223372036854775807 := by omega
  obtain ⟨r, hr⟩ : ∃ r, vCount l s = r := ⟨_, rfl⟩
  rw [hr]
  have HR : Hid (vCount (l.drop 0) s = r) := hr
  clear hc hr ok
  go_enter Tryz.func142, Tryz.ntmps142
  go_wp2_with fail
  go_loopw [9] (fun i wr => ∃ (k : Nat), i = .int .i64 (k : Int) ∧ k ≤ l.length ∧ Hid (vCount (l.drop k) s = r) ∧ Keep0 w wr) (fun i _ => l.length - (intOf i).toNat)
  case atStart => exact ⟨0, rfl, by omega, HR, Keep.refl _ _⟩
  case round =>
    obtain ⟨k, rfl, hk, HK, hK⟩ := hrel
    by_cases hlt : k < l.length
    · have i1 : (k : Int) < l.length := by omega
      obtain ⟨b, off, rfl, p0, p1⟩ := HC.out k hlt
      have x0 := hK.cell p0 (fun f => f)
      have x1 := hK.cell p1 (fun f => f)
      clear p0 p1
      have hd := HK.out
      rw [count_drop hlt] at hd
      have kA : ∀ o, Keep0 w (wr.alloc o) := fun o => hK.alloc o
      by_cases h1 : l[k].a = s
      · rw [if_pos h1] at hd
        have HD : Hid (l[k].n = r) := hd
        rw [h1] at x0
        clear hd HK h1
        generalize l[k].n = N at *
        go_wp2
        go_ret
        exact ⟨by rw [HD.out]; rfl, kA _⟩
      · rw [if_neg h1] at hd
        have HD : Hid (vCount (l.drop (k + 1)) s = r) := hd
        obtain ⟨e1, e2, e3⟩ := txt_ne h1
        clear hd HK
        generalize (l[k].n : Int) = N at *
        generalize l[k].a = A at *
        go_wp2
        go_roundw
        case rel => exact ⟨k + 1, by go_num, by omega, HD, kA _⟩
        case measure => simp [intOf]; omega
    · have i1 : ¬ (k : Int) < l.length := by omega
      have hd := HK.out
      rw [List.drop_eq_nil_of_le (by omega), count_nil] at hd
      have HD : Hid (0 = r) := hd
      clear hd HK
      go_wp2
      go_ret
      exact ⟨by rw [← HD.out]; rfl, hK⟩
end Go.Proofs.YteonkfedgopdiaaGreat
