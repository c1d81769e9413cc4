/-
  The walk of the law SplitJoins, out of the contracts of package split and of the document's own answers.
  Conditions: none beyond that the argument can be read as data.
-/
import Derived.Test.YtaleennijfefnaaGreatLaw08
import Derived.Test.YtaleennijfefnaaGreatOpen08
namespace Go.Proofs.YtaleennijfefnaaGreat
open Go.RowKit

set_option maxRecDepth 100000 in
theorem splitJoins_great (w : World) (ao : Option Addr) (cap n : Nat) (hn : n ≤ maxLen) (hl : ¬ n ≤ 20) : Calls Tryz.prog 4 #[.slice ao n cap] w fun e w' => e = .returned (.bool true) ∧ Keep0 w w' := by
  have i1 : (20 : Int) < n := by omega
  have i2 : (n : Int) ≤ 9223372036854775807 := by unfold maxLen at hn; omega
  go_enter Tryz.func4, Tryz.ntmps4
  go_wp2_with fail
  refine (awake08 w).mono ?_
  rintro e w1 ⟨rfl, k1⟩
  go_wp2
  go_ret
  exact ⟨rfl, k1⟩
set_option maxRecDepth 100000 in
set_option maxHeartbeats 4000000 in
theorem splitJoins_small (w : World) (ao : Option Addr) (cap : Nat) (l : List Fr) (hl : l.length ≤ 20) (hp : ∀ f ∈ l, f.p.size ≤ maxLen) (hc : FramesAt w ao l) :
    Calls Tryz.prog 4 #[.slice ao l.length cap] w fun e w' => e = .returned (.bool true) ∧ Keep0 w w' := by
  have HC : Hid (FramesAt w ao l) := hc
  have HP : Hid (∀ f ∈ l, f.p.size ≤ maxLen) := hp
  have HL : Hid (l.length ≤ 20) := hl
  have i0 : (l.length : Int) ≤ 20 := by omega
  have i01 : (l.length : Int) ≤ 9223372036854775807 := by omega
  clear hc hp hl
  go_enter Tryz.func4, Tryz.ntmps4
  go_wp2_with fail
  refine (awake08 w).mono ?_
  rintro e w1 ⟨rfl, K1⟩
  go_wp2_with fail
  go_loopw [3] (fun i wr => ∃ (k : Nat), i = .int .i64 (k : Int) ∧ k ≤ l.length ∧ wr = w1 ∧ ∀ q (hq : q < l.length), q < k → l[q].p.size ≤ 300) (fun i _ => l.length - (intOf i).toNat)
  case atStart => exact ⟨0, rfl, by omega, rfl, fun q _ h => by omega⟩
  case round =>
    obtain ⟨k, rfl, hk, rfl, hq⟩ := hrel
    have HQ : Hid (∀ q (hq : q < l.length), q < k → l[q].p.size ≤ 300) := hq
    clear hq
    by_cases hlt : k < l.length
    · have i1 : (k : Int) < l.length := by omega
      obtain ⟨bb, off, rfl, x0, x1, x2⟩ := HC.out k hlt
      have y2 := K1.cell x2 (fun f => f)
      have hp := HP.out l[k] (List.getElem_mem hlt)
      have i2 : (l[k].p.size : Int) ≤ 9223372036854775807 := by unfold maxLen at hp; omega
      have HX : Hid (l[k].p.size ≤ 300 → l[k].p.size ≤ 300) := fun h => h
      clear x0 x1 x2 hp
      by_cases h3 : l[k].p.size ≤ 300
      · have HM : Hid (∀ q (hq : q < l.length), q < k + 1 → l[q].p.size ≤ 300) := by
          intro q hq hlt'
          by_cases e : q = k
          · subst e; exact h3
          · exact HQ.out q hq (by omega)
        have i3 : ¬ (300 : Int) < (l[k].p.size : Int) := by omega
        clear HX h3
        generalize l[k].p = T at *
        go_wp2
        go_roundw
        case rel => exact ⟨k + 1, by go_num, by omega, (by first | rfl | trivial), HM.out⟩
        case measure => simp [intOf]; omega
      · have i3 : (300 : Int) < (l[k].p.size : Int) := by omega
        clear HX h3
        generalize l[k].p = T at *
        go_wp2
        go_ret
        exact ⟨rfl, K1⟩
    · have i1 : ¬ (k : Int) < l.length := by omega
      have h3 : ∀ f ∈ l, f.p.size ≤ 300 := by
        intro f hf
        obtain ⟨q, hq, rfl⟩ := List.mem_iff_getElem.1 hf
        exact HQ.out q hq (by omega)
      have hl := HL.out
      have yj := fun W (h : FramesAt W ao l) => join8_any W ao cap l (by omega) h3 h
      have yr := fun W (h : FramesAt W ao l) => rjoin8_any W ao cap l (by omega) h3 h
      have hsz := jAll_size h3
      have ya := fun W => all8_any W (jAll l).1 (by omega)
      have fc := HC.out.keep0 K1
      have HZ : Hid (l.length ≤ maxLen) := by show l.length ≤ maxLen; unfold maxLen; omega
      by_cases h0 : (jAll l).2.2 = 0
      · obtain ⟨b1, b2⟩ := join_back h0
        have b1' : frsOf (sAll (jAll l).1).1 = l := b1
        rw [b1', b2] at ya
        rw [h0] at yj yr
        generalize (jAll l).1 = TX at *
        generalize (jAll l).2.1 = PL at *
        clear b1 b1' b2 h0 hsz h3 hl
        go_wp2_with fail
        refine (yj _ fc).mono ?_
        rintro e w2 ⟨rfl, k2⟩
        have K2 := K1.trans k2
        have fc := fc.keep0 k2
        clear yj k2 K1
        go_wp2_with fail
        refine (yr _ fc).mono ?_
        rintro e w3 ⟨rfl, k3⟩
        have K3 := K2.trans k3
        have fc := fc.keep0 k3
        clear yr k3 K2
        go_wp2_with fail
        refine (ya _).mono ?_
        rintro e w4 ⟨bo, cb, rfl, fb, zb, k4⟩
        have K4 := K3.trans k4
        have fc := fc.keep0 k4
        clear ya k4 K3 zb
        go_wp2_with fail
        refine (same_yes _ _ _ _ _ _ HZ.out fb fc).mono ?_
        rintro e w5 ⟨rfl, hw5⟩
        have K5 := K4.trans (keepN hw5)
        clear hw5 K4 fb fc
        go_wp2
        go_ret
        exact ⟨rfl, K5⟩
      · have e0 : ((jAll l).2.2 != 0) = true := by simpa using h0
        generalize (sAll (jAll l).1).2.2 = E2 at *
        generalize (sAll (jAll l).1).2.1 = L2 at *
        generalize frsOf (sAll (jAll l).1).1 = F2 at *
        generalize (jAll l).1 = TX at *
        generalize (jAll l).2.1 = PL at *
        generalize (jAll l).2.2 = ER at *
        clear h0 hsz h3 hl
        go_wp2_with fail
        refine (yj _ fc).mono ?_
        rintro e w2 ⟨rfl, k2⟩
        have K2 := K1.trans k2
        have fc := fc.keep0 k2
        clear yj k2 K1
        go_wp2_with fail
        refine (yr _ fc).mono ?_
        rintro e w3 ⟨rfl, k3⟩
        have K3 := K2.trans k3
        clear yr k3 K2 fc
        go_wp2_with fail
        refine (ya _).mono ?_
        rintro e w4 ⟨bo, cb, rfl, fb, zb, k4⟩
        have K4 := K3.trans k4
        clear ya k4 K3 zb fb
        go_wp2
        go_ret
        exact ⟨rfl, K4⟩
theorem splitJoins_law (w : World) (ao : Option Addr) (cap : Nat) (l : List Fr) (hn : l.length ≤ maxLen) (hp : ∀ f ∈ l, f.p.size ≤ maxLen) (hc : FramesAt w ao l) :
    Calls Tryz.prog 4 #[.slice ao l.length cap] w fun e w' => e = .returned (.bool true) ∧ Keep0 w w' := by
  by_cases hl : l.length ≤ 20
  · exact splitJoins_small w ao cap l hl hp hc
  · exact splitJoins_great w ao cap _ hn hl
end Go.Proofs.YtaleennijfefnaaGreat
