/-
  What this seat's claims lean on of the texts RefVec3, RefDot.
  Conditions: as each theorem states.
-/
import Derived.WalkKit
import Derived.ProofKit
import Derived.Below
import Derived.Deep.Draws
import Derived.Deep.RegionHeld
import Derived.Test.YteonkfedgopdiaaGreatChecked
import Derived.OpenShut
import Derived.ShutString
import Derived.WalkSpells
import Derived.WalkLawsBesides
import Derived.Deep.QuietTactic
import Derived.BigQuiet
import Derived.Laws.Bits64b
import Derived.PlainAid
import Derived.Lib.AppendStr
import Derived.Deep.AppendLies
import Derived.Laws.IdiomStrings
import Derived.Laws.BytesArg
import Derived.Deep.RegionWith
import Derived.Laws.AppendOwn
import Derived.Deep.DeepAppendWide
import Derived.Deep.Upon
import Derived.Test.YteonkfedgopdiaaGreatY14
namespace Go.Proofs.YteonkfedgopdiaaGreat
open Go.RowKit
def REns (l : List En) (w : World) (e : Ending) (w' : World) : Prop := ∃ ao cap, e = .returned (.slice ao l.length cap) ∧ EnsAt w' ao l ∧ (∀ g off m, ao = some ⟨g, off, m⟩ → w.heap.size ≤ g) ∧ Keep0 w w'
theorem REns.mk {l : List En} {w w' : World} {e : Ending} {ao : Option Addr} {cap : Nat} (h : e = .returned (.slice ao l.length cap)) (h1 : EnsAt w' ao l) (h2 : ∀ g off m, ao = some ⟨g, off, m⟩ → w.heap.size ≤ g) (h3 : Keep0 w w') : REns l w e w' := ⟨ao, cap, h, h1, h2, h3⟩
end Go.Proofs.YteonkfedgopdiaaGreat
namespace Go.Proofs.YteonkfedgopdiaaGreat
open Go.RowKit
set_option maxRecDepth 100000 in
set_option maxHeartbeats 4000000 in
theorem rcheck12_any (w : World) (ao : Option Addr) (cap : Nat) (c : List En) (d : Bool) (a : ByteArray) (n : Nat) (hv : Fits c) (hm : a.size ≤ maxLen) (hc : EnsAt w ao c) :
    Calls Tryz.prog 72 #[.agg #[.slice ao c.length cap, .bool d, .string a, .int .u64 (n : Int)]] w fun e w' => e = .returned (.int .i64 (kCheck ⟨c, d, ⟨a, n⟩⟩)) ∧ Keep0 w w' := by
  have i2 : (a.size : Int) ≤ 9223372036854775807 := by unfold maxLen at hm; omega
  obtain ⟨r, hr⟩ : ∃ r, kCheck ⟨c, d, ⟨a, n⟩⟩ = r := ⟨_, rfl⟩
  rw [hr]
  by_cases h0 : vCheck c = 0
  case neg =>
    have HD : Hid (vCheck c = r) := by show _ = r; rw [← hr]; exact (check_bad (k := ⟨c, d, ⟨a, n⟩⟩) h0).symm
    have e0 : (vCheck c != 0) = true := by simpa using h0
    have e1 : ¬ vCheck c = 0 := h0
    clear h0
    have kA : Keep0 w (w.alloc (.cells #[.slice ao c.length cap, .bool d, .string a, .int .u64 (n : Int)] 41)) := (Keep.refl _ w).alloc _
    obtain ⟨x0, x1, x2, x3⟩ : ClkAt (w.alloc (.cells #[.slice ao c.length cap, .bool d, .string a, .int .u64 (n : Int)] 41)) w.heap.size 0 ⟨c, d, ⟨a, n⟩⟩ ao cap := clk_new w 41 ⟨c, d, ⟨a, n⟩⟩ ao cap
    have yc := rcheck10 _ ao cap c hv (hc.keep0 kA)
    generalize vCheck c = C at *
    clear hr hc hv hm
    generalize c.length = CL at *
    go_enter Tryz.func72, Tryz.ntmps72
    go_wp2_with fail
    generalize (w.alloc (.cells #[.slice ao CL cap, .bool d, .string a, .int .u64 (n : Int)] 41)) = W0 at *
    generalize w.heap.size = B at *
    refine yc.mono ?_
    rintro e w1 ⟨rfl, hw1⟩
    have k1 := keepN hw1
    have y0 := k1.cell x0 (fun f => f)
    have y1 := k1.cell x1 (fun f => f)
    have y2 := k1.cell x2 (fun f => f)
    have y3 := k1.cell x3 (fun f => f)
    have K1 := kA.trans k1
    clear yc hw1 k1 kA x0 x1 x2 x3
    go_wp2
    go_ret
    exact ⟨by rw [← HD.out]; rfl, K1⟩
  rw [check_dot (k := ⟨c, d, ⟨a, n⟩⟩) h0] at hr
  have yz : ∀ (W : World), EnsAt W ao c → Calls Tryz.prog 109 #[.slice ao c.length cap] W fun e w' => e = .returned (.int .i64 0) ∧ ∃ z, w' = W.drewN z := by
    intro W h
    rw [← h0]
    exact rcheck10 W ao cap c hv h
  cases d with
  | false =>
    by_cases h1 : a.size = 0
    · have ea := empty_eq12 h1
      by_cases h2 : n = 0
      · have HD : Hid ((0 : Int) = r) := by show _ = r; rw [← hr]; exact (dot_p0 (k := ⟨c, false, ⟨a, n⟩⟩) rfl h1 h2).symm
        subst ea h2
        clear h1 h0 i2
        have kA : Keep0 w (w.alloc (.cells #[.slice ao c.length cap, .bool false, .string ⟨#[]⟩, .int .u64 0] 41)) := (Keep.refl _ w).alloc _
        obtain ⟨x0, x1, x2, x3⟩ : ClkAt (w.alloc (.cells #[.slice ao c.length cap, .bool false, .string ⟨#[]⟩, .int .u64 0] 41)) w.heap.size 0 ⟨c, false, ⟨⟨#[]⟩, 0⟩⟩ ao cap := clk_new w 41 ⟨c, false, ⟨⟨#[]⟩, 0⟩⟩ ao cap
        have yc := yz _ (hc.keep0 kA)
        clear hr hc hv hm yz
        generalize c.length = CL at *
        go_enter Tryz.func72, Tryz.ntmps72
        go_wp2_with fail
        generalize (w.alloc (.cells #[.slice ao CL cap, .bool false, .string ⟨#[]⟩, .int .u64 0] 41)) = W0 at *
        generalize w.heap.size = B at *
        refine yc.mono ?_
        rintro e w1 ⟨rfl, hw1⟩
        have k1 := keepN hw1
        have y0 := k1.cell x0 (fun f => f)
        have y1 := k1.cell x1 (fun f => f)
        have y2 := k1.cell x2 (fun f => f)
        have y3 := k1.cell x3 (fun f => f)
        have K1 := kA.trans k1
        clear yc hw1 k1 kA x0 x1 x2 x3
        go_wp2
        go_ret
        exact ⟨by rw [← HD.out]; rfl, K1⟩
      · have HD : Hid ((1 : Int) = r) := by show _ = r; rw [← hr]; exact (dot_p1 (k := ⟨c, false, ⟨a, n⟩⟩) rfl (fun e => h2 e.2)).symm
        have j1 : ((n : Int) != 0) = true := by simp; omega
        have j2 : ¬ (n : Int) = 0 := by omega
        subst ea
        clear h1 h0 i2 h2
        have kA : Keep0 w (w.alloc (.cells #[.slice ao c.length cap, .bool false, .string ⟨#[]⟩, .int .u64 (n : Int)] 41)) := (Keep.refl _ w).alloc _
        obtain ⟨x0, x1, x2, x3⟩ : ClkAt (w.alloc (.cells #[.slice ao c.length cap, .bool false, .string ⟨#[]⟩, .int .u64 (n : Int)] 41)) w.heap.size 0 ⟨c, false, ⟨⟨#[]⟩, n⟩⟩ ao cap := clk_new w 41 ⟨c, false, ⟨⟨#[]⟩, n⟩⟩ ao cap
        have yc := yz _ (hc.keep0 kA)
        clear hr hc hv hm yz
        generalize c.length = CL at *
        go_enter Tryz.func72, Tryz.ntmps72
        go_wp2_with fail
        generalize (w.alloc (.cells #[.slice ao CL cap, .bool false, .string ⟨#[]⟩, .int .u64 (n : Int)] 41)) = W0 at *
        generalize w.heap.size = B at *
        refine yc.mono ?_
        rintro e w1 ⟨rfl, hw1⟩
        have k1 := keepN hw1
        have y0 := k1.cell x0 (fun f => f)
        have y1 := k1.cell x1 (fun f => f)
        have y2 := k1.cell x2 (fun f => f)
        have y3 := k1.cell x3 (fun f => f)
        have K1 := kA.trans k1
        clear yc hw1 k1 kA x0 x1 x2 x3
        go_wp2
        go_ret
        exact ⟨by rw [← HD.out]; rfl, K1⟩
    · have HD : Hid ((1 : Int) = r) := by show _ = r; rw [← hr]; exact (dot_p1 (k := ⟨c, false, ⟨a, n⟩⟩) rfl (fun e => h1 e.1)).symm
      have e1 := empty_ne12 h1
      clear h1 h0
      have kA : Keep0 w (w.alloc (.cells #[.slice ao c.length cap, .bool false, .string a, .int .u64 (n : Int)] 41)) := (Keep.refl _ w).alloc _
      obtain ⟨x0, x1, x2, x3⟩ : ClkAt (w.alloc (.cells #[.slice ao c.length cap, .bool false, .string a, .int .u64 (n : Int)] 41)) w.heap.size 0 ⟨c, false, ⟨a, n⟩⟩ ao cap := clk_new w 41 ⟨c, false, ⟨a, n⟩⟩ ao cap
      have yc := yz _ (hc.keep0 kA)
      clear hr hc hv hm yz
      generalize c.length = CL at *
      go_enter Tryz.func72, Tryz.ntmps72
      go_wp2_with fail
      generalize (w.alloc (.cells #[.slice ao CL cap, .bool false, .string a, .int .u64 (n : Int)] 41)) = W0 at *
      generalize w.heap.size = B at *
      refine yc.mono ?_
      rintro e w1 ⟨rfl, hw1⟩
      have k1 := keepN hw1
      have y0 := k1.cell x0 (fun f => f)
      have y1 := k1.cell x1 (fun f => f)
      have y2 := k1.cell x2 (fun f => f)
      have y3 := k1.cell x3 (fun f => f)
      have K1 := kA.trans k1
      clear yc hw1 k1 kA x0 x1 x2 x3
      go_wp2
      go_ret
      exact ⟨by rw [← HD.out]; rfl, K1⟩
  | true =>
    by_cases h1 : 32 < a.size
    · have HD : Hid ((3 : Int) = r) := by show _ = r; rw [← hr]; exact (dot_3 (k := ⟨c, true, ⟨a, n⟩⟩) rfl h1).symm
      have i3 : (32 : Int) < a.size := by omega
      clear h1 h0
      have kA : Keep0 w (w.alloc (.cells #[.slice ao c.length cap, .bool true, .string a, .int .u64 (n : Int)] 41)) := (Keep.refl _ w).alloc _
      obtain ⟨x0, x1, x2, x3⟩ : ClkAt (w.alloc (.cells #[.slice ao c.length cap, .bool true, .string a, .int .u64 (n : Int)] 41)) w.heap.size 0 ⟨c, true, ⟨a, n⟩⟩ ao cap := clk_new w 41 ⟨c, true, ⟨a, n⟩⟩ ao cap
      have yc := yz _ (hc.keep0 kA)
      clear hr hc hv hm yz
      generalize c.length = CL at *
      go_enter Tryz.func72, Tryz.ntmps72
      go_wp2_with fail
      generalize (w.alloc (.cells #[.slice ao CL cap, .bool true, .string a, .int .u64 (n : Int)] 41)) = W0 at *
      generalize w.heap.size = B at *
      refine yc.mono ?_
      rintro e w1 ⟨rfl, hw1⟩
      have k1 := keepN hw1
      have y0 := k1.cell x0 (fun f => f)
      have y1 := k1.cell x1 (fun f => f)
      have y2 := k1.cell x2 (fun f => f)
      have y3 := k1.cell x3 (fun f => f)
      have K1 := kA.trans k1
      clear yc hw1 k1 kA x0 x1 x2 x3
      go_wp2
      go_ret
      exact ⟨by rw [← HD.out]; rfl, K1⟩
    have i3 : ¬ (32 : Int) < a.size := by omega
    by_cases h2 : a.size = 0
    · have HD : Hid ((14 : Int) = r) := by show _ = r; rw [← hr]; exact (dot_14 (k := ⟨c, true, ⟨a, n⟩⟩) rfl h2).symm
      have i4 : (a.size : Int) = 0 := by omega
      clear h1 h2 h0
      have kA : Keep0 w (w.alloc (.cells #[.slice ao c.length cap, .bool true, .string a, .int .u64 (n : Int)] 41)) := (Keep.refl _ w).alloc _
      obtain ⟨x0, x1, x2, x3⟩ : ClkAt (w.alloc (.cells #[.slice ao c.length cap, .bool true, .string a, .int .u64 (n : Int)] 41)) w.heap.size 0 ⟨c, true, ⟨a, n⟩⟩ ao cap := clk_new w 41 ⟨c, true, ⟨a, n⟩⟩ ao cap
      have yc := yz _ (hc.keep0 kA)
      clear hr hc hv hm yz
      generalize c.length = CL at *
      go_enter Tryz.func72, Tryz.ntmps72
      go_wp2_with fail
      generalize (w.alloc (.cells #[.slice ao CL cap, .bool true, .string a, .int .u64 (n : Int)] 41)) = W0 at *
      generalize w.heap.size = B at *
      refine yc.mono ?_
      rintro e w1 ⟨rfl, hw1⟩
      have k1 := keepN hw1
      have y0 := k1.cell x0 (fun f => f)
      have y1 := k1.cell x1 (fun f => f)
      have y2 := k1.cell x2 (fun f => f)
      have y3 := k1.cell x3 (fun f => f)
      have K1 := kA.trans k1
      clear yc hw1 k1 kA x0 x1 x2 x3
      go_wp2
      go_ret
      exact ⟨by rw [← HD.out]; rfl, K1⟩
    have i4 : ((a.size : Int) == 0) = false := beq_eq_false_iff_ne.2 (by omega)
    have i5 : ¬ (a.size : Int) = 0 := by omega
    by_cases h3 : n = 0
    · have HD : Hid ((7 : Int) = r) := by show _ = r; rw [← hr]; exact (dot_7 (k := ⟨c, true, ⟨a, n⟩⟩) rfl h1 h2 h3).symm
      subst h3
      clear h1 h2 h0
      have kA : Keep0 w (w.alloc (.cells #[.slice ao c.length cap, .bool true, .string a, .int .u64 0] 41)) := (Keep.refl _ w).alloc _
      obtain ⟨x0, x1, x2, x3⟩ : ClkAt (w.alloc (.cells #[.slice ao c.length cap, .bool true, .string a, .int .u64 0] 41)) w.heap.size 0 ⟨c, true, ⟨a, 0⟩⟩ ao cap := clk_new w 41 ⟨c, true, ⟨a, 0⟩⟩ ao cap
      have yc := yz _ (hc.keep0 kA)
      clear hr hc hv hm yz
      generalize c.length = CL at *
      go_enter Tryz.func72, Tryz.ntmps72
      go_wp2_with fail
      generalize (w.alloc (.cells #[.slice ao CL cap, .bool true, .string a, .int .u64 0] 41)) = W0 at *
      generalize w.heap.size = B at *
      refine yc.mono ?_
      rintro e w1 ⟨rfl, hw1⟩
      have k1 := keepN hw1
      have y0 := k1.cell x0 (fun f => f)
      have y1 := k1.cell x1 (fun f => f)
      have y2 := k1.cell x2 (fun f => f)
      have y3 := k1.cell x3 (fun f => f)
      have K1 := kA.trans k1
      clear yc hw1 k1 kA x0 x1 x2 x3
      go_wp2
      go_ret
      exact ⟨by rw [← HD.out]; rfl, K1⟩
    have i6 : ((n : Int) == 0) = false := beq_eq_false_iff_ne.2 (by omega)
    have i7 : ¬ (n : Int) = 0 := by omega
    by_cases h4 : n ≤ vCount c a
    · have HD : Hid ((15 : Int) = r) := by show _ = r; rw [← hr]; exact (dot_15 (k := ⟨c, true, ⟨a, n⟩⟩) rfl h1 h2 h3 h4).symm
      have i8 : (n : Int) ≤ (vCount c a : Int) := by omega
      clear h1 h2 h3 h4 h0
      have kA : Keep0 w (w.alloc (.cells #[.slice ao c.length cap, .bool true, .string a, .int .u64 (n : Int)] 41)) := (Keep.refl _ w).alloc _
      obtain ⟨x0, x1, x2, x3⟩ : ClkAt (w.alloc (.cells #[.slice ao c.length cap, .bool true, .string a, .int .u64 (n : Int)] 41)) w.heap.size 0 ⟨c, true, ⟨a, n⟩⟩ ao cap := clk_new w 41 ⟨c, true, ⟨a, n⟩⟩ ao cap
      have yc := yz _ (hc.keep0 kA)
      have yq := fun (W : World) (K : Keep0 w W) (z : Nat) => Calls.of_same' (rcount10 (W.drewN z) ao cap c hv.1 (hc.keep0 (K.trans ((Keep.refl _ W).drewN z))) a)
      generalize (vCount c a : Int) = VC at *
      clear hr hc hv hm yz
      generalize c.length = CL at *
      go_enter Tryz.func72, Tryz.ntmps72
      go_wp2_with fail
      generalize (w.alloc (.cells #[.slice ao CL cap, .bool true, .string a, .int .u64 (n : Int)] 41)) = W0 at *
      generalize w.heap.size = B at *
      refine yc.mono ?_
      rintro e w1 ⟨rfl, hw1⟩
      have k1 := keepN hw1
      have y0 := k1.cell x0 (fun f => f)
      have y1 := k1.cell x1 (fun f => f)
      have y2 := k1.cell x2 (fun f => f)
      have y3 := k1.cell x3 (fun f => f)
      have K1 := kA.trans k1
      have yq := yq w1 K1
      clear yc hw1 k1 kA x0 x1 x2 x3
      go_wp2_with fail
      go_quiet ((go_at_call 110; exact yq _))
      go_wp2
      go_ret
      exact ⟨by rw [← HD.out]; rfl, K1.drewN _⟩
    · have HD : Hid ((0 : Int) = r) := by show _ = r; rw [← hr]; exact (dot_0 (k := ⟨c, true, ⟨a, n⟩⟩) rfl h1 h2 h3 h4).symm
      have i8 : ¬ (n : Int) ≤ (vCount c a : Int) := by omega
      have i8' : decide ((n : Int) ≤ (vCount c a : Int)) = false := decide_eq_false i8
      clear h1 h2 h3 h4 h0
      have kA : Keep0 w (w.alloc (.cells #[.slice ao c.length cap, .bool true, .string a, .int .u64 (n : Int)] 41)) := (Keep.refl _ w).alloc _
      obtain ⟨x0, x1, x2, x3⟩ : ClkAt (w.alloc (.cells #[.slice ao c.length cap, .bool true, .string a, .int .u64 (n : Int)] 41)) w.heap.size 0 ⟨c, true, ⟨a, n⟩⟩ ao cap := clk_new w 41 ⟨c, true, ⟨a, n⟩⟩ ao cap
      have yc := yz _ (hc.keep0 kA)
      have yq := fun (W : World) (K : Keep0 w W) (z : Nat) => Calls.of_same' (rcount10 (W.drewN z) ao cap c hv.1 (hc.keep0 (K.trans ((Keep.refl _ W).drewN z))) a)
      generalize (vCount c a : Int) = VC at *
      clear hr hc hv hm yz
      generalize c.length = CL at *
      go_enter Tryz.func72, Tryz.ntmps72
      go_wp2_with fail
      generalize (w.alloc (.cells #[.slice ao CL cap, .bool true, .string a, .int .u64 (n : Int)] 41)) = W0 at *
      generalize w.heap.size = B at *
      refine yc.mono ?_
      rintro e w1 ⟨rfl, hw1⟩
      have k1 := keepN hw1
      have y0 := k1.cell x0 (fun f => f)
      have y1 := k1.cell x1 (fun f => f)
      have y2 := k1.cell x2 (fun f => f)
      have y3 := k1.cell x3 (fun f => f)
      have K1 := kA.trans k1
      have yq := yq w1 K1
      clear yc hw1 k1 kA x0 x1 x2 x3
      go_wp2_with fail
      go_quiet ((go_at_call 110; exact yq _))
      go_wp2
      go_ret
      exact ⟨by rw [← HD.out]; rfl, K1.drewN _⟩
theorem rcheck12 (w : World) (ao : Option Addr) (cap : Nat) (k : Ck) (hf : FitsK k) (hc : EnsAt w ao k.c) :
    Calls Tryz.prog 72 #[.agg #[.slice ao k.c.length cap, .bool k.d, .string k.x.a, .int .u64 (k.x.n : Int)]] w fun e w' => e = .returned (.int .i64 (kCheck k)) ∧ Keep0 w w' :=
  rcheck12_any w ao cap k.c k.d k.x.a k.x.n hf.vec hf.dot hc
end Go.Proofs.YteonkfedgopdiaaGreat
