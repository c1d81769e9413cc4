/-
  What this seat's claims lean on of the texts RefDot, RefDot2.
  Conditions: as each theorem states.
-/
import Derived.WalkKit
import Derived.ProofKit
import Derived.Below
import Derived.Deep.Draws
import Derived.Deep.RegionHeld
import Derived.Test.YtoefibkhlhmlfaaGreatChecked
import Derived.OpenShut
import Derived.ShutString
import Derived.WalkSpells
import Derived.WalkLawsBesides
import Derived.Deep.QuietTactic
import Derived.BigQuiet
import Derived.Laws.Bits64b
import Derived.PlainAid
import Derived.Lib.AppendStr
import Derived.Deep.AppendLies
import Derived.Laws.IdiomStrings
import Derived.Laws.BytesArg
import Derived.Deep.RegionWith
import Derived.Laws.AppendOwn
import Derived.Deep.DeepAppendWide
import Derived.Deep.Upon
import Derived.Test.YtoefibkhlhmlfaaGreatY12
import Derived.Test.YtoefibkhlhmlfaaGreatY11
namespace Go.Proofs.YtoefibkhlhmlfaaGreat
open Go.RowKit
set_option maxRecDepth 100000 in
set_option maxHeartbeats 4000000 in
theorem rcheck12_any (w : World) (ao : Option Addr) (cap : Nat) (c : List En) (d : Bool) (a : ByteArray) (n : Nat) (hv : Fits c) (hm : a.size ≤ maxLen) (hc : EnsAt w ao c) :
    Calls Tryz.prog 82 #[.agg #[.slice ao c.length cap, .bool d, .string a, .int .u64 (n : Int)]] w fun e w' => e = .returned (.int .i64 (kCheck ⟨c, d, ⟨a, n⟩⟩)) ∧ Keep0 w w' := by
  have i2 : (a.size : Int) ≤ 9223372036854775807 := by unfold maxLen at hm; omega
  obtain ⟨r, hr⟩ : ∃ r, kCheck ⟨c, d, ⟨a, n⟩⟩ = r := ⟨_, rfl⟩
  rw [hr]
  by_cases h0 : vCheck c = 0
  case neg =>
    have HD : Hid (vCheck c = r) := by show _ = r; rw [← hr]; exact (check_bad (k := ⟨c, d, ⟨a, n⟩⟩) h0).symm
    have e0 : (vCheck c != 0) = true := by simpa using h0
    have e1 : ¬ vCheck c = 0 := h0
    clear h0
    have kA : Keep0 w (w.alloc (.cells #[.slice ao c.length cap, .bool d, .string a, .int .u64 (n : Int)] 58)) := (Keep.refl _ w).alloc _
    obtain ⟨x0, x1, x2, x3⟩ : ClkAt (w.alloc (.cells #[.slice ao c.length cap, .bool d, .string a, .int .u64 (n : Int)] 58)) w.heap.size 0 ⟨c, d, ⟨a, n⟩⟩ ao cap := clk_new w 58 ⟨c, d, ⟨a, n⟩⟩ ao cap
    have yc := rcheck10 _ ao cap c hv (hc.keep0 kA)
    generalize vCheck c = C at *
    clear hr hc hv hm
    generalize c.length = CL at *
    go_enter Tryz.func82, Tryz.ntmps82
    go_wp2_with fail
    generalize (w.alloc (.cells #[.slice ao CL cap, .bool d, .string a, .int .u64 (n : Int)] 58)) = W0 at *
    generalize w.heap.size = B at *
    refine yc.mono ?_
    rintro e w1 ⟨rfl, hw1⟩
    have k1 := keepN hw1
    have y0 := k1.cell x0 (fun f => f)
    have y1 := k1.cell x1 (fun f => f)
    have y2 := k1.cell x2 (fun f => f)
    have y3 := k1.cell x3 (fun f => f)
    have K1 := kA.trans k1
    clear yc hw1 k1 kA x0 x1 x2 x3
    go_wp2
    go_ret
    exact ⟨by rw [← HD.out]; rfl, K1⟩
  rw [check_dot (k := ⟨c, d, ⟨a, n⟩⟩) h0] at hr
  have yz : ∀ (W : World), EnsAt W ao c → Calls Tryz.prog 40 #[.slice ao c.length cap] W fun e w' => e = .returned (.int .i64 0) ∧ ∃ z, w' = W.drewN z := by
    intro W h
    rw [← h0]
    exact rcheck10 W ao cap c hv h
  cases d with
  | false =>
    by_cases h1 : a.size = 0
    · have ea := empty_eq12 h1
      by_cases h2 : n = 0
      · have HD : Hid ((0 : Int) = r) := by show _ = r; rw [← hr]; exact (dot_p0 (k := ⟨c, false, ⟨a, n⟩⟩) rfl h1 h2).symm
        subst ea h2
        clear h1 h0 i2
        have kA : Keep0 w (w.alloc (.cells #[.slice ao c.length cap, .bool false, .string ⟨#[]⟩, .int .u64 0] 58)) := (Keep.refl _ w).alloc _
        obtain ⟨x0, x1, x2, x3⟩ : ClkAt (w.alloc (.cells #[.slice ao c.length cap, .bool false, .string ⟨#[]⟩, .int .u64 0] 58)) w.heap.size 0 ⟨c, false, ⟨⟨#[]⟩, 0⟩⟩ ao cap := clk_new w 58 ⟨c, false, ⟨⟨#[]⟩, 0⟩⟩ ao cap
        have yc := yz _ (hc.keep0 kA)
        clear hr hc hv hm yz
        generalize c.length = CL at *
        go_enter Tryz.func82, Tryz.ntmps82
        go_wp2_with fail
        generalize (w.alloc (.cells #[.slice ao CL cap, .bool false, .string ⟨#[]⟩, .int .u64 0] 58)) = W0 at *
        generalize w.heap.size = B at *
        refine yc.mono ?_
        rintro e w1 ⟨rfl, hw1⟩
        have k1 := keepN hw1
        have y0 := k1.cell x0 (fun f => f)
        have y1 := k1.cell x1 (fun f => f)
        have y2 := k1.cell x2 (fun f => f)
        have y3 := k1.cell x3 (fun f => f)
        have K1 := kA.trans k1
        clear yc hw1 k1 kA x0 x1 x2 x3
        go_wp2
        go_ret
        exact ⟨by rw [← HD.out]; rfl, K1⟩
      · have HD : Hid ((1 : Int) = r) := by show _ = r; rw [← hr]; exact (dot_p1 (k := ⟨c, false, ⟨a, n⟩⟩) rfl (fun e => h2 e.2)).symm
        have j1 : ((n : Int) != 0) = true := by simp; omega
        have j2 : ¬ (n : Int) = 0 := by omega
        subst ea
        clear h1 h0 i2 h2
        have kA : Keep0 w (w.alloc (.cells #[.slice ao c.length cap, .bool false, .string ⟨#[]⟩, .int .u64 (n : Int)] 58)) := (Keep.refl _ w).alloc _
        obtain ⟨x0, x1, x2, x3⟩ : ClkAt (w.alloc (.cells #[.slice ao c.length cap, .bool false, .string ⟨#[]⟩, .int .u64 (n : Int)] 58)) w.heap.size 0 ⟨c, false, ⟨⟨#[]⟩, n⟩⟩ ao cap := clk_new w 58 ⟨c, false, ⟨⟨#[]⟩, n⟩⟩ ao cap
        have yc := yz _ (hc.keep0 kA)
        clear hr hc hv hm yz
        generalize c.length = CL at *
        go_enter Tryz.func82, Tryz.ntmps82
        go_wp2_with fail
        generalize (w.alloc (.cells #[.slice ao CL cap, .bool false, .string ⟨#[]⟩, .int .u64 (n : Int)] 58)) = W0 at *
        generalize w.heap.size = B at *
        refine yc.mono ?_
        rintro e w1 ⟨rfl, hw1⟩
        have k1 := keepN hw1
        have y0 := k1.cell x0 (fun f => f)
        have y1 := k1.cell x1 (fun f => f)
        have y2 := k1.cell x2 (fun f => f)
        have y3 := k1.cell x3 (fun f => f)
        have K1 := kA.trans k1
        clear yc hw1 k1 kA x0 x1 x2 x3
        go_wp2
        go_ret
        exact ⟨by rw [← HD.out]; rfl, K1⟩
    · have HD : Hid ((1 : Int) = r) := by show _ = r; rw [← hr]; exact (dot_p1 (k := ⟨c, false, ⟨a, n⟩⟩) rfl (fun e => h1 e.1)).symm
      have e1 := empty_ne12 h1
      clear h1 h0
      have kA : Keep0 w (w.alloc (.cells #[.slice ao c.length cap, .bool false, .string a, .int .u64 (n : Int)] 58)) := (Keep.refl _ w).alloc _
      obtain ⟨x0, x1, x2, x3⟩ : ClkAt (w.alloc (.cells #[.slice ao c.length cap, .bool false, .string a, .int .u64 (n : Int)] 58)) w.heap.size 0 ⟨c, false, ⟨a, n⟩⟩ ao cap := clk_new w 58 ⟨c, false, ⟨a, n⟩⟩ ao cap
      have yc := yz _ (hc.keep0 kA)
      clear hr hc hv hm yz
      generalize c.length = CL at *
      go_enter Tryz.func82, Tryz.ntmps82
      go_wp2_with fail
      generalize (w.alloc (.cells #[.slice ao CL cap, .bool false, .string a, .int .u64 (n : Int)] 58)) = W0 at *
      generalize w.heap.size = B at *
      refine yc.mono ?_
      rintro e w1 ⟨rfl, hw1⟩
      have k1 := keepN hw1
      have y0 := k1.cell x0 (fun f => f)
      have y1 := k1.cell x1 (fun f => f)
      have y2 := k1.cell x2 (fun f => f)
      have y3 := k1.cell x3 (fun f => f)
      have K1 := kA.trans k1
      clear yc hw1 k1 kA x0 x1 x2 x3
      go_wp2
      go_ret
      exact ⟨by rw [← HD.out]; rfl, K1⟩
  | true =>
    by_cases h1 : 32 < a.size
    · have HD : Hid ((3 : Int) = r) := by show _ = r; rw [← hr]; exact (dot_3 (k := ⟨c, true, ⟨a, n⟩⟩) rfl h1).symm
      have i3 : (32 : Int) < a.size := by omega
      clear h1 h0
      have kA : Keep0 w (w.alloc (.cells #[.slice ao c.length cap, .bool true, .string a, .int .u64 (n : Int)] 58)) := (Keep.refl _ w).alloc _
      obtain ⟨x0, x1, x2, x3⟩ : ClkAt (w.alloc (.cells #[.slice ao c.length cap, .bool true, .string a, .int .u64 (n : Int)] 58)) w.heap.size 0 ⟨c, true, ⟨a, n⟩⟩ ao cap := clk_new w 58 ⟨c, true, ⟨a, n⟩⟩ ao cap
      have yc := yz _ (hc.keep0 kA)
      clear hr hc hv hm yz
      generalize c.length = CL at *
      go_enter Tryz.func82, Tryz.ntmps82
      go_wp2_with fail
      generalize (w.alloc (.cells #[.slice ao CL cap, .bool true, .string a, .int .u64 (n : Int)] 58)) = W0 at *
      generalize w.heap.size = B at *
      refine yc.mono ?_
      rintro e w1 ⟨rfl, hw1⟩
      have k1 := keepN hw1
      have y0 := k1.cell x0 (fun f => f)
      have y1 := k1.cell x1 (fun f => f)
      have y2 := k1.cell x2 (fun f => f)
      have y3 := k1.cell x3 (fun f => f)
      have K1 := kA.trans k1
      clear yc hw1 k1 kA x0 x1 x2 x3
      go_wp2
      go_ret
      exact ⟨by rw [← HD.out]; rfl, K1⟩
    have i3 : ¬ (32 : Int) < a.size := by omega
    by_cases h2 : a.size = 0
    · have HD : Hid ((14 : Int) = r) := by show _ = r; rw [← hr]; exact (dot_14 (k := ⟨c, true, ⟨a, n⟩⟩) rfl h2).symm
      have i4 : (a.size : Int) = 0 := by omega
      clear h1 h2 h0
      have kA : Keep0 w (w.alloc (.cells #[.slice ao c.length cap, .bool true, .string a, .int .u64 (n : Int)] 58)) := (Keep.refl _ w).alloc _
      obtain ⟨x0, x1, x2, x3⟩ : ClkAt (w.alloc (.cells #[.slice ao c.length cap, .bool true, .string a, .int .u64 (n : Int)] 58)) w.heap.size 0 ⟨c, true, ⟨a, n⟩⟩ ao cap := clk_new w 58 ⟨c, true, ⟨a, n⟩⟩ ao cap
      have yc := yz _ (hc.keep0 kA)
      clear hr hc hv hm yz
      generalize c.length = CL at *
      go_enter Tryz.func82, Tryz.ntmps82
      go_wp2_with fail
      generalize (w.alloc (.cells #[.slice ao CL cap, .bool true, .string a, .int .u64 (n : Int)] 58)) = W0 at *
      generalize w.heap.size = B at *
      refine yc.mono ?_
      rintro e w1 ⟨rfl, hw1⟩
      have k1 := keepN hw1
      have y0 := k1.cell x0 (fun f => f)
      have y1 := k1.cell x1 (fun f => f)
      have y2 := k1.cell x2 (fun f => f)
      have y3 := k1.cell x3 (fun f => f)
      have K1 := kA.trans k1
      clear yc hw1 k1 kA x0 x1 x2 x3
      go_wp2
      go_ret
      exact ⟨by rw [← HD.out]; rfl, K1⟩
    have i4 : ((a.size : Int) == 0) = false := beq_eq_false_iff_ne.2 (by omega)
    have i5 : ¬ (a.size : Int) = 0 := by omega
    by_cases h3 : n = 0
    · have HD : Hid ((7 : Int) = r) := by show _ = r; rw [← hr]; exact (dot_7 (k := ⟨c, true, ⟨a, n⟩⟩) rfl h1 h2 h3).symm
      subst h3
      clear h1 h2 h0
      have kA : Keep0 w (w.alloc (.cells #[.slice ao c.length cap, .bool true, .string a, .int .u64 0] 58)) := (Keep.refl _ w).alloc _
      obtain ⟨x0, x1, x2, x3⟩ : ClkAt (w.alloc (.cells #[.slice ao c.length cap, .bool true, .string a, .int .u64 0] 58)) w.heap.size 0 ⟨c, true, ⟨a, 0⟩⟩ ao cap := clk_new w 58 ⟨c, true, ⟨a, 0⟩⟩ ao cap
      have yc := yz _ (hc.keep0 kA)
      clear hr hc hv hm yz
      generalize c.length = CL at *
      go_enter Tryz.func82, Tryz.ntmps82
      go_wp2_with fail
      generalize (w.alloc (.cells #[.slice ao CL cap, .bool true, .string a, .int .u64 0] 58)) = W0 at *
      generalize w.heap.size = B at *
      refine yc.mono ?_
      rintro e w1 ⟨rfl, hw1⟩
      have k1 := keepN hw1
      have y0 := k1.cell x0 (fun f => f)
      have y1 := k1.cell x1 (fun f => f)
      have y2 := k1.cell x2 (fun f => f)
      have y3 := k1.cell x3 (fun f => f)
      have K1 := kA.trans k1
      clear yc hw1 k1 kA x0 x1 x2 x3
      go_wp2
      go_ret
      exact ⟨by rw [← HD.out]; rfl, K1⟩
    have i6 : ((n : Int) == 0) = false := beq_eq_false_iff_ne.2 (by omega)
    have i7 : ¬ (n : Int) = 0 := by omega
    by_cases h4 : n ≤ vCount c a
    · have HD : Hid ((15 : Int) = r) := by show _ = r; rw [← hr]; exact (dot_15 (k := ⟨c, true, ⟨a, n⟩⟩) rfl h1 h2 h3 h4).symm
      have i8 : (n : Int) ≤ (vCount c a : Int) := by omega
      clear h1 h2 h3 h4 h0
      have kA : Keep0 w (w.alloc (.cells #[.slice ao c.length cap, .bool true, .string a, .int .u64 (n : Int)] 58)) := (Keep.refl _ w).alloc _
      obtain ⟨x0, x1, x2, x3⟩ : ClkAt (w.alloc (.cells #[.slice ao c.length cap, .bool true, .string a, .int .u64 (n : Int)] 58)) w.heap.size 0 ⟨c, true, ⟨a, n⟩⟩ ao cap := clk_new w 58 ⟨c, true, ⟨a, n⟩⟩ ao cap
      have yc := yz _ (hc.keep0 kA)
      have yq := fun (W : World) (K : Keep0 w W) (z : Nat) => Calls.of_same' (rcount10 (W.drewN z) ao cap c hv.1 (hc.keep0 (K.trans ((Keep.refl _ W).drewN z))) a)
      generalize (vCount c a : Int) = VC at *
      clear hr hc hv hm yz
      generalize c.length = CL at *
      go_enter Tryz.func82, Tryz.ntmps82
      go_wp2_with fail
      generalize (w.alloc (.cells #[.slice ao CL cap, .bool true, .string a, .int .u64 (n : Int)] 58)) = W0 at *
      generalize w.heap.size = B at *
      refine yc.mono ?_
      rintro e w1 ⟨rfl, hw1⟩
      have k1 := keepN hw1
      have y0 := k1.cell x0 (fun f => f)
      have y1 := k1.cell x1 (fun f => f)
      have y2 := k1.cell x2 (fun f => f)
      have y3 := k1.cell x3 (fun f => f)
      have K1 := kA.trans k1
      have yq := yq w1 K1
      clear yc hw1 k1 kA x0 x1 x2 x3
      go_wp2_with fail
      go_quiet ((go_at_call 116; exact yq _))
      go_wp2
      go_ret
      exact ⟨by rw [← HD.out]; rfl, K1.drewN _⟩
    · have HD : Hid ((0 : Int) = r) := by show _ = r; rw [← hr]; exact (dot_0 (k := ⟨c, true, ⟨a, n⟩⟩) rfl h1 h2 h3 h4).symm
      have i8 : ¬ (n : Int) ≤ (vCount c a : Int) := by omega
      have i8' : decide ((n : Int) ≤ (vCount c a : Int)) = false := decide_eq_false i8
      clear h1 h2 h3 h4 h0
      have kA : Keep0 w (w.alloc (.cells #[.slice ao c.length cap, .bool true, .string a, .int .u64 (n : Int)] 58)) := (Keep.refl _ w).alloc _
      obtain ⟨x0, x1, x2, x3⟩ : ClkAt (w.alloc (.cells #[.slice ao c.length cap, .bool true, .string a, .int .u64 (n : Int)] 58)) w.heap.size 0 ⟨c, true, ⟨a, n⟩⟩ ao cap := clk_new w 58 ⟨c, true, ⟨a, n⟩⟩ ao cap
      have yc := yz _ (hc.keep0 kA)
      have yq := fun (W : World) (K : Keep0 w W) (z : Nat) => Calls.of_same' (rcount10 (W.drewN z) ao cap c hv.1 (hc.keep0 (K.trans ((Keep.refl _ W).drewN z))) a)
      generalize (vCount c a : Int) = VC at *
      clear hr hc hv hm yz
      generalize c.length = CL at *
      go_enter Tryz.func82, Tryz.ntmps82
      go_wp2_with fail
      generalize (w.alloc (.cells #[.slice ao CL cap, .bool true, .string a, .int .u64 (n : Int)] 58)) = W0 at *
      generalize w.heap.size = B at *
      refine yc.mono ?_
      rintro e w1 ⟨rfl, hw1⟩
      have k1 := keepN hw1
      have y0 := k1.cell x0 (fun f => f)
      have y1 := k1.cell x1 (fun f => f)
      have y2 := k1.cell x2 (fun f => f)
      have y3 := k1.cell x3 (fun f => f)
      have K1 := kA.trans k1
      have yq := yq w1 K1
      clear yc hw1 k1 kA x0 x1 x2 x3
      go_wp2_with fail
      go_quiet ((go_at_call 116; exact yq _))
      go_wp2
      go_ret
      exact ⟨by rw [← HD.out]; rfl, K1.drewN _⟩
theorem rcheck12 (w : World) (ao : Option Addr) (cap : Nat) (k : Ck) (hf : FitsK k) (hc : EnsAt w ao k.c) :
    Calls Tryz.prog 82 #[.agg #[.slice ao k.c.length cap, .bool k.d, .string k.x.a, .int .u64 (k.x.n : Int)]] w fun e w' => e = .returned (.int .i64 (kCheck k)) ∧ Keep0 w w' :=
  rcheck12_any w ao cap k.c k.d k.x.a k.x.n hf.vec hf.dot hc
end Go.Proofs.YtoefibkhlhmlfaaGreat
namespace Go.Proofs.YtoefibkhlhmlfaaGreat
open Go.RowKit
def kSame (a b : Ck) : Bool := vSame a.c b.c && ((a.d == b.d) && decide (a.x.a = b.x.a ∧ a.x.n = b.x.n))
theorem kSame_iff {a b : Ck} : kSame a b = true ↔ a = b := by
  unfold kSame
  rw [Bool.and_eq_true, Bool.and_eq_true, vSame_iff, beq_iff_eq, decide_eq_true_iff]
  constructor
  · rintro ⟨h1, h2, h3, h4⟩
    cases a
    cases b
    congr 1
    exact En.eq h3 h4
  · rintro rfl
    exact ⟨rfl, rfl, rfl, rfl⟩
set_option maxRecDepth 100000 in
set_option maxHeartbeats 4000000 in
theorem rsame12_any (w : World) (ao bo : Option Addr) (ca cb : Nat) (c c' : List En) (d d' : Bool) (a a' : ByteArray) (n n' : Nat) (hv : c.length ≤ maxLen) (hv' : c'.length ≤ maxLen) (hc : EnsAt w ao c) (hc' : EnsAt w bo c') :
    Calls Tryz.prog 66 #[.agg #[.slice ao c.length ca, .bool d, .string a, .int .u64 (n : Int)], .agg #[.slice bo c'.length cb, .bool d', .string a', .int .u64 (n' : Int)]] w fun e w' => e = .returned (.bool (kSame ⟨c, d, ⟨a, n⟩⟩ ⟨c', d', ⟨a', n'⟩⟩)) ∧ Keep0 w w' := by
  have hk : kSame ⟨c, d, ⟨a, n⟩⟩ ⟨c', d', ⟨a', n'⟩⟩ = (vSame c c' && ((d == d') && decide (a = a' ∧ n = n'))) := rfl
  rw [hk]
  have kA : Keep0 w ((w.alloc (.cells #[.slice ao c.length ca, .bool d, .string a, .int .u64 (n : Int)] 58)).alloc (.cells #[.slice bo c'.length cb, .bool d', .string a', .int .u64 (n' : Int)] 58)) := ((Keep.refl _ w).alloc _).alloc _
  have k0 : Keep0 (w.alloc (.cells #[.slice ao c.length ca, .bool d, .string a, .int .u64 (n : Int)] 58)) ((w.alloc (.cells #[.slice ao c.length ca, .bool d, .string a, .int .u64 (n : Int)] 58)).alloc (.cells #[.slice bo c'.length cb, .bool d', .string a', .int .u64 (n' : Int)] 58)) := (Keep.refl _ _).alloc _
  have yq := rsame10 _ ao bo ca cb c c' hv hv' (hc.keep0 kA) (hc'.keep0 kA)
  obtain ⟨_, x1, x2, x3⟩ : ClkAt _ w.heap.size 0 ⟨c, d, ⟨a, n⟩⟩ ao ca := (clk_new w 58 ⟨c, d, ⟨a, n⟩⟩ ao ca).keep0 k0
  have hN := clk_new (w.alloc (.cells #[.slice ao c.length ca, .bool d, .string a, .int .u64 (n : Int)] 58)) 58 ⟨c', d', ⟨a', n'⟩⟩ bo cb
  rw [World.size_alloc] at hN
  obtain ⟨_, z1, z2, z3⟩ := hN
  clear hk hc hc' k0 hv hv'
  cases hs : vSame c c' with
  | false =>
    rw [hs] at yq
    rw [Bool.false_and]
    clear hs
    generalize c.length = CL at *
    generalize c'.length = CM at *
    go_enter Tryz.func66, Tryz.ntmps66
    go_wp2_with fail
    generalize ((w.alloc (.cells #[.slice ao CL ca, .bool d, .string a, .int .u64 (n : Int)] 58)).alloc (.cells #[.slice bo CM cb, .bool d', .string a', .int .u64 (n' : Int)] 58)) = W1 at *
    generalize w.heap.size = B at *
    refine yq.mono ?_
    rintro e w1 ⟨rfl, hw1⟩
    have k1 := keepN hw1
    have x1 := k1.cell x1 (fun f => f)
    have x2 := k1.cell x2 (fun f => f)
    have x3 := k1.cell x3 (fun f => f)
    have z1 := k1.cell z1 (fun f => f)
    have z2 := k1.cell z2 (fun f => f)
    have z3 := k1.cell z3 (fun f => f)
    have K1 := kA.trans k1
    clear yq hw1 k1 kA
    go_wp2
    go_ret
    exact ⟨rfl, K1⟩
  | true =>
    rw [hs] at yq
    rw [Bool.true_and]
    clear hs
    generalize c.length = CL at *
    generalize c'.length = CM at *
    by_cases hd : d = d'
    · subst hd
      have e0 : (d == d) = true := by simp
      rw [e0, Bool.true_and]
      clear e0
      by_cases ha : a = a'
      · subst ha
        by_cases hn : n = n'
        · subst hn
          rw [decide_eq_true ⟨rfl, rfl⟩]
          cases d with
          | false =>
            go_enter Tryz.func66, Tryz.ntmps66
            go_wp2_with fail
            generalize ((w.alloc (.cells #[.slice ao CL ca, .bool false, .string a, .int .u64 (n : Int)] 58)).alloc (.cells #[.slice bo CM cb, .bool false, .string a, .int .u64 (n : Int)] 58)) = W1 at *
            generalize w.heap.size = B at *
            refine yq.mono ?_
            rintro e w1 ⟨rfl, hw1⟩
            have k1 := keepN hw1
            have x1 := k1.cell x1 (fun f => f)
            have x2 := k1.cell x2 (fun f => f)
            have x3 := k1.cell x3 (fun f => f)
            have z1 := k1.cell z1 (fun f => f)
            have z2 := k1.cell z2 (fun f => f)
            have z3 := k1.cell z3 (fun f => f)
            have K1 := kA.trans k1
            clear yq hw1 k1 kA
            go_wp2
            go_ret
            exact ⟨rfl, K1⟩
          | true =>
            go_enter Tryz.func66, Tryz.ntmps66
            go_wp2_with fail
            generalize ((w.alloc (.cells #[.slice ao CL ca, .bool true, .string a, .int .u64 (n : Int)] 58)).alloc (.cells #[.slice bo CM cb, .bool true, .string a, .int .u64 (n : Int)] 58)) = W1 at *
            generalize w.heap.size = B at *
            refine yq.mono ?_
            rintro e w1 ⟨rfl, hw1⟩
            have k1 := keepN hw1
            have x1 := k1.cell x1 (fun f => f)
            have x2 := k1.cell x2 (fun f => f)
            have x3 := k1.cell x3 (fun f => f)
            have z1 := k1.cell z1 (fun f => f)
            have z2 := k1.cell z2 (fun f => f)
            have z3 := k1.cell z3 (fun f => f)
            have K1 := kA.trans k1
            clear yq hw1 k1 kA
            go_wp2
            go_ret
            exact ⟨rfl, K1⟩
        · rw [decide_eq_false (fun e => hn e.2)]
          have j1 : ((n : Int) == (n' : Int)) = false := beq_eq_false_iff_ne.2 (by omega)
          have j2 : ¬ (n : Int) = (n' : Int) := by omega
          clear hn
          cases d with
          | false =>
            go_enter Tryz.func66, Tryz.ntmps66
            go_wp2_with fail
            generalize ((w.alloc (.cells #[.slice ao CL ca, .bool false, .string a, .int .u64 (n : Int)] 58)).alloc (.cells #[.slice bo CM cb, .bool false, .string a, .int .u64 (n' : Int)] 58)) = W1 at *
            generalize w.heap.size = B at *
            refine yq.mono ?_
            rintro e w1 ⟨rfl, hw1⟩
            have k1 := keepN hw1
            have x1 := k1.cell x1 (fun f => f)
            have x2 := k1.cell x2 (fun f => f)
            have x3 := k1.cell x3 (fun f => f)
            have z1 := k1.cell z1 (fun f => f)
            have z2 := k1.cell z2 (fun f => f)
            have z3 := k1.cell z3 (fun f => f)
            have K1 := kA.trans k1
            clear yq hw1 k1 kA
            go_wp2
            go_ret
            exact ⟨rfl, K1⟩
          | true =>
            go_enter Tryz.func66, Tryz.ntmps66
            go_wp2_with fail
            generalize ((w.alloc (.cells #[.slice ao CL ca, .bool true, .string a, .int .u64 (n : Int)] 58)).alloc (.cells #[.slice bo CM cb, .bool true, .string a, .int .u64 (n' : Int)] 58)) = W1 at *
            generalize w.heap.size = B at *
            refine yq.mono ?_
            rintro e w1 ⟨rfl, hw1⟩
            have k1 := keepN hw1
            have x1 := k1.cell x1 (fun f => f)
            have x2 := k1.cell x2 (fun f => f)
            have x3 := k1.cell x3 (fun f => f)
            have z1 := k1.cell z1 (fun f => f)
            have z2 := k1.cell z2 (fun f => f)
            have z3 := k1.cell z3 (fun f => f)
            have K1 := kA.trans k1
            clear yq hw1 k1 kA
            go_wp2
            go_ret
            exact ⟨rfl, K1⟩
      · rw [decide_eq_false (fun e => ha e.1)]
        obtain ⟨e1, e2, e3⟩ := txt_ne ha
        cases d with
        | false =>
          go_enter Tryz.func66, Tryz.ntmps66
          go_wp2_with fail
          generalize ((w.alloc (.cells #[.slice ao CL ca, .bool false, .string a, .int .u64 (n : Int)] 58)).alloc (.cells #[.slice bo CM cb, .bool false, .string a', .int .u64 (n' : Int)] 58)) = W1 at *
          generalize w.heap.size = B at *
          refine yq.mono ?_
          rintro e w1 ⟨rfl, hw1⟩
          have k1 := keepN hw1
          have x1 := k1.cell x1 (fun f => f)
          have x2 := k1.cell x2 (fun f => f)
          have x3 := k1.cell x3 (fun f => f)
          have z1 := k1.cell z1 (fun f => f)
          have z2 := k1.cell z2 (fun f => f)
          have z3 := k1.cell z3 (fun f => f)
          have K1 := kA.trans k1
          clear yq hw1 k1 kA
          go_wp2
          go_ret
          exact ⟨rfl, K1⟩
        | true =>
          go_enter Tryz.func66, Tryz.ntmps66
          go_wp2_with fail
          generalize ((w.alloc (.cells #[.slice ao CL ca, .bool true, .string a, .int .u64 (n : Int)] 58)).alloc (.cells #[.slice bo CM cb, .bool true, .string a', .int .u64 (n' : Int)] 58)) = W1 at *
          generalize w.heap.size = B at *
          refine yq.mono ?_
          rintro e w1 ⟨rfl, hw1⟩
          have k1 := keepN hw1
          have x1 := k1.cell x1 (fun f => f)
          have x2 := k1.cell x2 (fun f => f)
          have x3 := k1.cell x3 (fun f => f)
          have z1 := k1.cell z1 (fun f => f)
          have z2 := k1.cell z2 (fun f => f)
          have z3 := k1.cell z3 (fun f => f)
          have K1 := kA.trans k1
          clear yq hw1 k1 kA
          go_wp2
          go_ret
          exact ⟨rfl, K1⟩
    · have e0 : (d == d') = false := by simpa using hd
      rw [e0, Bool.false_and]
      cases d with
      | false =>
        cases d' with
        | false => exact absurd rfl hd
        | true =>
          clear hd e0
          go_enter Tryz.func66, Tryz.ntmps66
          go_wp2_with fail
          generalize ((w.alloc (.cells #[.slice ao CL ca, .bool false, .string a, .int .u64 (n : Int)] 58)).alloc (.cells #[.slice bo CM cb, .bool true, .string a', .int .u64 (n' : Int)] 58)) = W1 at *
          generalize w.heap.size = B at *
          refine yq.mono ?_
          rintro e w1 ⟨rfl, hw1⟩
          have k1 := keepN hw1
          have x1 := k1.cell x1 (fun f => f)
          have x2 := k1.cell x2 (fun f => f)
          have x3 := k1.cell x3 (fun f => f)
          have z1 := k1.cell z1 (fun f => f)
          have z2 := k1.cell z2 (fun f => f)
          have z3 := k1.cell z3 (fun f => f)
          have K1 := kA.trans k1
          clear yq hw1 k1 kA
          go_wp2
          go_ret
          exact ⟨rfl, K1⟩
      | true =>
        cases d' with
        | true => exact absurd rfl hd
        | false =>
          clear hd e0
          go_enter Tryz.func66, Tryz.ntmps66
          go_wp2_with fail
          generalize ((w.alloc (.cells #[.slice ao CL ca, .bool true, .string a, .int .u64 (n : Int)] 58)).alloc (.cells #[.slice bo CM cb, .bool false, .string a', .int .u64 (n' : Int)] 58)) = W1 at *
          generalize w.heap.size = B at *
          refine yq.mono ?_
          rintro e w1 ⟨rfl, hw1⟩
          have k1 := keepN hw1
          have x1 := k1.cell x1 (fun f => f)
          have x2 := k1.cell x2 (fun f => f)
          have x3 := k1.cell x3 (fun f => f)
          have z1 := k1.cell z1 (fun f => f)
          have z2 := k1.cell z2 (fun f => f)
          have z3 := k1.cell z3 (fun f => f)
          have K1 := kA.trans k1
          clear yq hw1 k1 kA
          go_wp2
          go_ret
          exact ⟨rfl, K1⟩
theorem rsame12 (w : World) (ao bo : Option Addr) (ca cb : Nat) (a b : Ck) (hf : FitsK a) (hg : FitsK b) (hc : EnsAt w ao a.c) (hc' : EnsAt w bo b.c) :
    Calls Tryz.prog 66 #[.agg #[.slice ao a.c.length ca, .bool a.d, .string a.x.a, .int .u64 (a.x.n : Int)], .agg #[.slice bo b.c.length cb, .bool b.d, .string b.x.a, .int .u64 (b.x.n : Int)]] w fun e w' => e = .returned (.bool (kSame a b)) ∧ Keep0 w w' :=
  rsame12_any w ao bo ca cb a.c b.c a.d b.d a.x.a b.x.a a.x.n b.x.n hf.vec.1 hg.vec.1 hc hc'
end Go.Proofs.YtoefibkhlhmlfaaGreat
