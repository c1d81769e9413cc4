/-
  What this seat's claims lean on of the texts RefVcode2, RefDot.
  Conditions: as each theorem states.
-/
import Derived.WalkKit
import Derived.ProofKit
import Derived.Below
import Derived.Deep.Draws
import Derived.Deep.RegionHeld
import Derived.Test.YtfpahdnhnhkcdaaChecked
import Derived.OpenShut
import Derived.ShutString
import Derived.WalkSpells
import Derived.WalkLawsBesides
import Derived.Deep.QuietTactic
import Derived.BigQuiet
import Derived.Laws.Bits64b
import Derived.PlainAid
import Derived.Lib.AppendStr
import Derived.Deep.AppendLies
import Derived.Laws.IdiomStrings
import Derived.Laws.BytesArg
import Derived.Deep.RegionWith
import Derived.Laws.AppendOwn
import Derived.Deep.DeepAppendWide
import Derived.Deep.Upon
import Derived.Test.YtfpahdnhnhkcdaaZ7
import Derived.Test.YtfpahdnhnhkcdaaZ16
import Derived.Test.YtfpahdnhnhkcdaaZ13
import Derived.Test.YtfpahdnhnhkcdaaZ15
namespace Go.Proofs.Ytfpahdnhnhkcdaa
open Go.RowKit
set_option maxRecDepth 100000 in
set_option maxHeartbeats 4000000 in
theorem rput11 {w : World} {b : Nat} {t : ByteArray} {M x : Int} (h : RPen w b t M x) (ht : t.size ≤ 1000000000) (ao : Option Addr) (cap : Nat) (l : List En) (hf : Fits l) (hc : EnsAt w ao l) (hn : 0 < l.length → ApartE (fun k => k = b) ao) :
    Calls Try.prog 86 #[pptr b, .slice ao l.length cap] w fun e w' => e = .returned (.tuple #[]) ∧ RPen w' b (pVec M (t, x) l).1 M (pVec M (t, x) l).2 ∧ Keep1 b w w' := by
  have yc := rcheck10 w ao cap l hf hc
  have hl' : (l.length : Int) ≤ 9223372036854775807 := by have := hf.1; unfold maxLen at this; omega
  by_cases h0 : vCheck l = 0
  case neg =>
    rw [pVec_no h0]
    have e0 : (vCheck l != 0) = true := by simpa using h0
    have yf := fun W (h : RPen W b t M x) => rpfail_any (vCheck l) h
    clear h0
    generalize vCheck l = C at *
    go_enter Try.func86, Try.ntmps86
    go_wp2_with fail
    refine yc.mono ?_
    rintro e w1 ⟨rfl, hw1⟩
    have k1 := keepN hw1
    have yf := yf _ (h.keep0 k1)
    clear yc hw1
    go_wp2_with fail
    refine yf.mono ?_
    rintro e w2 ⟨rfl, h2, k2⟩
    have K2 : Keep1 b w w2 := (k1.any (R := fun k => k = b)).trans k2
    clear yf k2 k1
    go_wp2
    (try simp only [Exit.inBlock, Exit.then])
    refine bodyPost_ret (results_none rfl _ _ _) rfl ?_
    exact ⟨rfl, h2, K2⟩
  rw [h0] at yc
  obtain ⟨h64, hg⟩ := (check_zero l).1 h0
  rw [pVec_yes h0]
  have HC : Hid (EnsAt w ao l) := hc
  have HG : Hid (∀ y ∈ l, y.a.size ≤ 32 ∧ U64 y.n) := fun y hy => ⟨(hg.1 y hy).2.1, (hf.2 y hy).2⟩
  have HN : Hid (0 < l.length → ApartE (fun k => k = b) ao) := hn
  have yp := fun W (h : RPen W b t M x) => rput_any l.length (by omega) h (by omega)
  have hs1 := pOne_size M (t, x) (vText l.length)
  have hs2 := (vText_le (n := l.length) (by omega)).2
  have HT : Hid ((pOne M (t, x) (vText l.length)).1.size ≤ t.size + 10) := by show _ ≤ _; have : (t, x).1.size = t.size := rfl; omega
  have i0 : IntKind.u64.wrap (l.length : Int) = (l.length : Int) := by rw [IntKind.wrap_u64]; omega
  obtain ⟨P, hP⟩ : ∃ P, pOne M (t, x) (vText l.length) = P := ⟨_, rfl⟩
  rw [hP] at yp HT ⊢
  obtain ⟨R, hR⟩ : ∃ R, pEnts M P l = R := ⟨_, rfl⟩
  rw [hR]
  have HR : Hid (pEnts M P l = R) := hR
  clear hP hs1 hs2 hg hc hn h0 hR
  go_enter Try.func86, Try.ntmps86
  go_wp2_with fail
  refine yc.mono ?_
  rintro e w1 ⟨rfl, hw1⟩
  have k1 := keepN hw1
  have yp := yp _ (h.keep0 k1)
  clear yc hw1
  go_wp2_with fail
  refine yp.mono ?_
  rintro e w2 ⟨rfl, h2, k2⟩
  have K2 : Keep1 b w w2 := (k1.any (R := fun k => k = b)).trans k2
  clear yp k2 k1
  go_wp2_with fail
  go_loopw [5] (fun i wr => ∃ (k : Nat), i = .int .i64 (k : Int) ∧ k ≤ l.length ∧ RPen wr b (pEnts M P (l.take k)).1 M (pEnts M P (l.take k)).2 ∧ Keep1 b w wr) (fun i _ => l.length - (intOf i).toNat)
  case atStart => exact ⟨0, rfl, by omega, h2, K2⟩
  case round =>
    obtain ⟨k, rfl, hk, hp, hK⟩ := hrel
    clear h2 K2
    by_cases hlt : k < l.length
    · have i1 : (k : Int) < l.length := by omega
      have hap := HN.out (by omega)
      have hcr := HC.out.keep hK hap
      obtain ⟨bb, off, rfl, x0, x1⟩ := hcr k hlt
      have hbb : bb ≠ b := hap _ _ _ rfl
      obtain ⟨hy, hyn⟩ := HG.out l[k] (List.getElem_mem hlt)
      have hsz := pEnts_size M (l.take k) P (fun y hy => HG.out y (List.mem_of_mem_take hy))
      rw [List.length_take, Nat.min_eq_left (by omega)] at hsz
      have hT := HT.out
      have HS : Hid (pEnts M P (l.take (k + 1)) = pEnt M (pEnts M P (l.take k)) l[k]) := pEnts_take hlt
      have yb := rbput_any 32 (by decide) l[k].a hp (by omega)
      have hws := wPut_size M 32 (pEnts M P (l.take k)) l[k].a (by omega)
      have hE : ((pEnts M P (l.take k)).1, (pEnts M P (l.take k)).2) = pEnts M P (l.take k) := rfl
      rw [hE] at yb
      have yn := fun W (h : RPen W b (wPut M 32 (pEnts M P (l.take k)) l[k].a).1 M (wPut M 32 (pEnts M P (l.take k)) l[k].a).2) => rput_any l[k].n hyn h (by omega)
      have hE2 : ((wPut M 32 (pEnts M P (l.take k)) l[k].a).1, (wPut M 32 (pEnts M P (l.take k)) l[k].a).2) = wPut M 32 (pEnts M P (l.take k)) l[k].a := rfl
      rw [hE2] at yn
      have hE3 : pOne M (wPut M 32 (pEnts M P (l.take k)) l[k].a) (vText l[k].n) = pEnt M (pEnts M P (l.take k)) l[k] := rfl
      rw [hE3, ← HS.out] at yn
      obtain ⟨P2, hP2⟩ : ∃ P2, pEnts M P (l.take (k + 1)) = P2 := ⟨_, rfl⟩
      rw [hP2] at yn
      have HS2 : Hid (pEnts M P (l.take (k + 1)) = P2) := hP2
      clear hP2 HS hap
      generalize wPut M 32 (pEnts M P (l.take k)) l[k].a = P1 at *
      generalize pEnts M P (l.take k) = P0 at *
      generalize l[k].a = A at *
      generalize (l[k].n : Int) = NN at *
      clear hE hE2 hE3 hws hsz hT hcr hp hy hyn
      go_wp2_with fail
      refine yb.mono ?_
      rintro e w3 ⟨rfl, h3, k3⟩
      have y1 := k3.cell x1 hbb
      have K3 := hK.trans k3
      have yn := yn _ h3
      clear yb k3 hK x0 x1 h3
      go_wp2_with fail
      refine yn.mono ?_
      rintro e w4 ⟨rfl, h4, k4⟩
      have K4 := K3.trans k4
      clear yn k4 K3 y1
      go_wp2
      go_roundw
      case rel => exact ⟨k + 1, by go_num, by omega, by rw [HS2.out]; exact h4, K4⟩
      case measure => simp [intOf]; omega
    · have i1 : ¬ (k : Int) < l.length := by omega
      have ek : l.take k = l := List.take_of_length_le (by omega)
      rw [ek, HR.out] at hp
      go_wp2
      go_end0
      exact ⟨rfl, hp, hK⟩
theorem ens_old {w : World} {ao : Option Addr} {l : List En} (h : EnsAt w ao l) (hl : 0 < l.length) : ∀ g off m, ao = some ⟨g, off, m⟩ → g < w.heap.size := by
  intro g off m e
  obtain ⟨b, o, e', h1, _⟩ := h 0 hl
  rw [e] at e'
  cases e'
  exact World.block_lt_of_cell? w _ h1
end Go.Proofs.Ytfpahdnhnhkcdaa
namespace Go.Proofs.Ytfpahdnhnhkcdaa
open Go.RowKit
set_option maxRecDepth 100000 in
set_option maxHeartbeats 4000000 in
theorem rcheck12_any (w : World) (ao : Option Addr) (cap : Nat) (c : List En) (d : Bool) (a : ByteArray) (n : Nat) (hv : Fits c) (hm : a.size ≤ maxLen) (hc : EnsAt w ao c) :
    Calls Try.prog 35 #[.agg #[.slice ao c.length cap, .bool d, .string a, .int .u64 (n : Int)]] w fun e w' => e = .returned (.int .i64 (kCheck ⟨c, d, ⟨a, n⟩⟩)) ∧ Keep0 w w' := by
  have i2 : (a.size : Int) ≤ 9223372036854775807 := by unfold maxLen at hm; omega
  obtain ⟨r, hr⟩ : ∃ r, kCheck ⟨c, d, ⟨a, n⟩⟩ = r := ⟨_, rfl⟩
  rw [hr]
  by_cases h0 : vCheck c = 0
  case neg =>
    have HD : Hid (vCheck c = r) := by show _ = r; rw [← hr]; exact (check_bad (k := ⟨c, d, ⟨a, n⟩⟩) h0).symm
    have e0 : (vCheck c != 0) = true := by simpa using h0
    have e1 : ¬ vCheck c = 0 := h0
    clear h0
    have kA : Keep0 w (w.alloc (.cells #[.slice ao c.length cap, .bool d, .string a, .int .u64 (n : Int)] 27)) := (Keep.refl _ w).alloc _
    obtain ⟨x0, x1, x2, x3⟩ : ClkAt (w.alloc (.cells #[.slice ao c.length cap, .bool d, .string a, .int .u64 (n : Int)] 27)) w.heap.size 0 ⟨c, d, ⟨a, n⟩⟩ ao cap := clk_new w 27 ⟨c, d, ⟨a, n⟩⟩ ao cap
    have yc := rcheck10 _ ao cap c hv (hc.keep0 kA)
    generalize vCheck c = C at *
    clear hr hc hv hm
    generalize c.length = CL at *
    go_enter Try.func35, Try.ntmps35
    go_wp2_with fail
    generalize (w.alloc (.cells #[.slice ao CL cap, .bool d, .string a, .int .u64 (n : Int)] 27)) = W0 at *
    generalize w.heap.size = B at *
    refine yc.mono ?_
    rintro e w1 ⟨rfl, hw1⟩
    have k1 := keepN hw1
    have y0 := k1.cell x0 (fun f => f)
    have y1 := k1.cell x1 (fun f => f)
    have y2 := k1.cell x2 (fun f => f)
    have y3 := k1.cell x3 (fun f => f)
    have K1 := kA.trans k1
    clear yc hw1 k1 kA x0 x1 x2 x3
    go_wp2
    go_ret
    exact ⟨by rw [← HD.out]; rfl, K1⟩
  rw [check_dot (k := ⟨c, d, ⟨a, n⟩⟩) h0] at hr
  have yz : ∀ (W : World), EnsAt W ao c → Calls Try.prog 67 #[.slice ao c.length cap] W fun e w' => e = .returned (.int .i64 0) ∧ ∃ z, w' = W.drewN z := by
    intro W h
    rw [← h0]
    exact rcheck10 W ao cap c hv h
  cases d with
  | false =>
    by_cases h1 : a.size = 0
    · have ea := empty_eq12 h1
      by_cases h2 : n = 0
      · have HD : Hid ((0 : Int) = r) := by show _ = r; rw [← hr]; exact (dot_p0 (k := ⟨c, false, ⟨a, n⟩⟩) rfl h1 h2).symm
        subst ea h2
        clear h1 h0 i2
        have kA : Keep0 w (w.alloc (.cells #[.slice ao c.length cap, .bool false, .string ⟨#[]⟩, .int .u64 0] 27)) := (Keep.refl _ w).alloc _
        obtain ⟨x0, x1, x2, x3⟩ : ClkAt (w.alloc (.cells #[.slice ao c.length cap, .bool false, .string ⟨#[]⟩, .int .u64 0] 27)) w.heap.size 0 ⟨c, false, ⟨⟨#[]⟩, 0⟩⟩ ao cap := clk_new w 27 ⟨c, false, ⟨⟨#[]⟩, 0⟩⟩ ao cap
        have yc := yz _ (hc.keep0 kA)
        clear hr hc hv hm yz
        generalize c.length = CL at *
        go_enter Try.func35, Try.ntmps35
        go_wp2_with fail
        generalize (w.alloc (.cells #[.slice ao CL cap, .bool false, .string ⟨#[]⟩, .int .u64 0] 27)) = W0 at *
        generalize w.heap.size = B at *
        refine yc.mono ?_
        rintro e w1 ⟨rfl, hw1⟩
        have k1 := keepN hw1
        have y0 := k1.cell x0 (fun f => f)
        have y1 := k1.cell x1 (fun f => f)
        have y2 := k1.cell x2 (fun f => f)
        have y3 := k1.cell x3 (fun f => f)
        have K1 := kA.trans k1
        clear yc hw1 k1 kA x0 x1 x2 x3
        go_wp2
        go_ret
        exact ⟨by rw [← HD.out]; rfl, K1⟩
      · have HD : Hid ((1 : Int) = r) := by show _ = r; rw [← hr]; exact (dot_p1 (k := ⟨c, false, ⟨a, n⟩⟩) rfl (fun e => h2 e.2)).symm
        have j1 : ((n : Int) != 0) = true := by simp; omega
        have j2 : ¬ (n : Int) = 0 := by omega
        subst ea
        clear h1 h0 i2 h2
        have kA : Keep0 w (w.alloc (.cells #[.slice ao c.length cap, .bool false, .string ⟨#[]⟩, .int .u64 (n : Int)] 27)) := (Keep.refl _ w).alloc _
        obtain ⟨x0, x1, x2, x3⟩ : ClkAt (w.alloc (.cells #[.slice ao c.length cap, .bool false, .string ⟨#[]⟩, .int .u64 (n : Int)] 27)) w.heap.size 0 ⟨c, false, ⟨⟨#[]⟩, n⟩⟩ ao cap := clk_new w 27 ⟨c, false, ⟨⟨#[]⟩, n⟩⟩ ao cap
        have yc := yz _ (hc.keep0 kA)
        clear hr hc hv hm yz
        generalize c.length = CL at *
        go_enter Try.func35, Try.ntmps35
        go_wp2_with fail
        generalize (w.alloc (.cells #[.slice ao CL cap, .bool false, .string ⟨#[]⟩, .int .u64 (n : Int)] 27)) = W0 at *
        generalize w.heap.size = B at *
        refine yc.mono ?_
        rintro e w1 ⟨rfl, hw1⟩
        have k1 := keepN hw1
        have y0 := k1.cell x0 (fun f => f)
        have y1 := k1.cell x1 (fun f => f)
        have y2 := k1.cell x2 (fun f => f)
        have y3 := k1.cell x3 (fun f => f)
        have K1 := kA.trans k1
        clear yc hw1 k1 kA x0 x1 x2 x3
        go_wp2
        go_ret
        exact ⟨by rw [← HD.out]; rfl, K1⟩
    · have HD : Hid ((1 : Int) = r) := by show _ = r; rw [← hr]; exact (dot_p1 (k := ⟨c, false, ⟨a, n⟩⟩) rfl (fun e => h1 e.1)).symm
      have e1 := empty_ne12 h1
      clear h1 h0
      have kA : Keep0 w (w.alloc (.cells #[.slice ao c.length cap, .bool false, .string a, .int .u64 (n : Int)] 27)) := (Keep.refl _ w).alloc _
      obtain ⟨x0, x1, x2, x3⟩ : ClkAt (w.alloc (.cells #[.slice ao c.length cap, .bool false, .string a, .int .u64 (n : Int)] 27)) w.heap.size 0 ⟨c, false, ⟨a, n⟩⟩ ao cap := clk_new w 27 ⟨c, false, ⟨a, n⟩⟩ ao cap
      have yc := yz _ (hc.keep0 kA)
      clear hr hc hv hm yz
      generalize c.length = CL at *
      go_enter Try.func35, Try.ntmps35
      go_wp2_with fail
      generalize (w.alloc (.cells #[.slice ao CL cap, .bool false, .string a, .int .u64 (n : Int)] 27)) = W0 at *
      generalize w.heap.size = B at *
      refine yc.mono ?_
      rintro e w1 ⟨rfl, hw1⟩
      have k1 := keepN hw1
      have y0 := k1.cell x0 (fun f => f)
      have y1 := k1.cell x1 (fun f => f)
      have y2 := k1.cell x2 (fun f => f)
      have y3 := k1.cell x3 (fun f => f)
      have K1 := kA.trans k1
      clear yc hw1 k1 kA x0 x1 x2 x3
      go_wp2
      go_ret
      exact ⟨by rw [← HD.out]; rfl, K1⟩
  | true =>
    by_cases h1 : 32 < a.size
    · have HD : Hid ((3 : Int) = r) := by show _ = r; rw [← hr]; exact (dot_3 (k := ⟨c, true, ⟨a, n⟩⟩) rfl h1).symm
      have i3 : (32 : Int) < a.size := by omega
      clear h1 h0
      have kA : Keep0 w (w.alloc (.cells #[.slice ao c.length cap, .bool true, .string a, .int .u64 (n : Int)] 27)) := (Keep.refl _ w).alloc _
      obtain ⟨x0, x1, x2, x3⟩ : ClkAt (w.alloc (.cells #[.slice ao c.length cap, .bool true, .string a, .int .u64 (n : Int)] 27)) w.heap.size 0 ⟨c, true, ⟨a, n⟩⟩ ao cap := clk_new w 27 ⟨c, true, ⟨a, n⟩⟩ ao cap
      have yc := yz _ (hc.keep0 kA)
      clear hr hc hv hm yz
      generalize c.length = CL at *
      go_enter Try.func35, Try.ntmps35
      go_wp2_with fail
      generalize (w.alloc (.cells #[.slice ao CL cap, .bool true, .string a, .int .u64 (n : Int)] 27)) = W0 at *
      generalize w.heap.size = B at *
      refine yc.mono ?_
      rintro e w1 ⟨rfl, hw1⟩
      have k1 := keepN hw1
      have y0 := k1.cell x0 (fun f => f)
      have y1 := k1.cell x1 (fun f => f)
      have y2 := k1.cell x2 (fun f => f)
      have y3 := k1.cell x3 (fun f => f)
      have K1 := kA.trans k1
      clear yc hw1 k1 kA x0 x1 x2 x3
      go_wp2
      go_ret
      exact ⟨by rw [← HD.out]; rfl, K1⟩
    have i3 : ¬ (32 : Int) < a.size := by omega
    by_cases h2 : a.size = 0
    · have HD : Hid ((14 : Int) = r) := by show _ = r; rw [← hr]; exact (dot_14 (k := ⟨c, true, ⟨a, n⟩⟩) rfl h2).symm
      have i4 : (a.size : Int) = 0 := by omega
      clear h1 h2 h0
      have kA : Keep0 w (w.alloc (.cells #[.slice ao c.length cap, .bool true, .string a, .int .u64 (n : Int)] 27)) := (Keep.refl _ w).alloc _
      obtain ⟨x0, x1, x2, x3⟩ : ClkAt (w.alloc (.cells #[.slice ao c.length cap, .bool true, .string a, .int .u64 (n : Int)] 27)) w.heap.size 0 ⟨c, true, ⟨a, n⟩⟩ ao cap := clk_new w 27 ⟨c, true, ⟨a, n⟩⟩ ao cap
      have yc := yz _ (hc.keep0 kA)
      clear hr hc hv hm yz
      generalize c.length = CL at *
      go_enter Try.func35, Try.ntmps35
      go_wp2_with fail
      generalize (w.alloc (.cells #[.slice ao CL cap, .bool true, .string a, .int .u64 (n : Int)] 27)) = W0 at *
      generalize w.heap.size = B at *
      refine yc.mono ?_
      rintro e w1 ⟨rfl, hw1⟩
      have k1 := keepN hw1
      have y0 := k1.cell x0 (fun f => f)
      have y1 := k1.cell x1 (fun f => f)
      have y2 := k1.cell x2 (fun f => f)
      have y3 := k1.cell x3 (fun f => f)
      have K1 := kA.trans k1
      clear yc hw1 k1 kA x0 x1 x2 x3
      go_wp2
      go_ret
      exact ⟨by rw [← HD.out]; rfl, K1⟩
    have i4 : ((a.size : Int) == 0) = false := beq_eq_false_iff_ne.2 (by omega)
    have i5 : ¬ (a.size : Int) = 0 := by omega
    by_cases h3 : n = 0
    · have HD : Hid ((7 : Int) = r) := by show _ = r; rw [← hr]; exact (dot_7 (k := ⟨c, true, ⟨a, n⟩⟩) rfl h1 h2 h3).symm
      subst h3
      clear h1 h2 h0
      have kA : Keep0 w (w.alloc (.cells #[.slice ao c.length cap, .bool true, .string a, .int .u64 0] 27)) := (Keep.refl _ w).alloc _
      obtain ⟨x0, x1, x2, x3⟩ : ClkAt (w.alloc (.cells #[.slice ao c.length cap, .bool true, .string a, .int .u64 0] 27)) w.heap.size 0 ⟨c, true, ⟨a, 0⟩⟩ ao cap := clk_new w 27 ⟨c, true, ⟨a, 0⟩⟩ ao cap
      have yc := yz _ (hc.keep0 kA)
      clear hr hc hv hm yz
      generalize c.length = CL at *
      go_enter Try.func35, Try.ntmps35
      go_wp2_with fail
      generalize (w.alloc (.cells #[.slice ao CL cap, .bool true, .string a, .int .u64 0] 27)) = W0 at *
      generalize w.heap.size = B at *
      refine yc.mono ?_
      rintro e w1 ⟨rfl, hw1⟩
      have k1 := keepN hw1
      have y0 := k1.cell x0 (fun f => f)
      have y1 := k1.cell x1 (fun f => f)
      have y2 := k1.cell x2 (fun f => f)
      have y3 := k1.cell x3 (fun f => f)
      have K1 := kA.trans k1
      clear yc hw1 k1 kA x0 x1 x2 x3
      go_wp2
      go_ret
      exact ⟨by rw [← HD.out]; rfl, K1⟩
    have i6 : ((n : Int) == 0) = false := beq_eq_false_iff_ne.2 (by omega)
    have i7 : ¬ (n : Int) = 0 := by omega
    by_cases h4 : n ≤ vCount c a
    · have HD : Hid ((15 : Int) = r) := by show _ = r; rw [← hr]; exact (dot_15 (k := ⟨c, true, ⟨a, n⟩⟩) rfl h1 h2 h3 h4).symm
      have i8 : (n : Int) ≤ (vCount c a : Int) := by omega
      clear h1 h2 h3 h4 h0
      have kA : Keep0 w (w.alloc (.cells #[.slice ao c.length cap, .bool true, .string a, .int .u64 (n : Int)] 27)) := (Keep.refl _ w).alloc _
      obtain ⟨x0, x1, x2, x3⟩ : ClkAt (w.alloc (.cells #[.slice ao c.length cap, .bool true, .string a, .int .u64 (n : Int)] 27)) w.heap.size 0 ⟨c, true, ⟨a, n⟩⟩ ao cap := clk_new w 27 ⟨c, true, ⟨a, n⟩⟩ ao cap
      have yc := yz _ (hc.keep0 kA)
      have yq := fun (W : World) (K : Keep0 w W) (z : Nat) => Calls.of_same' (rcount10 (W.drewN z) ao cap c hv.1 (hc.keep0 (K.trans ((Keep.refl _ W).drewN z))) a)
      generalize (vCount c a : Int) = VC at *
      clear hr hc hv hm yz
      generalize c.length = CL at *
      go_enter Try.func35, Try.ntmps35
      go_wp2_with fail
      generalize (w.alloc (.cells #[.slice ao CL cap, .bool true, .string a, .int .u64 (n : Int)] 27)) = W0 at *
      generalize w.heap.size = B at *
      refine yc.mono ?_
      rintro e w1 ⟨rfl, hw1⟩
      have k1 := keepN hw1
      have y0 := k1.cell x0 (fun f => f)
      have y1 := k1.cell x1 (fun f => f)
      have y2 := k1.cell x2 (fun f => f)
      have y3 := k1.cell x3 (fun f => f)
      have K1 := kA.trans k1
      have yq := yq w1 K1
      clear yc hw1 k1 kA x0 x1 x2 x3
      go_wp2_with fail
      go_quiet ((go_at_call 68; exact yq _))
      go_wp2
      go_ret
      exact ⟨by rw [← HD.out]; rfl, K1.drewN _⟩
    · have HD : Hid ((0 : Int) = r) := by show _ = r; rw [← hr]; exact (dot_0 (k := ⟨c, true, ⟨a, n⟩⟩) rfl h1 h2 h3 h4).symm
      have i8 : ¬ (n : Int) ≤ (vCount c a : Int) := by omega
      have i8' : decide ((n : Int) ≤ (vCount c a : Int)) = false := decide_eq_false i8
      clear h1 h2 h3 h4 h0
      have kA : Keep0 w (w.alloc (.cells #[.slice ao c.length cap, .bool true, .string a, .int .u64 (n : Int)] 27)) := (Keep.refl _ w).alloc _
      obtain ⟨x0, x1, x2, x3⟩ : ClkAt (w.alloc (.cells #[.slice ao c.length cap, .bool true, .string a, .int .u64 (n : Int)] 27)) w.heap.size 0 ⟨c, true, ⟨a, n⟩⟩ ao cap := clk_new w 27 ⟨c, true, ⟨a, n⟩⟩ ao cap
      have yc := yz _ (hc.keep0 kA)
      have yq := fun (W : World) (K : Keep0 w W) (z : Nat) => Calls.of_same' (rcount10 (W.drewN z) ao cap c hv.1 (hc.keep0 (K.trans ((Keep.refl _ W).drewN z))) a)
      generalize (vCount c a : Int) = VC at *
      clear hr hc hv hm yz
      generalize c.length = CL at *
      go_enter Try.func35, Try.ntmps35
      go_wp2_with fail
      generalize (w.alloc (.cells #[.slice ao CL cap, .bool true, .string a, .int .u64 (n : Int)] 27)) = W0 at *
      generalize w.heap.size = B at *
      refine yc.mono ?_
      rintro e w1 ⟨rfl, hw1⟩
      have k1 := keepN hw1
      have y0 := k1.cell x0 (fun f => f)
      have y1 := k1.cell x1 (fun f => f)
      have y2 := k1.cell x2 (fun f => f)
      have y3 := k1.cell x3 (fun f => f)
      have K1 := kA.trans k1
      have yq := yq w1 K1
      clear yc hw1 k1 kA x0 x1 x2 x3
      go_wp2_with fail
      go_quiet ((go_at_call 68; exact yq _))
      go_wp2
      go_ret
      exact ⟨by rw [← HD.out]; rfl, K1.drewN _⟩
theorem rcheck12 (w : World) (ao : Option Addr) (cap : Nat) (k : Ck) (hf : FitsK k) (hc : EnsAt w ao k.c) :
    Calls Try.prog 35 #[.agg #[.slice ao k.c.length cap, .bool k.d, .string k.x.a, .int .u64 (k.x.n : Int)]] w fun e w' => e = .returned (.int .i64 (kCheck k)) ∧ Keep0 w w' :=
  rcheck12_any w ao cap k.c k.d k.x.a k.x.n hf.vec hf.dot hc
end Go.Proofs.Ytfpahdnhnhkcdaa
