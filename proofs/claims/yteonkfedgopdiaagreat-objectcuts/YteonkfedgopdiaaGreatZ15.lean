/-
  What this seat's claims lean on of the texts RefVcode2, RefDot, RefDcode, QBlk, QMem.
  Conditions: as each theorem states.
-/
import Derived.WalkKit
import Derived.ProofKit
import Derived.Below
import Derived.Deep.Draws
import Derived.Deep.RegionHeld
import Derived.Test.YteonkfedgopdiaaGreatChecked
import Derived.OpenShut
import Derived.ShutString
import Derived.WalkSpells
import Derived.WalkLawsBesides
import Derived.Deep.QuietTactic
import Derived.BigQuiet
import Derived.Laws.Bits64b
import Derived.PlainAid
import Derived.Lib.AppendStr
import Derived.Deep.AppendLies
import Derived.Laws.IdiomStrings
import Derived.Laws.BytesArg
import Derived.Deep.RegionWith
import Derived.Laws.AppendOwn
import Derived.Deep.DeepAppendWide
import Derived.Deep.Upon
import Derived.Test.YteonkfedgopdiaaGreatZ7
import Derived.Test.YteonkfedgopdiaaGreatZ14
import Derived.Test.YteonkfedgopdiaaGreatZ12
import Derived.Test.YteonkfedgopdiaaGreatZ13
import Derived.Laws.Rows
import Derived.Test.YteonkfedgopdiaaGreatZ10
namespace Go.Proofs.YteonkfedgopdiaaGreat
open Go.RowKit
set_option maxRecDepth 100000 in
set_option maxHeartbeats 4000000 in
theorem rput11 {w : World} {b : Nat} {t : ByteArray} {M x : Int} (h : RPen w b t M x) (ht : t.size ≤ 1000000000) (ao : Option Addr) (cap : Nat) (l : List En) (hf : Fits l) (hc : EnsAt w ao l) (hn : 0 < l.length → ApartE (fun k => k = b) ao) :
    Calls Tryz.prog 127 #[pptr b, .slice ao l.length cap] w fun e w' => e = .returned (.tuple #[]) ∧ RPen w' b (pVec M (t, x) l).1 M (pVec M (t, x) l).2 ∧ Keep1 b w w' := by
  have yc := rcheck10 w ao cap l hf hc
  have hl' : (l.length : Int) ≤ 9223372036854775807 := by have := hf.1; unfold maxLen at this; omega
  by_cases h0 : vCheck l = 0
  case neg =>
    rw [pVec_no h0]
    have e0 : (vCheck l != 0) = true := by simpa using h0
    have yf := fun W (h : RPen W b t M x) => rpfail_any (vCheck l) h
    clear h0
    generalize vCheck l = C at *
    go_enter Tryz.func127, Tryz.ntmps127
    go_wp2_with fail
    refine yc.mono ?_
    rintro e w1 ⟨rfl, hw1⟩
    have k1 := keepN hw1
    have yf := yf _ (h.keep0 k1)
    clear yc hw1
    go_wp2_with fail
    refine yf.mono ?_
    rintro e w2 ⟨rfl, h2, k2⟩
    have K2 : Keep1 b w w2 := (k1.any (R := fun k => k = b)).trans k2
    clear yf k2 k1
    go_wp2
    (try simp only [Exit.inBlock, Exit.then])
    refine bodyPost_ret (results_none rfl _ _ _) rfl ?_
    exact ⟨rfl, h2, K2⟩
  rw [h0] at yc
  obtain ⟨h64, hg⟩ := (check_zero l).1 h0
  rw [pVec_yes h0]
  have HC : Hid (EnsAt w ao l) := hc
  have HG : Hid (∀ y ∈ l, y.a.size ≤ 32 ∧ U64 y.n) := fun y hy => ⟨(hg.1 y hy).2.1, (hf.2 y hy).2⟩
  have HN : Hid (0 < l.length → ApartE (fun k => k = b) ao) := hn
  have yp := fun W (h : RPen W b t M x) => rput_any l.length (by omega) h (by omega)
  have hs1 := pOne_size M (t, x) (vText l.length)
  have hs2 := (vText_le (n := l.length) (by omega)).2
  have HT : Hid ((pOne M (t, x) (vText l.length)).1.size ≤ t.size + 10) := by show _ ≤ _; have : (t, x).1.size = t.size := rfl; omega
  have i0 : IntKind.u64.wrap (l.length : Int) = (l.length : Int) := by rw [IntKind.wrap_u64]; omega
  obtain ⟨P, hP⟩ : ∃ P, pOne M (t, x) (vText l.length) = P := ⟨_, rfl⟩
  rw [hP] at yp HT ⊢
  obtain ⟨R, hR⟩ : ∃ R, pEnts M P l = R := ⟨_, rfl⟩
  rw [hR]
  have HR : Hid (pEnts M P l = R) := hR
  clear hP hs1 hs2 hg hc hn h0 hR
  go_enter Tryz.func127, Tryz.ntmps127
  go_wp2_with fail
  refine yc.mono ?_
  rintro e w1 ⟨rfl, hw1⟩
  have k1 := keepN hw1
  have yp := yp _ (h.keep0 k1)
  clear yc hw1
  go_wp2_with fail
  refine yp.mono ?_
  rintro e w2 ⟨rfl, h2, k2⟩
  have K2 : Keep1 b w w2 := (k1.any (R := fun k => k = b)).trans k2
  clear yp k2 k1
  go_wp2_with fail
  go_loopw [5] (fun i wr => ∃ (k : Nat), i = .int .i64 (k : Int) ∧ k ≤ l.length ∧ RPen wr b (pEnts M P (l.take k)).1 M (pEnts M P (l.take k)).2 ∧ Keep1 b w wr) (fun i _ => l.length - (intOf i).toNat)
  case atStart => exact ⟨0, rfl, by omega, h2, K2⟩
  case round =>
    obtain ⟨k, rfl, hk, hp, hK⟩ := hrel
    clear h2 K2
    by_cases hlt : k < l.length
    · have i1 : (k : Int) < l.length := by omega
      have hap := HN.out (by omega)
      have hcr := HC.out.keep hK hap
      obtain ⟨bb, off, rfl, x0, x1⟩ := hcr k hlt
      have hbb : bb ≠ b := hap _ _ _ rfl
      obtain ⟨hy, hyn⟩ := HG.out l[k] (List.getElem_mem hlt)
      have hsz := pEnts_size M (l.take k) P (fun y hy => HG.out y (List.mem_of_mem_take hy))
      rw [List.length_take, Nat.min_eq_left (by omega)] at hsz
      have hT := HT.out
      have HS : Hid (pEnts M P (l.take (k + 1)) = pEnt M (pEnts M P (l.take k)) l[k]) := pEnts_take hlt
      have yb := rbput_any 32 (by decide) l[k].a hp (by omega)
      have hws := wPut_size M 32 (pEnts M P (l.take k)) l[k].a (by omega)
      have hE : ((pEnts M P (l.take k)).1, (pEnts M P (l.take k)).2) = pEnts M P (l.take k) := rfl
      rw [hE] at yb
      have yn := fun W (h : RPen W b (wPut M 32 (pEnts M P (l.take k)) l[k].a).1 M (wPut M 32 (pEnts M P (l.take k)) l[k].a).2) => rput_any l[k].n hyn h (by omega)
      have hE2 : ((wPut M 32 (pEnts M P (l.take k)) l[k].a).1, (wPut M 32 (pEnts M P (l.take k)) l[k].a).2) = wPut M 32 (pEnts M P (l.take k)) l[k].a := rfl
      rw [hE2] at yn
      have hE3 : pOne M (wPut M 32 (pEnts M P (l.take k)) l[k].a) (vText l[k].n) = pEnt M (pEnts M P (l.take k)) l[k] := rfl
      rw [hE3, ← HS.out] at yn
      obtain ⟨P2, hP2⟩ : ∃ P2, pEnts M P (l.take (k + 1)) = P2 := ⟨_, rfl⟩
      rw [hP2] at yn
      have HS2 : Hid (pEnts M P (l.take (k + 1)) = P2) := hP2
      clear hP2 HS hap
      generalize wPut M 32 (pEnts M P (l.take k)) l[k].a = P1 at *
      generalize pEnts M P (l.take k) = P0 at *
      generalize l[k].a = A at *
      generalize (l[k].n : Int) = NN at *
      clear hE hE2 hE3 hws hsz hT hcr hp hy hyn
      go_wp2_with fail
      refine yb.mono ?_
      rintro e w3 ⟨rfl, h3, k3⟩
      have y1 := k3.cell x1 hbb
      have K3 := hK.trans k3
      have yn := yn _ h3
      clear yb k3 hK x0 x1 h3
      go_wp2_with fail
      refine yn.mono ?_
      rintro e w4 ⟨rfl, h4, k4⟩
      have K4 := K3.trans k4
      clear yn k4 K3 y1
      go_wp2
      go_roundw
      case rel => exact ⟨k + 1, by go_num, by omega, by rw [HS2.out]; exact h4, K4⟩
      case measure => simp [intOf]; omega
    · have i1 : ¬ (k : Int) < l.length := by omega
      have ek : l.take k = l := List.take_of_length_le (by omega)
      rw [ek, HR.out] at hp
      go_wp2
      go_end0
      exact ⟨rfl, hp, hK⟩
theorem ens_old {w : World} {ao : Option Addr} {l : List En} (h : EnsAt w ao l) (hl : 0 < l.length) : ∀ g off m, ao = some ⟨g, off, m⟩ → g < w.heap.size := by
  intro g off m e
  obtain ⟨b, o, e', h1, _⟩ := h 0 hl
  rw [e] at e'
  cases e'
  exact World.block_lt_of_cell? w _ h1
end Go.Proofs.YteonkfedgopdiaaGreat
namespace Go.Proofs.YteonkfedgopdiaaGreat
open Go.RowKit
set_option maxRecDepth 100000 in
set_option maxHeartbeats 4000000 in
theorem rcheck12_any (w : World) (ao : Option Addr) (cap : Nat) (c : List En) (d : Bool) (a : ByteArray) (n : Nat) (hv : Fits c) (hm : a.size ≤ maxLen) (hc : EnsAt w ao c) :
    Calls Tryz.prog 72 #[.agg #[.slice ao c.length cap, .bool d, .string a, .int .u64 (n : Int)]] w fun e w' => e = .returned (.int .i64 (kCheck ⟨c, d, ⟨a, n⟩⟩)) ∧ Keep0 w w' := by
  have i2 : (a.size : Int) ≤ 9223372036854775807 := by unfold maxLen at hm; omega
  obtain ⟨r, hr⟩ : ∃ r, kCheck ⟨c, d, ⟨a, n⟩⟩ = r := ⟨_, rfl⟩
  rw [hr]
  by_cases h0 : vCheck c = 0
  case neg =>
    have HD : Hid (vCheck c = r) := by show _ = r; rw [← hr]; exact (check_bad (k := ⟨c, d, ⟨a, n⟩⟩) h0).symm
    have e0 : (vCheck c != 0) = true := by simpa using h0
    have e1 : ¬ vCheck c = 0 := h0
    clear h0
    have kA : Keep0 w (w.alloc (.cells #[.slice ao c.length cap, .bool d, .string a, .int .u64 (n : Int)] 41)) := (Keep.refl _ w).alloc _
    obtain ⟨x0, x1, x2, x3⟩ : ClkAt (w.alloc (.cells #[.slice ao c.length cap, .bool d, .string a, .int .u64 (n : Int)] 41)) w.heap.size 0 ⟨c, d, ⟨a, n⟩⟩ ao cap := clk_new w 41 ⟨c, d, ⟨a, n⟩⟩ ao cap
    have yc := rcheck10 _ ao cap c hv (hc.keep0 kA)
    generalize vCheck c = C at *
    clear hr hc hv hm
    generalize c.length = CL at *
    go_enter Tryz.func72, Tryz.ntmps72
    go_wp2_with fail
    generalize (w.alloc (.cells #[.slice ao CL cap, .bool d, .string a, .int .u64 (n : Int)] 41)) = W0 at *
    generalize w.heap.size = B at *
    refine yc.mono ?_
    rintro e w1 ⟨rfl, hw1⟩
    have k1 := keepN hw1
    have y0 := k1.cell x0 (fun f => f)
    have y1 := k1.cell x1 (fun f => f)
    have y2 := k1.cell x2 (fun f => f)
    have y3 := k1.cell x3 (fun f => f)
    have K1 := kA.trans k1
    clear yc hw1 k1 kA x0 x1 x2 x3
    go_wp2
    go_ret
    exact ⟨by rw [← HD.out]; rfl, K1⟩
  rw [check_dot (k := ⟨c, d, ⟨a, n⟩⟩) h0] at hr
  have yz : ∀ (W : World), EnsAt W ao c → Calls Tryz.prog 109 #[.slice ao c.length cap] W fun e w' => e = .returned (.int .i64 0) ∧ ∃ z, w' = W.drewN z := by
    intro W h
    rw [← h0]
    exact rcheck10 W ao cap c hv h
  cases d with
  | false =>
    by_cases h1 : a.size = 0
    · have ea := empty_eq12 h1
      by_cases h2 : n = 0
      · have HD : Hid ((0 : Int) = r) := by show _ = r; rw [← hr]; exact (dot_p0 (k := ⟨c, false, ⟨a, n⟩⟩) rfl h1 h2).symm
        subst ea h2
        clear h1 h0 i2
        have kA : Keep0 w (w.alloc (.cells #[.slice ao c.length cap, .bool false, .string ⟨#[]⟩, .int .u64 0] 41)) := (Keep.refl _ w).alloc _
        obtain ⟨x0, x1, x2, x3⟩ : ClkAt (w.alloc (.cells #[.slice ao c.length cap, .bool false, .string ⟨#[]⟩, .int .u64 0] 41)) w.heap.size 0 ⟨c, false, ⟨⟨#[]⟩, 0⟩⟩ ao cap := clk_new w 41 ⟨c, false, ⟨⟨#[]⟩, 0⟩⟩ ao cap
        have yc := yz _ (hc.keep0 kA)
        clear hr hc hv hm yz
        generalize c.length = CL at *
        go_enter Tryz.func72, Tryz.ntmps72
        go_wp2_with fail
        generalize (w.alloc (.cells #[.slice ao CL cap, .bool false, .string ⟨#[]⟩, .int .u64 0] 41)) = W0 at *
        generalize w.heap.size = B at *
        refine yc.mono ?_
        rintro e w1 ⟨rfl, hw1⟩
        have k1 := keepN hw1
        have y0 := k1.cell x0 (fun f => f)
        have y1 := k1.cell x1 (fun f => f)
        have y2 := k1.cell x2 (fun f => f)
        have y3 := k1.cell x3 (fun f => f)
        have K1 := kA.trans k1
        clear yc hw1 k1 kA x0 x1 x2 x3
        go_wp2
        go_ret
        exact ⟨by rw [← HD.out]; rfl, K1⟩
      · have HD : Hid ((1 : Int) = r) := by show _ = r; rw [← hr]; exact (dot_p1 (k := ⟨c, false, ⟨a, n⟩⟩) rfl (fun e => h2 e.2)).symm
        have j1 : ((n : Int) != 0) = true := by simp; omega
        have j2 : ¬ (n : Int) = 0 := by omega
        subst ea
        clear h1 h0 i2 h2
        have kA : Keep0 w (w.alloc (.cells #[.slice ao c.length cap, .bool false, .string ⟨#[]⟩, .int .u64 (n : Int)] 41)) := (Keep.refl _ w).alloc _
        obtain ⟨x0, x1, x2, x3⟩ : ClkAt (w.alloc (.cells #[.slice ao c.length cap, .bool false, .string ⟨#[]⟩, .int .u64 (n : Int)] 41)) w.heap.size 0 ⟨c, false, ⟨⟨#[]⟩, n⟩⟩ ao cap := clk_new w 41 ⟨c, false, ⟨⟨#[]⟩, n⟩⟩ ao cap
        have yc := yz _ (hc.keep0 kA)
        clear hr hc hv hm yz
        generalize c.length = CL at *
        go_enter Tryz.func72, Tryz.ntmps72
        go_wp2_with fail
        generalize (w.alloc (.cells #[.slice ao CL cap, .bool false, .string ⟨#[]⟩, .int .u64 (n : Int)] 41)) = W0 at *
        generalize w.heap.size = B at *
        refine yc.mono ?_
        rintro e w1 ⟨rfl, hw1⟩
        have k1 := keepN hw1
        have y0 := k1.cell x0 (fun f => f)
        have y1 := k1.cell x1 (fun f => f)
        have y2 := k1.cell x2 (fun f => f)
        have y3 := k1.cell x3 (fun f => f)
        have K1 := kA.trans k1
        clear yc hw1 k1 kA x0 x1 x2 x3
        go_wp2
        go_ret
        exact ⟨by rw [← HD.out]; rfl, K1⟩
    · have HD : Hid ((1 : Int) = r) := by show _ = r; rw [← hr]; exact (dot_p1 (k := ⟨c, false, ⟨a, n⟩⟩) rfl (fun e => h1 e.1)).symm
      have e1 := empty_ne12 h1
      clear h1 h0
      have kA : Keep0 w (w.alloc (.cells #[.slice ao c.length cap, .bool false, .string a, .int .u64 (n : Int)] 41)) := (Keep.refl _ w).alloc _
      obtain ⟨x0, x1, x2, x3⟩ : ClkAt (w.alloc (.cells #[.slice ao c.length cap, .bool false, .string a, .int .u64 (n : Int)] 41)) w.heap.size 0 ⟨c, false, ⟨a, n⟩⟩ ao cap := clk_new w 41 ⟨c, false, ⟨a, n⟩⟩ ao cap
      have yc := yz _ (hc.keep0 kA)
      clear hr hc hv hm yz
      generalize c.length = CL at *
      go_enter Tryz.func72, Tryz.ntmps72
      go_wp2_with fail
      generalize (w.alloc (.cells #[.slice ao CL cap, .bool false, .string a, .int .u64 (n : Int)] 41)) = W0 at *
      generalize w.heap.size = B at *
      refine yc.mono ?_
      rintro e w1 ⟨rfl, hw1⟩
      have k1 := keepN hw1
      have y0 := k1.cell x0 (fun f => f)
      have y1 := k1.cell x1 (fun f => f)
      have y2 := k1.cell x2 (fun f => f)
      have y3 := k1.cell x3 (fun f => f)
      have K1 := kA.trans k1
      clear yc hw1 k1 kA x0 x1 x2 x3
      go_wp2
      go_ret
      exact ⟨by rw [← HD.out]; rfl, K1⟩
  | true =>
    by_cases h1 : 32 < a.size
    · have HD : Hid ((3 : Int) = r) := by show _ = r; rw [← hr]; exact (dot_3 (k := ⟨c, true, ⟨a, n⟩⟩) rfl h1).symm
      have i3 : (32 : Int) < a.size := by omega
      clear h1 h0
      have kA : Keep0 w (w.alloc (.cells #[.slice ao c.length cap, .bool true, .string a, .int .u64 (n : Int)] 41)) := (Keep.refl _ w).alloc _
      obtain ⟨x0, x1, x2, x3⟩ : ClkAt (w.alloc (.cells #[.slice ao c.length cap, .bool true, .string a, .int .u64 (n : Int)] 41)) w.heap.size 0 ⟨c, true, ⟨a, n⟩⟩ ao cap := clk_new w 41 ⟨c, true, ⟨a, n⟩⟩ ao cap
      have yc := yz _ (hc.keep0 kA)
      clear hr hc hv hm yz
      generalize c.length = CL at *
      go_enter Tryz.func72, Tryz.ntmps72
      go_wp2_with fail
      generalize (w.alloc (.cells #[.slice ao CL cap, .bool true, .string a, .int .u64 (n : Int)] 41)) = W0 at *
      generalize w.heap.size = B at *
      refine yc.mono ?_
      rintro e w1 ⟨rfl, hw1⟩
      have k1 := keepN hw1
      have y0 := k1.cell x0 (fun f => f)
      have y1 := k1.cell x1 (fun f => f)
      have y2 := k1.cell x2 (fun f => f)
      have y3 := k1.cell x3 (fun f => f)
      have K1 := kA.trans k1
      clear yc hw1 k1 kA x0 x1 x2 x3
      go_wp2
      go_ret
      exact ⟨by rw [← HD.out]; rfl, K1⟩
    have i3 : ¬ (32 : Int) < a.size := by omega
    by_cases h2 : a.size = 0
    · have HD : Hid ((14 : Int) = r) := by show _ = r; rw [← hr]; exact (dot_14 (k := ⟨c, true, ⟨a, n⟩⟩) rfl h2).symm
      have i4 : (a.size : Int) = 0 := by omega
      clear h1 h2 h0
      have kA : Keep0 w (w.alloc (.cells #[.slice ao c.length cap, .bool true, .string a, .int .u64 (n : Int)] 41)) := (Keep.refl _ w).alloc _
      obtain ⟨x0, x1, x2, x3⟩ : ClkAt (w.alloc (.cells #[.slice ao c.length cap, .bool true, .string a, .int .u64 (n : Int)] 41)) w.heap.size 0 ⟨c, true, ⟨a, n⟩⟩ ao cap := clk_new w 41 ⟨c, true, ⟨a, n⟩⟩ ao cap
      have yc := yz _ (hc.keep0 kA)
      clear hr hc hv hm yz
      generalize c.length = CL at *
      go_enter Tryz.func72, Tryz.ntmps72
      go_wp2_with fail
      generalize (w.alloc (.cells #[.slice ao CL cap, .bool true, .string a, .int .u64 (n : Int)] 41)) = W0 at *
      generalize w.heap.size = B at *
      refine yc.mono ?_
      rintro e w1 ⟨rfl, hw1⟩
      have k1 := keepN hw1
      have y0 := k1.cell x0 (fun f => f)
      have y1 := k1.cell x1 (fun f => f)
      have y2 := k1.cell x2 (fun f => f)
      have y3 := k1.cell x3 (fun f => f)
      have K1 := kA.trans k1
      clear yc hw1 k1 kA x0 x1 x2 x3
      go_wp2
      go_ret
      exact ⟨by rw [← HD.out]; rfl, K1⟩
    have i4 : ((a.size : Int) == 0) = false := beq_eq_false_iff_ne.2 (by omega)
    have i5 : ¬ (a.size : Int) = 0 := by omega
    by_cases h3 : n = 0
    · have HD : Hid ((7 : Int) = r) := by show _ = r; rw [← hr]; exact (dot_7 (k := ⟨c, true, ⟨a, n⟩⟩) rfl h1 h2 h3).symm
      subst h3
      clear h1 h2 h0
      have kA : Keep0 w (w.alloc (.cells #[.slice ao c.length cap, .bool true, .string a, .int .u64 0] 41)) := (Keep.refl _ w).alloc _
      obtain ⟨x0, x1, x2, x3⟩ : ClkAt (w.alloc (.cells #[.slice ao c.length cap, .bool true, .string a, .int .u64 0] 41)) w.heap.size 0 ⟨c, true, ⟨a, 0⟩⟩ ao cap := clk_new w 41 ⟨c, true, ⟨a, 0⟩⟩ ao cap
      have yc := yz _ (hc.keep0 kA)
      clear hr hc hv hm yz
      generalize c.length = CL at *
      go_enter Tryz.func72, Tryz.ntmps72
      go_wp2_with fail
      generalize (w.alloc (.cells #[.slice ao CL cap, .bool true, .string a, .int .u64 0] 41)) = W0 at *
      generalize w.heap.size = B at *
      refine yc.mono ?_
      rintro e w1 ⟨rfl, hw1⟩
      have k1 := keepN hw1
      have y0 := k1.cell x0 (fun f => f)
      have y1 := k1.cell x1 (fun f => f)
      have y2 := k1.cell x2 (fun f => f)
      have y3 := k1.cell x3 (fun f => f)
      have K1 := kA.trans k1
      clear yc hw1 k1 kA x0 x1 x2 x3
      go_wp2
      go_ret
      exact ⟨by rw [← HD.out]; rfl, K1⟩
    have i6 : ((n : Int) == 0) = false := beq_eq_false_iff_ne.2 (by omega)
    have i7 : ¬ (n : Int) = 0 := by omega
    by_cases h4 : n ≤ vCount c a
    · have HD : Hid ((15 : Int) = r) := by show _ = r; rw [← hr]; exact (dot_15 (k := ⟨c, true, ⟨a, n⟩⟩) rfl h1 h2 h3 h4).symm
      have i8 : (n : Int) ≤ (vCount c a : Int) := by omega
      clear h1 h2 h3 h4 h0
      have kA : Keep0 w (w.alloc (.cells #[.slice ao c.length cap, .bool true, .string a, .int .u64 (n : Int)] 41)) := (Keep.refl _ w).alloc _
      obtain ⟨x0, x1, x2, x3⟩ : ClkAt (w.alloc (.cells #[.slice ao c.length cap, .bool true, .string a, .int .u64 (n : Int)] 41)) w.heap.size 0 ⟨c, true, ⟨a, n⟩⟩ ao cap := clk_new w 41 ⟨c, true, ⟨a, n⟩⟩ ao cap
      have yc := yz _ (hc.keep0 kA)
      have yq := fun (W : World) (K : Keep0 w W) (z : Nat) => Calls.of_same' (rcount10 (W.drewN z) ao cap c hv.1 (hc.keep0 (K.trans ((Keep.refl _ W).drewN z))) a)
      generalize (vCount c a : Int) = VC at *
      clear hr hc hv hm yz
      generalize c.length = CL at *
      go_enter Tryz.func72, Tryz.ntmps72
      go_wp2_with fail
      generalize (w.alloc (.cells #[.slice ao CL cap, .bool true, .string a, .int .u64 (n : Int)] 41)) = W0 at *
      generalize w.heap.size = B at *
      refine yc.mono ?_
      rintro e w1 ⟨rfl, hw1⟩
      have k1 := keepN hw1
      have y0 := k1.cell x0 (fun f => f)
      have y1 := k1.cell x1 (fun f => f)
      have y2 := k1.cell x2 (fun f => f)
      have y3 := k1.cell x3 (fun f => f)
      have K1 := kA.trans k1
      have yq := yq w1 K1
      clear yc hw1 k1 kA x0 x1 x2 x3
      go_wp2_with fail
      go_quiet ((go_at_call 110; exact yq _))
      go_wp2
      go_ret
      exact ⟨by rw [← HD.out]; rfl, K1.drewN _⟩
    · have HD : Hid ((0 : Int) = r) := by show _ = r; rw [← hr]; exact (dot_0 (k := ⟨c, true, ⟨a, n⟩⟩) rfl h1 h2 h3 h4).symm
      have i8 : ¬ (n : Int) ≤ (vCount c a : Int) := by omega
      have i8' : decide ((n : Int) ≤ (vCount c a : Int)) = false := decide_eq_false i8
      clear h1 h2 h3 h4 h0
      have kA : Keep0 w (w.alloc (.cells #[.slice ao c.length cap, .bool true, .string a, .int .u64 (n : Int)] 41)) := (Keep.refl _ w).alloc _
      obtain ⟨x0, x1, x2, x3⟩ : ClkAt (w.alloc (.cells #[.slice ao c.length cap, .bool true, .string a, .int .u64 (n : Int)] 41)) w.heap.size 0 ⟨c, true, ⟨a, n⟩⟩ ao cap := clk_new w 41 ⟨c, true, ⟨a, n⟩⟩ ao cap
      have yc := yz _ (hc.keep0 kA)
      have yq := fun (W : World) (K : Keep0 w W) (z : Nat) => Calls.of_same' (rcount10 (W.drewN z) ao cap c hv.1 (hc.keep0 (K.trans ((Keep.refl _ W).drewN z))) a)
      generalize (vCount c a : Int) = VC at *
      clear hr hc hv hm yz
      generalize c.length = CL at *
      go_enter Tryz.func72, Tryz.ntmps72
      go_wp2_with fail
      generalize (w.alloc (.cells #[.slice ao CL cap, .bool true, .string a, .int .u64 (n : Int)] 41)) = W0 at *
      generalize w.heap.size = B at *
      refine yc.mono ?_
      rintro e w1 ⟨rfl, hw1⟩
      have k1 := keepN hw1
      have y0 := k1.cell x0 (fun f => f)
      have y1 := k1.cell x1 (fun f => f)
      have y2 := k1.cell x2 (fun f => f)
      have y3 := k1.cell x3 (fun f => f)
      have K1 := kA.trans k1
      have yq := yq w1 K1
      clear yc hw1 k1 kA x0 x1 x2 x3
      go_wp2_with fail
      go_quiet ((go_at_call 110; exact yq _))
      go_wp2
      go_ret
      exact ⟨by rw [← HD.out]; rfl, K1.drewN _⟩
theorem rcheck12 (w : World) (ao : Option Addr) (cap : Nat) (k : Ck) (hf : FitsK k) (hc : EnsAt w ao k.c) :
    Calls Tryz.prog 72 #[.agg #[.slice ao k.c.length cap, .bool k.d, .string k.x.a, .int .u64 (k.x.n : Int)]] w fun e w' => e = .returned (.int .i64 (kCheck k)) ∧ Keep0 w w' :=
  rcheck12_any w ao cap k.c k.d k.x.a k.x.n hf.vec hf.dot hc
end Go.Proofs.YteonkfedgopdiaaGreat
namespace Go.Proofs.YteonkfedgopdiaaGreat
open Go.RowKit
set_option maxRecDepth 100000 in
set_option maxHeartbeats 4000000 in
theorem rput13_any {w : World} {b : Nat} {t : ByteArray} {M x : Int} (h : RPen w b t M x) (ht : t.size ≤ 900000000) (ao : Option Addr) (cap : Nat) (c : List En) (d : Bool) (a : ByteArray) (n : Nat) (hv : Fits c) (hm : a.size ≤ maxLen) (hn : U64 n) (hc : EnsAt w ao c) (hap : 0 < c.length → ApartE (fun k => k = b) ao) :
    Calls Tryz.prog 98 #[pptr b, .agg #[.slice ao c.length cap, .bool d, .string a, .int .u64 (n : Int)]] w fun e w' => e = .returned (.tuple #[]) ∧ RPen w' b (pClk M (t, x) ⟨c, d, ⟨a, n⟩⟩).1 M (pClk M (t, x) ⟨c, d, ⟨a, n⟩⟩).2 ∧ Keep1 b w w' := by
  have hbl := h.lt
  have kA : Keep0 w (w.alloc (.cells #[.slice ao c.length cap, .bool d, .string a, .int .u64 (n : Int)] 41)) := (Keep.refl _ w).alloc _
  have hX := clk_new w 41 ⟨c, d, ⟨a, n⟩⟩ ao cap
  have hP0 := h.keep0 kA
  have hE0 := hc.keep0 kA
  have yc := rcheck12_any _ ao cap c d a n hv hm hE0
  by_cases h0 : kCheck ⟨c, d, ⟨a, n⟩⟩ = 0
  case neg =>
    rw [pClk_no h0]
    have e0 : (kCheck ⟨c, d, ⟨a, n⟩⟩ != 0) = true := by simpa using h0
    have yf := fun W (h : RPen W b t M x) => rpfail_any (kCheck ⟨c, d, ⟨a, n⟩⟩) h
    clear h0 hX hE0
    generalize kCheck ⟨c, d, ⟨a, n⟩⟩ = C at *
    go_enter Tryz.func98, Tryz.ntmps98
    go_wp2_with fail
    generalize (w.alloc (.cells #[.slice ao c.length cap, .bool d, .string a, .int .u64 (n : Int)] 41)) = W0 at *
    generalize w.heap.size = g at *
    refine yc.mono ?_
    rintro e w1 ⟨rfl, k1⟩
    have yf := yf _ (hP0.keep0 k1)
    have K1 := kA.trans k1
    clear yc k1 kA hP0
    go_wp2_with fail
    refine yf.mono ?_
    rintro e w2 ⟨rfl, h2, k2⟩
    have K2 : Keep1 b w w2 := (K1.any (R := fun k => k = b)).trans k2
    clear yf k2 K1
    go_wp2
    (try simp only [Exit.inBlock, Exit.then])
    refine bodyPost_ret (results_none rfl _ _ _) rfl ?_
    exact ⟨rfl, h2, K2⟩
  rw [h0] at yc
  rw [pClk_yes h0]
  have hR := (right_iff _).1 h0
  have hvs := pVec_size M (t, x) (fun y hy => (hv.2 y hy).2)
  have hts : (t, x).1.size = t.size := rfl
  have yv := fun W (h : RPen W b t M x) (hc : EnsAt W ao c) => rput11 h (by omega) ao cap c hv hc hap
  have yg := fun W (h : RPen W b (pVec M (t, x) c).1 M (pVec M (t, x) c).2) => rpflag_any d h (by omega)
  have hE1 : ((pVec M (t, x) c).1, (pVec M (t, x) c).2) = pVec M (t, x) c := rfl
  rw [hE1] at yg
  have hfs := wFlag_size M (pVec M (t, x) c) d
  have hcd : ((⟨c, d, ⟨a, n⟩⟩ : Ck).c) = c := rfl
  have hdd : ((⟨c, d, ⟨a, n⟩⟩ : Ck).d) = d := rfl
  have hxd : ((⟨c, d, ⟨a, n⟩⟩ : Ck).x) = ⟨a, n⟩ := rfl
  rw [hcd, hdd, hxd]
  cases d with
  | false =>
    rw [pTail_no]
    generalize wFlag M (pVec M (t, x) c) false = P2 at *
    generalize pVec M (t, x) c = P1 at *
    clear h0 hR hvs hts hfs hE1 hcd hdd hxd
    obtain ⟨x0, x1, x2, x3⟩ := hX
    go_enter Tryz.func98, Tryz.ntmps98
    go_wp2_with fail
    generalize (w.alloc (.cells #[.slice ao c.length cap, .bool false, .string a, .int .u64 (n : Int)] 41)) = W0 at *
    generalize hg : w.heap.size = g at *
    have hgb : g ≠ b := by omega
    refine yc.mono ?_
    rintro e w1 ⟨rfl, k1⟩
    have yv := yv _ (hP0.keep0 k1) (hE0.keep0 k1)
    have K1 := kA.trans k1
    have y0 := k1.cell x0 (fun f => f)
    have y1 := k1.cell x1 (fun f => f)
    clear yc k1 kA hP0 hE0 x0 x1 x2 x3
    go_wp2_with fail
    refine yv.mono ?_
    rintro e w2 ⟨rfl, h2, k2⟩
    have K2 : Keep1 b w w2 := (K1.any (R := fun k => k = b)).trans k2
    have z1 := k2.cell y1 hgb
    have yg := yg _ h2
    clear yv k2 K1 h2 y0 y1
    go_wp2_with fail
    refine yg.mono ?_
    rintro e w3 ⟨rfl, h3, k3⟩
    have K3 := K2.trans k3
    have z1 := k3.cell z1 hgb
    clear yg k3 K2
    go_wp2
    go_end0
    exact ⟨rfl, h3, K3⟩
  | true =>
    have hda := (hR.dot rfl).1.2.1
    have hda : a.size ≤ 32 := hda
    rw [pTail_yes]
    have hE2 : ∀ P : ByteArray × Int, pEnt M P ⟨a, n⟩ = pOne M (wPut M 32 P a) (vText n) := fun _ => rfl
    rw [hE2]
    obtain ⟨P2, hP2⟩ : ∃ P2, wFlag M (pVec M (t, x) c) true = P2 := ⟨_, rfl⟩
    rw [hP2] at yg hfs ⊢
    have yb := fun W (h : RPen W b P2.1 M P2.2) => rbput_any 32 (by decide) a h (by omega)
    have hws := wPut_size M 32 P2 a (by omega)
    have hE3 : (P2.1, P2.2) = P2 := rfl
    rw [hE3] at yb
    obtain ⟨P3, hP3⟩ : ∃ P3, wPut M 32 P2 a = P3 := ⟨_, rfl⟩
    rw [hP3] at yb hws ⊢
    have yn := fun W (h : RPen W b P3.1 M P3.2) => rput_any n hn h (by omega)
    have hE4 : (P3.1, P3.2) = P3 := rfl
    rw [hE4] at yn
    generalize pOne M P3 (vText n) = P4 at *
    generalize pVec M (t, x) c = P1 at *
    clear h0 hR hvs hts hfs hE1 hE2 hE3 hE4 hws hP2 hP3 hda hcd hdd hxd
    obtain ⟨x0, x1, x2, x3⟩ := hX
    go_enter Tryz.func98, Tryz.ntmps98
    go_wp2_with fail
    generalize (w.alloc (.cells #[.slice ao c.length cap, .bool true, .string a, .int .u64 (n : Int)] 41)) = W0 at *
    generalize hg : w.heap.size = g at *
    have hgb : g ≠ b := by omega
    refine yc.mono ?_
    rintro e w1 ⟨rfl, k1⟩
    have yv := yv _ (hP0.keep0 k1) (hE0.keep0 k1)
    have K1 := kA.trans k1
    have y0 := k1.cell x0 (fun f => f)
    have y1 := k1.cell x1 (fun f => f)
    have y2 := k1.cell x2 (fun f => f)
    have y3 := k1.cell x3 (fun f => f)
    clear yc k1 kA hP0 hE0 x0 x1 x2 x3
    go_wp2_with fail
    refine yv.mono ?_
    rintro e w2 ⟨rfl, h2, k2⟩
    have K2 : Keep1 b w w2 := (K1.any (R := fun k => k = b)).trans k2
    replace y1 := k2.cell y1 hgb
    replace y2 := k2.cell y2 hgb
    replace y3 := k2.cell y3 hgb
    have yg := yg _ h2
    clear yv k2 K1 h2 y0
    go_wp2_with fail
    refine yg.mono ?_
    rintro e w3 ⟨rfl, h3, k3⟩
    have K3 := K2.trans k3
    replace y1 := k3.cell y1 hgb
    replace y2 := k3.cell y2 hgb
    replace y3 := k3.cell y3 hgb
    have yb := yb _ h3
    clear yg k3 K2 h3
    go_wp2_with fail
    refine yb.mono ?_
    rintro e w4 ⟨rfl, h4, k4⟩
    have K4 := K3.trans k4
    replace y3 := k4.cell y3 hgb
    have yn := yn _ h4
    clear yb k4 K3 h4 y1 y2
    go_wp2_with fail
    refine yn.mono ?_
    rintro e w5 ⟨rfl, h5, k5⟩
    have K5 := K4.trans k5
    clear yn k5 K4
    go_wp2
    go_end0
    exact ⟨rfl, h5, K5⟩
theorem rput13 {w : World} {b : Nat} {t : ByteArray} {M x : Int} (h : RPen w b t M x) (ht : t.size ≤ 900000000) (ao : Option Addr) (cap : Nat) (k : Ck) (hf : FitsK k) (hc : EnsAt w ao k.c) (hap : 0 < k.c.length → ApartE (fun i => i = b) ao) :
    Calls Tryz.prog 98 #[pptr b, .agg #[.slice ao k.c.length cap, .bool k.d, .string k.x.a, .int .u64 (k.x.n : Int)]] w fun e w' => e = .returned (.tuple #[]) ∧ RPen w' b (pClk M (t, x) k).1 M (pClk M (t, x) k).2 ∧ Keep1 b w w' :=
  rput13_any h ht ao cap k.c k.d k.x.a k.x.n hf.vec hf.dot hf.num hc hap
set_option maxRecDepth 100000 in
theorem rencode13 (w : World) (ao : Option Addr) (cap : Nat) (k : Ck) (hf : FitsK k) (hc : EnsAt w ao k.c) :
    Calls Tryz.prog 74 #[.agg #[.slice ao k.c.length cap, .bool k.d, .string k.x.a, .int .u64 (k.x.n : Int)]] w fun e w' => e = .returned (.tuple #[.string (encK k).1, .int .i64 (encK k).2]) ∧ Keep0 w w' := by
  have he := encK_pen (fun x hx => (hf.vec.2 x hx).2) hf.num
  have yn := fun W => rpnew_any W 65536
  have hpm : pMax 65536 = 65536 := rfl
  rw [hpm] at yn
  have yp := fun (W : World) (g : Nat) (h : RPen W g ⟨#[]⟩ 65536 0) (hc' : EnsAt W ao k.c) (hg : w.heap.size ≤ g) => rput13 h (by decide) ao cap k hf hc' (fun hl g' off m e hh => by have := ens_old hc hl g' off m e; omega)
  have ye := fun (W : World) (g : Nat) (h : RPen W g (pClk 65536 (⟨#[]⟩, 0) k).1 65536 (pClk 65536 (⟨#[]⟩, 0) k).2) => rpend_any h
  have e1 : (encK k).1 = pEnd (pClk 65536 (⟨#[]⟩, 0) k).1 (pClk 65536 (⟨#[]⟩, 0) k).2 := by rw [← he]
  have e2 : (encK k).2 = (pClk 65536 (⟨#[]⟩, 0) k).2 := by rw [← he]
  rw [e1, e2]
  have kA : Keep0 w (w.alloc (.cells #[.slice ao k.c.length cap, .bool k.d, .string k.x.a, .int .u64 (k.x.n : Int)] 41)) := (Keep.refl _ w).alloc _
  have hX := clk_new w 41 k ao cap
  have hz : w.heap.size < (w.alloc (.cells #[.slice ao k.c.length cap, .bool k.d, .string k.x.a, .int .u64 (k.x.n : Int)] 41)).heap.size := by rw [World.size_alloc]; omega
  have yn := yn (w.alloc (.cells #[.slice ao k.c.length cap, .bool k.d, .string k.x.a, .int .u64 (k.x.n : Int)] 41))
  generalize pClk 65536 (⟨#[]⟩, 0) k = P at *
  generalize pEnd P.1 P.2 = PE at *
  generalize P.2 = P2 at *
  generalize P.1 = P1 at *
  clear he e1 e2 hpm
  go_enter Tryz.func74, Tryz.ntmps74
  go_wp2_with fail
  generalize (w.alloc (.cells #[.slice ao k.c.length cap, .bool k.d, .string k.x.a, .int .u64 (k.x.n : Int)] 41)) = W0 at *
  generalize hg : w.heap.size = g at *
  refine yn.mono ?_
  rintro e w1 ⟨rfl, h1, k1⟩
  have K1 := kA.trans k1
  obtain ⟨x0, x1, x2, x3⟩ := hX.keep0 k1
  have yp := yp _ _ h1 (hc.keep0 K1) (by omega)
  clear yn hX
  go_wp2_with fail
  refine yp.mono ?_
  rintro e w2 ⟨rfl, h2, k2⟩
  have K2 : Keep0 w w2 := K1.step k2 (fun i hi hh => by omega)
  have ye := ye _ _ h2
  clear yp k1 k2 h1 h2 kA K1 x0 x1 x2 x3
  go_wp2_with fail
  refine ye.mono ?_
  rintro e w3 ⟨rfl, hw3⟩
  have K3 := K2.trans (keepN hw3)
  clear ye hw3 K2
  go_wp2
  go_ret2
  exact ⟨rfl, K3⟩
end Go.Proofs.YteonkfedgopdiaaGreat
namespace Go.Proofs.YteonkfedgopdiaaGreat
open Go.RowKit
structure QAt (w : World) (g : Nat) (v0 v1 v2 v3 : Value) : Prop where
  blk : ∃ ty, w.heap[g]? = some (.cells #[v0, v1, v2, v3] ty)
section
variable {w : World} {g : Nat} {v0 v1 v2 v3 : Value}
theorem QAt.lt (h : QAt w g v0 v1 v2 v3) : g < w.heap.size := by
  obtain ⟨ty, hk⟩ := h.blk
  exact (Array.getElem?_eq_some_iff.mp hk).1
theorem QAt.cells (h : QAt w g v0 v1 v2 v3) : w.cell? ⟨g, 0, none⟩ = some v0 ∧ w.cell? ⟨g, 1, none⟩ = some v1 ∧ w.cell? ⟨g, 2, none⟩ = some v2 ∧ w.cell? ⟨g, 3, none⟩ = some v3 ∧ w.frozen? ⟨g, 0, none⟩ = false ∧ w.frozen? ⟨g, 1, none⟩ = false ∧ w.frozen? ⟨g, 2, none⟩ = false ∧ w.frozen? ⟨g, 3, none⟩ = false := by
  obtain ⟨ty, hk⟩ := h.blk
  simp [World.cell?, World.frozen?, hk]
theorem QAt.keep {R : Nat → Prop} {w' : World} (h : QAt w g v0 v1 v2 v3) (K : Keep R w w') (hn : ¬ R g) : QAt w' g v0 v1 v2 v3 := by
  obtain ⟨ty, hk⟩ := h.blk
  exact ⟨ty, by rw [K.block g h.lt hn]; exact hk⟩
theorem QAt.keep0 {w' : World} (h : QAt w g v0 v1 v2 v3) (K : Keep0 w w') : QAt w' g v0 v1 v2 v3 := h.keep K (fun f => f)
theorem QAt.new (w : World) (ty : TypeId) (v0 v1 v2 v3 : Value) : QAt (w.alloc (.cells #[v0, v1, v2, v3] ty)) w.heap.size v0 v1 v2 v3 := ⟨ty, (MapKept.heap_alloc w _).1⟩
theorem QAt.set0 (h : QAt w g v0 v1 v2 v3) (u : Value) : QAt (w.setCell ⟨g, 0, none⟩ u) g u v1 v2 v3 := by
  obtain ⟨ty, hk⟩ := h.blk
  exact ⟨ty, by rw [heap_setCell_at hk]; rfl⟩
theorem QAt.set1 (h : QAt w g v0 v1 v2 v3) (u : Value) : QAt (w.setCell ⟨g, 1, none⟩ u) g v0 u v2 v3 := by
  obtain ⟨ty, hk⟩ := h.blk
  exact ⟨ty, by rw [heap_setCell_at hk]; rfl⟩
theorem QAt.set2 (h : QAt w g v0 v1 v2 v3) (u : Value) : QAt (w.setCell ⟨g, 2, none⟩ u) g v0 v1 u v3 := by
  obtain ⟨ty, hk⟩ := h.blk
  exact ⟨ty, by rw [heap_setCell_at hk]; rfl⟩
theorem QAt.set3 (h : QAt w g v0 v1 v2 v3) (u : Value) : QAt (w.setCell ⟨g, 3, none⟩ u) g v0 v1 v2 u := by
  obtain ⟨ty, hk⟩ := h.blk
  exact ⟨ty, by rw [heap_setCell_at hk]; rfl⟩
theorem QAt.put (h : QAt w g v0 v1 v2 v3) (u0 u1 u2 u3 : Value) : QAt ((((w.setCell ⟨g, 0, none⟩ u0).setCell ⟨g, 1, none⟩ u1).setCell ⟨g, 2, none⟩ u2).setCell ⟨g, 3, none⟩ u3) g u0 u1 u2 u3 := (((h.set0 u0).set1 u1).set2 u2).set3 u3
end
theorem put4_keep (w : World) (g : Nat) (u0 u1 u2 u3 : Value) : Keep1 g w ((((w.setCell ⟨g, 0, none⟩ u0).setCell ⟨g, 1, none⟩ u1).setCell ⟨g, 2, none⟩ u2).setCell ⟨g, 3, none⟩ u3) :=
  ((((Keep.refl _ w).set1 _ _).set1 _ _).set1 _ _).set1 _ _
theorem set_keep1 (w : World) (g i : Nat) (u : Value) : Keep1 g w (w.setCell ⟨g, i, none⟩ u) := (Keep.refl _ w).set1 _ _
end Go.Proofs.YteonkfedgopdiaaGreat
namespace Go.Proofs.YteonkfedgopdiaaGreat
open Go.RowKit
theorem retCk {fn : Func} {p : Tmp} (h : fn.results = #[.cell p 41]) (tmps : Array Value) (w : World) (g : Nat) {v0 v1 v2 v3 : Value}
    (hp : tmps.getD p undef = .pointer (some ⟨g, 0, none⟩)) (hg : QAt w g v0 v1 v2 v3) : (results fn tmps).run Tryz.prog w = .ok (.agg #[v0, v1, v2, v3]) w := by
  obtain ⟨ty, hk⟩ := hg.blk
  exact results_cell_row h tmps w g ty _ _ _ hp hk Tryz.underlying41 rfl (by kernel_rfl)
end Go.Proofs.YteonkfedgopdiaaGreat
