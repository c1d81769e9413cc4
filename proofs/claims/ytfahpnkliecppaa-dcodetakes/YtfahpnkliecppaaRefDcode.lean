/-
  Contracts of the document's own Put and Encode of dotted clocks, each proved over this seat's translation.
  Conditions: the pen's text takes at most 900,000,000 bytes; a vector has at most the greatest length that a slice may have.
-/
import Derived.Test.YtfahpnkliecppaaDcode
import Derived.Test.YtfahpnkliecppaaRefVcode2
import Derived.Test.YtfahpnkliecppaaRefDot
namespace Go.Proofs.Ytfahpnkliecppaa
open Go.RowKit

set_option maxRecDepth 100000 in
set_option maxHeartbeats 4000000 in
theorem rput13_any {w : World} {b : Nat} {t : ByteArray} {M x : Int} (h : RPen w b t M x) (ht : t.size ≤ 900000000) (ao : Option Addr) (cap : Nat) (c : List En) (d : Bool) (a : ByteArray) (n : Nat) (hv : Fits c) (hm : a.size ≤ maxLen) (hn : U64 n) (hc : EnsAt w ao c) (hap : 0 < c.length → ApartE (fun k => k = b) ao) :
    Calls Try.prog 24 #[pptr b, .agg #[.slice ao c.length cap, .bool d, .string a, .int .u64 (n : Int)]] w fun e w' => e = .returned (.tuple #[]) ∧ RPen w' b (pClk M (t, x) ⟨c, d, ⟨a, n⟩⟩).1 M (pClk M (t, x) ⟨c, d, ⟨a, n⟩⟩).2 ∧ Keep1 b w w' := by
  have hbl := h.lt
  have kA : Keep0 w (w.alloc (.cells #[.slice ao c.length cap, .bool d, .string a, .int .u64 (n : Int)] 27)) := (Keep.refl _ w).alloc _
  have hX := clk_new w 27 ⟨c, d, ⟨a, n⟩⟩ ao cap
  have hP0 := h.keep0 kA
  have hE0 := hc.keep0 kA
  have yc := rcheck12_any _ ao cap c d a n hv hm hE0
  by_cases h0 : kCheck ⟨c, d, ⟨a, n⟩⟩ = 0
  case neg =>
    rw [pClk_no h0]
    have e0 : (kCheck ⟨c, d, ⟨a, n⟩⟩ != 0) = true := by simpa using h0
    have yf := fun W (h : RPen W b t M x) => rpfail_any (kCheck ⟨c, d, ⟨a, n⟩⟩) h
    clear h0 hX hE0
    generalize kCheck ⟨c, d, ⟨a, n⟩⟩ = C at *
    go_enter Try.func24, Try.ntmps24
    go_wp2_with fail
    generalize (w.alloc (.cells #[.slice ao c.length cap, .bool d, .string a, .int .u64 (n : Int)] 27)) = W0 at *
    generalize w.heap.size = g at *
    refine yc.mono ?_
    rintro e w1 ⟨rfl, k1⟩
    have yf := yf _ (hP0.keep0 k1)
    have K1 := kA.trans k1
    clear yc k1 kA hP0
    go_wp2_with fail
    refine yf.mono ?_
    rintro e w2 ⟨rfl, h2, k2⟩
    have K2 : Keep1 b w w2 := (K1.any (R := fun k => k = b)).trans k2
    clear yf k2 K1
    go_wp2
    (try simp only [Exit.inBlock, Exit.then])
    refine bodyPost_ret (results_none rfl _ _ _) rfl ?_
    exact ⟨rfl, h2, K2⟩
  rw [h0] at yc
  rw [pClk_yes h0]
  have hR := (right_iff _).1 h0
  have hvs := pVec_size M (t, x) (fun y hy => (hv.2 y hy).2)
  have hts : (t, x).1.size = t.size := rfl
  have yv := fun W (h : RPen W b t M x) (hc : EnsAt W ao c) => rput11 h (by omega) ao cap c hv hc hap
  have yg := fun W (h : RPen W b (pVec M (t, x) c).1 M (pVec M (t, x) c).2) => rpflag_any d h (by omega)
  have hE1 : ((pVec M (t, x) c).1, (pVec M (t, x) c).2) = pVec M (t, x) c := rfl
  rw [hE1] at yg
  have hfs := wFlag_size M (pVec M (t, x) c) d
  have hcd : ((⟨c, d, ⟨a, n⟩⟩ : Ck).c) = c := rfl
  have hdd : ((⟨c, d, ⟨a, n⟩⟩ : Ck).d) = d := rfl
  have hxd : ((⟨c, d, ⟨a, n⟩⟩ : Ck).x) = ⟨a, n⟩ := rfl
  rw [hcd, hdd, hxd]
  cases d with
  | false =>
    rw [pTail_no]
    generalize wFlag M (pVec M (t, x) c) false = P2 at *
    generalize pVec M (t, x) c = P1 at *
    clear h0 hR hvs hts hfs hE1 hcd hdd hxd
    obtain ⟨x0, x1, x2, x3⟩ := hX
    go_enter Try.func24, Try.ntmps24
    go_wp2_with fail
    generalize (w.alloc (.cells #[.slice ao c.length cap, .bool false, .string a, .int .u64 (n : Int)] 27)) = W0 at *
    generalize hg : w.heap.size = g at *
    have hgb : g ≠ b := by omega
    refine yc.mono ?_
    rintro e w1 ⟨rfl, k1⟩
    have yv := yv _ (hP0.keep0 k1) (hE0.keep0 k1)
    have K1 := kA.trans k1
    have y0 := k1.cell x0 (fun f => f)
    have y1 := k1.cell x1 (fun f => f)
    clear yc k1 kA hP0 hE0 x0 x1 x2 x3
    go_wp2_with fail
    refine yv.mono ?_
    rintro e w2 ⟨rfl, h2, k2⟩
    have K2 : Keep1 b w w2 := (K1.any (R := fun k => k = b)).trans k2
    have z1 := k2.cell y1 hgb
    have yg := yg _ h2
    clear yv k2 K1 h2 y0 y1
    go_wp2_with fail
    refine yg.mono ?_
    rintro e w3 ⟨rfl, h3, k3⟩
    have K3 := K2.trans k3
    have z1 := k3.cell z1 hgb
    clear yg k3 K2
    go_wp2
    go_end0
    exact ⟨rfl, h3, K3⟩
  | true =>
    have hda := (hR.dot rfl).1.2.1
    have hda : a.size ≤ 32 := hda
    rw [pTail_yes]
    have hE2 : ∀ P : ByteArray × Int, pEnt M P ⟨a, n⟩ = pOne M (wPut M 32 P a) (vText n) := fun _ => rfl
    rw [hE2]
    obtain ⟨P2, hP2⟩ : ∃ P2, wFlag M (pVec M (t, x) c) true = P2 := ⟨_, rfl⟩
    rw [hP2] at yg hfs ⊢
    have yb := fun W (h : RPen W b P2.1 M P2.2) => rbput_any 32 (by decide) a h (by omega)
    have hws := wPut_size M 32 P2 a (by omega)
    have hE3 : (P2.1, P2.2) = P2 := rfl
    rw [hE3] at yb
    obtain ⟨P3, hP3⟩ : ∃ P3, wPut M 32 P2 a = P3 := ⟨_, rfl⟩
    rw [hP3] at yb hws ⊢
    have yn := fun W (h : RPen W b P3.1 M P3.2) => rput_any n hn h (by omega)
    have hE4 : (P3.1, P3.2) = P3 := rfl
    rw [hE4] at yn
    generalize pOne M P3 (vText n) = P4 at *
    generalize pVec M (t, x) c = P1 at *
    clear h0 hR hvs hts hfs hE1 hE2 hE3 hE4 hws hP2 hP3 hda hcd hdd hxd
    obtain ⟨x0, x1, x2, x3⟩ := hX
    go_enter Try.func24, Try.ntmps24
    go_wp2_with fail
    generalize (w.alloc (.cells #[.slice ao c.length cap, .bool true, .string a, .int .u64 (n : Int)] 27)) = W0 at *
    generalize hg : w.heap.size = g at *
    have hgb : g ≠ b := by omega
    refine yc.mono ?_
    rintro e w1 ⟨rfl, k1⟩
    have yv := yv _ (hP0.keep0 k1) (hE0.keep0 k1)
    have K1 := kA.trans k1
    have y0 := k1.cell x0 (fun f => f)
    have y1 := k1.cell x1 (fun f => f)
    have y2 := k1.cell x2 (fun f => f)
    have y3 := k1.cell x3 (fun f => f)
    clear yc k1 kA hP0 hE0 x0 x1 x2 x3
    go_wp2_with fail
    refine yv.mono ?_
    rintro e w2 ⟨rfl, h2, k2⟩
    have K2 : Keep1 b w w2 := (K1.any (R := fun k => k = b)).trans k2
    replace y1 := k2.cell y1 hgb
    replace y2 := k2.cell y2 hgb
    replace y3 := k2.cell y3 hgb
    have yg := yg _ h2
    clear yv k2 K1 h2 y0
    go_wp2_with fail
    refine yg.mono ?_
    rintro e w3 ⟨rfl, h3, k3⟩
    have K3 := K2.trans k3
    replace y1 := k3.cell y1 hgb
    replace y2 := k3.cell y2 hgb
    replace y3 := k3.cell y3 hgb
    have yb := yb _ h3
    clear yg k3 K2 h3
    go_wp2_with fail
    refine yb.mono ?_
    rintro e w4 ⟨rfl, h4, k4⟩
    have K4 := K3.trans k4
    replace y3 := k4.cell y3 hgb
    have yn := yn _ h4
    clear yb k4 K3 h4 y1 y2
    go_wp2_with fail
    refine yn.mono ?_
    rintro e w5 ⟨rfl, h5, k5⟩
    have K5 := K4.trans k5
    clear yn k5 K4
    go_wp2
    go_end0
    exact ⟨rfl, h5, K5⟩
theorem rput13 {w : World} {b : Nat} {t : ByteArray} {M x : Int} (h : RPen w b t M x) (ht : t.size ≤ 900000000) (ao : Option Addr) (cap : Nat) (k : Ck) (hf : FitsK k) (hc : EnsAt w ao k.c) (hap : 0 < k.c.length → ApartE (fun i => i = b) ao) :
    Calls Try.prog 24 #[pptr b, .agg #[.slice ao k.c.length cap, .bool k.d, .string k.x.a, .int .u64 (k.x.n : Int)]] w fun e w' => e = .returned (.tuple #[]) ∧ RPen w' b (pClk M (t, x) k).1 M (pClk M (t, x) k).2 ∧ Keep1 b w w' :=
  rput13_any h ht ao cap k.c k.d k.x.a k.x.n hf.vec hf.dot hf.num hc hap
set_option maxRecDepth 100000 in
theorem rencode13 (w : World) (ao : Option Addr) (cap : Nat) (k : Ck) (hf : FitsK k) (hc : EnsAt w ao k.c) :
    Calls Try.prog 10 #[.agg #[.slice ao k.c.length cap, .bool k.d, .string k.x.a, .int .u64 (k.x.n : Int)]] w fun e w' => e = .returned (.tuple #[.string (encK k).1, .int .i64 (encK k).2]) ∧ Keep0 w w' := by
  have he := encK_pen (fun x hx => (hf.vec.2 x hx).2) hf.num
  have yn := fun W => rpnew_any W 65536
  have hpm : pMax 65536 = 65536 := rfl
  rw [hpm] at yn
  have yp := fun (W : World) (g : Nat) (h : RPen W g ⟨#[]⟩ 65536 0) (hc' : EnsAt W ao k.c) (hg : w.heap.size ≤ g) => rput13 h (by decide) ao cap k hf hc' (fun hl g' off m e hh => by have := ens_old hc hl g' off m e; omega)
  have ye := fun (W : World) (g : Nat) (h : RPen W g (pClk 65536 (⟨#[]⟩, 0) k).1 65536 (pClk 65536 (⟨#[]⟩, 0) k).2) => rpend_any h
  have e1 : (encK k).1 = pEnd (pClk 65536 (⟨#[]⟩, 0) k).1 (pClk 65536 (⟨#[]⟩, 0) k).2 := by rw [← he]
  have e2 : (encK k).2 = (pClk 65536 (⟨#[]⟩, 0) k).2 := by rw [← he]
  rw [e1, e2]
  have kA : Keep0 w (w.alloc (.cells #[.slice ao k.c.length cap, .bool k.d, .string k.x.a, .int .u64 (k.x.n : Int)] 27)) := (Keep.refl _ w).alloc _
  have hX := clk_new w 27 k ao cap
  have hz : w.heap.size < (w.alloc (.cells #[.slice ao k.c.length cap, .bool k.d, .string k.x.a, .int .u64 (k.x.n : Int)] 27)).heap.size := by rw [World.size_alloc]; omega
  have yn := yn (w.alloc (.cells #[.slice ao k.c.length cap, .bool k.d, .string k.x.a, .int .u64 (k.x.n : Int)] 27))
  generalize pClk 65536 (⟨#[]⟩, 0) k = P at *
  generalize pEnd P.1 P.2 = PE at *
  generalize P.2 = P2 at *
  generalize P.1 = P1 at *
  clear he e1 e2 hpm
  go_enter Try.func10, Try.ntmps10
  go_wp2_with fail
  generalize (w.alloc (.cells #[.slice ao k.c.length cap, .bool k.d, .string k.x.a, .int .u64 (k.x.n : Int)] 27)) = W0 at *
  generalize hg : w.heap.size = g at *
  refine yn.mono ?_
  rintro e w1 ⟨rfl, h1, k1⟩
  have K1 := kA.trans k1
  obtain ⟨x0, x1, x2, x3⟩ := hX.keep0 k1
  have yp := yp _ _ h1 (hc.keep0 K1) (by omega)
  clear yn hX
  go_wp2_with fail
  refine yp.mono ?_
  rintro e w2 ⟨rfl, h2, k2⟩
  have K2 : Keep0 w w2 := K1.step k2 (fun i hi hh => by omega)
  have ye := ye _ _ h2
  clear yp k1 k2 h1 h2 kA K1 x0 x1 x2 x3
  go_wp2_with fail
  refine ye.mono ?_
  rintro e w3 ⟨rfl, hw3⟩
  have K3 := K2.trans (keepN hw3)
  clear ye hw3 K2
  go_wp2
  go_ret2
  exact ⟨rfl, K3⟩
end Go.Proofs.Ytfahpnkliecppaa
