/-
  What this seat's claims lean on of the texts RefDcode, QBlk, QMem.
  Conditions: as each theorem states.
-/
import Derived.WalkKit
import Derived.ProofKit
import Derived.Below
import Derived.Deep.Draws
import Derived.Deep.RegionHeld
import Derived.Test.YtfpahdnhnhkcdaaChecked
import Derived.OpenShut
import Derived.ShutString
import Derived.WalkSpells
import Derived.WalkLawsBesides
import Derived.Deep.QuietTactic
import Derived.BigQuiet
import Derived.Laws.Bits64b
import Derived.PlainAid
import Derived.Lib.AppendStr
import Derived.Deep.AppendLies
import Derived.Laws.IdiomStrings
import Derived.Laws.BytesArg
import Derived.Deep.RegionWith
import Derived.Laws.AppendOwn
import Derived.Deep.DeepAppendWide
import Derived.Deep.Upon
import Derived.Test.YtfpahdnhnhkcdaaZ8
import Derived.Test.YtfpahdnhnhkcdaaZ17
import Derived.Laws.Rows
import Derived.Test.YtfpahdnhnhkcdaaZ11
import Derived.Test.YtfpahdnhnhkcdaaZ13
namespace Go.Proofs.Ytfpahdnhnhkcdaa
open Go.RowKit
set_option maxRecDepth 100000 in
set_option maxHeartbeats 4000000 in
theorem rput13_any {w : World} {b : Nat} {t : ByteArray} {M x : Int} (h : RPen w b t M x) (ht : t.size ≤ 900000000) (ao : Option Addr) (cap : Nat) (c : List En) (d : Bool) (a : ByteArray) (n : Nat) (hv : Fits c) (hm : a.size ≤ maxLen) (hn : U64 n) (hc : EnsAt w ao c) (hap : 0 < c.length → ApartE (fun k => k = b) ao) :
    Calls Try.prog 52 #[pptr b, .agg #[.slice ao c.length cap, .bool d, .string a, .int .u64 (n : Int)]] w fun e w' => e = .returned (.tuple #[]) ∧ RPen w' b (pClk M (t, x) ⟨c, d, ⟨a, n⟩⟩).1 M (pClk M (t, x) ⟨c, d, ⟨a, n⟩⟩).2 ∧ Keep1 b w w' := by
  have hbl := h.lt
  have kA : Keep0 w (w.alloc (.cells #[.slice ao c.length cap, .bool d, .string a, .int .u64 (n : Int)] 27)) := (Keep.refl _ w).alloc _
  have hX := clk_new w 27 ⟨c, d, ⟨a, n⟩⟩ ao cap
  have hP0 := h.keep0 kA
  have hE0 := hc.keep0 kA
  have yc := rcheck12_any _ ao cap c d a n hv hm hE0
  by_cases h0 : kCheck ⟨c, d, ⟨a, n⟩⟩ = 0
  case neg =>
    rw [pClk_no h0]
    have e0 : (kCheck ⟨c, d, ⟨a, n⟩⟩ != 0) = true := by simpa using h0
    have yf := fun W (h : RPen W b t M x) => rpfail_any (kCheck ⟨c, d, ⟨a, n⟩⟩) h
    clear h0 hX hE0
    generalize kCheck ⟨c, d, ⟨a, n⟩⟩ = C at *
    go_enter Try.func52, Try.ntmps52
    go_wp2_with fail
    generalize (w.alloc (.cells #[.slice ao c.length cap, .bool d, .string a, .int .u64 (n : Int)] 27)) = W0 at *
    generalize w.heap.size = g at *
    refine yc.mono ?_
    rintro e w1 ⟨rfl, k1⟩
    have yf := yf _ (hP0.keep0 k1)
    have K1 := kA.trans k1
    clear yc k1 kA hP0
    go_wp2_with fail
    refine yf.mono ?_
    rintro e w2 ⟨rfl, h2, k2⟩
    have K2 : Keep1 b w w2 := (K1.any (R := fun k => k = b)).trans k2
    clear yf k2 K1
    go_wp2
    (try simp only [Exit.inBlock, Exit.then])
    refine bodyPost_ret (results_none rfl _ _ _) rfl ?_
    exact ⟨rfl, h2, K2⟩
  rw [h0] at yc
  rw [pClk_yes h0]
  have hR := (right_iff _).1 h0
  have hvs := pVec_size M (t, x) (fun y hy => (hv.2 y hy).2)
  have hts : (t, x).1.size = t.size := rfl
  have yv := fun W (h : RPen W b t M x) (hc : EnsAt W ao c) => rput11 h (by omega) ao cap c hv hc hap
  have yg := fun W (h : RPen W b (pVec M (t, x) c).1 M (pVec M (t, x) c).2) => rpflag_any d h (by omega)
  have hE1 : ((pVec M (t, x) c).1, (pVec M (t, x) c).2) = pVec M (t, x) c := rfl
  rw [hE1] at yg
  have hfs := wFlag_size M (pVec M (t, x) c) d
  have hcd : ((⟨c, d, ⟨a, n⟩⟩ : Ck).c) = c := rfl
  have hdd : ((⟨c, d, ⟨a, n⟩⟩ : Ck).d) = d := rfl
  have hxd : ((⟨c, d, ⟨a, n⟩⟩ : Ck).x) = ⟨a, n⟩ := rfl
  rw [hcd, hdd, hxd]
  cases d with
  | false =>
    rw [pTail_no]
    generalize wFlag M (pVec M (t, x) c) false = P2 at *
    generalize pVec M (t, x) c = P1 at *
    clear h0 hR hvs hts hfs hE1 hcd hdd hxd
    obtain ⟨x0, x1, x2, x3⟩ := hX
    go_enter Try.func52, Try.ntmps52
    go_wp2_with fail
    generalize (w.alloc (.cells #[.slice ao c.length cap, .bool false, .string a, .int .u64 (n : Int)] 27)) = W0 at *
    generalize hg : w.heap.size = g at *
    have hgb : g ≠ b := by omega
    refine yc.mono ?_
    rintro e w1 ⟨rfl, k1⟩
    have yv := yv _ (hP0.keep0 k1) (hE0.keep0 k1)
    have K1 := kA.trans k1
    have y0 := k1.cell x0 (fun f => f)
    have y1 := k1.cell x1 (fun f => f)
    clear yc k1 kA hP0 hE0 x0 x1 x2 x3
    go_wp2_with fail
    refine yv.mono ?_
    rintro e w2 ⟨rfl, h2, k2⟩
    have K2 : Keep1 b w w2 := (K1.any (R := fun k => k = b)).trans k2
    have z1 := k2.cell y1 hgb
    have yg := yg _ h2
    clear yv k2 K1 h2 y0 y1
    go_wp2_with fail
    refine yg.mono ?_
    rintro e w3 ⟨rfl, h3, k3⟩
    have K3 := K2.trans k3
    have z1 := k3.cell z1 hgb
    clear yg k3 K2
    go_wp2
    go_end0
    exact ⟨rfl, h3, K3⟩
  | true =>
    have hda := (hR.dot rfl).1.2.1
    have hda : a.size ≤ 32 := hda
    rw [pTail_yes]
    have hE2 : ∀ P : ByteArray × Int, pEnt M P ⟨a, n⟩ = pOne M (wPut M 32 P a) (vText n) := fun _ => rfl
    rw [hE2]
    obtain ⟨P2, hP2⟩ : ∃ P2, wFlag M (pVec M (t, x) c) true = P2 := ⟨_, rfl⟩
    rw [hP2] at yg hfs ⊢
    have yb := fun W (h : RPen W b P2.1 M P2.2) => rbput_any 32 (by decide) a h (by omega)
    have hws := wPut_size M 32 P2 a (by omega)
    have hE3 : (P2.1, P2.2) = P2 := rfl
    rw [hE3] at yb
    obtain ⟨P3, hP3⟩ : ∃ P3, wPut M 32 P2 a = P3 := ⟨_, rfl⟩
    rw [hP3] at yb hws ⊢
    have yn := fun W (h : RPen W b P3.1 M P3.2) => rput_any n hn h (by omega)
    have hE4 : (P3.1, P3.2) = P3 := rfl
    rw [hE4] at yn
    generalize pOne M P3 (vText n) = P4 at *
    generalize pVec M (t, x) c = P1 at *
    clear h0 hR hvs hts hfs hE1 hE2 hE3 hE4 hws hP2 hP3 hda hcd hdd hxd
    obtain ⟨x0, x1, x2, x3⟩ := hX
    go_enter Try.func52, Try.ntmps52
    go_wp2_with fail
    generalize (w.alloc (.cells #[.slice ao c.length cap, .bool true, .string a, .int .u64 (n : Int)] 27)) = W0 at *
    generalize hg : w.heap.size = g at *
    have hgb : g ≠ b := by omega
    refine yc.mono ?_
    rintro e w1 ⟨rfl, k1⟩
    have yv := yv _ (hP0.keep0 k1) (hE0.keep0 k1)
    have K1 := kA.trans k1
    have y0 := k1.cell x0 (fun f => f)
    have y1 := k1.cell x1 (fun f => f)
    have y2 := k1.cell x2 (fun f => f)
    have y3 := k1.cell x3 (fun f => f)
    clear yc k1 kA hP0 hE0 x0 x1 x2 x3
    go_wp2_with fail
    refine yv.mono ?_
    rintro e w2 ⟨rfl, h2, k2⟩
    have K2 : Keep1 b w w2 := (K1.any (R := fun k => k = b)).trans k2
    replace y1 := k2.cell y1 hgb
    replace y2 := k2.cell y2 hgb
    replace y3 := k2.cell y3 hgb
    have yg := yg _ h2
    clear yv k2 K1 h2 y0
    go_wp2_with fail
    refine yg.mono ?_
    rintro e w3 ⟨rfl, h3, k3⟩
    have K3 := K2.trans k3
    replace y1 := k3.cell y1 hgb
    replace y2 := k3.cell y2 hgb
    replace y3 := k3.cell y3 hgb
    have yb := yb _ h3
    clear yg k3 K2 h3
    go_wp2_with fail
    refine yb.mono ?_
    rintro e w4 ⟨rfl, h4, k4⟩
    have K4 := K3.trans k4
    replace y3 := k4.cell y3 hgb
    have yn := yn _ h4
    clear yb k4 K3 h4 y1 y2
    go_wp2_with fail
    refine yn.mono ?_
    rintro e w5 ⟨rfl, h5, k5⟩
    have K5 := K4.trans k5
    clear yn k5 K4
    go_wp2
    go_end0
    exact ⟨rfl, h5, K5⟩
end Go.Proofs.Ytfpahdnhnhkcdaa
namespace Go.Proofs.Ytfpahdnhnhkcdaa
open Go.RowKit
structure QAt (w : World) (g : Nat) (v0 v1 v2 v3 : Value) : Prop where
  blk : ∃ ty, w.heap[g]? = some (.cells #[v0, v1, v2, v3] ty)
section
variable {w : World} {g : Nat} {v0 v1 v2 v3 : Value}
theorem QAt.lt (h : QAt w g v0 v1 v2 v3) : g < w.heap.size := by
  obtain ⟨ty, hk⟩ := h.blk
  exact (Array.getElem?_eq_some_iff.mp hk).1
theorem QAt.cells (h : QAt w g v0 v1 v2 v3) : w.cell? ⟨g, 0, none⟩ = some v0 ∧ w.cell? ⟨g, 1, none⟩ = some v1 ∧ w.cell? ⟨g, 2, none⟩ = some v2 ∧ w.cell? ⟨g, 3, none⟩ = some v3 ∧ w.frozen? ⟨g, 0, none⟩ = false ∧ w.frozen? ⟨g, 1, none⟩ = false ∧ w.frozen? ⟨g, 2, none⟩ = false ∧ w.frozen? ⟨g, 3, none⟩ = false := by
  obtain ⟨ty, hk⟩ := h.blk
  simp [World.cell?, World.frozen?, hk]
theorem QAt.keep {R : Nat → Prop} {w' : World} (h : QAt w g v0 v1 v2 v3) (K : Keep R w w') (hn : ¬ R g) : QAt w' g v0 v1 v2 v3 := by
  obtain ⟨ty, hk⟩ := h.blk
  exact ⟨ty, by rw [K.block g h.lt hn]; exact hk⟩
theorem QAt.keep0 {w' : World} (h : QAt w g v0 v1 v2 v3) (K : Keep0 w w') : QAt w' g v0 v1 v2 v3 := h.keep K (fun f => f)
theorem QAt.new (w : World) (ty : TypeId) (v0 v1 v2 v3 : Value) : QAt (w.alloc (.cells #[v0, v1, v2, v3] ty)) w.heap.size v0 v1 v2 v3 := ⟨ty, (MapKept.heap_alloc w _).1⟩
theorem QAt.set0 (h : QAt w g v0 v1 v2 v3) (u : Value) : QAt (w.setCell ⟨g, 0, none⟩ u) g u v1 v2 v3 := by
  obtain ⟨ty, hk⟩ := h.blk
  exact ⟨ty, by rw [heap_setCell_at hk]; rfl⟩
theorem QAt.set1 (h : QAt w g v0 v1 v2 v3) (u : Value) : QAt (w.setCell ⟨g, 1, none⟩ u) g v0 u v2 v3 := by
  obtain ⟨ty, hk⟩ := h.blk
  exact ⟨ty, by rw [heap_setCell_at hk]; rfl⟩
theorem QAt.set2 (h : QAt w g v0 v1 v2 v3) (u : Value) : QAt (w.setCell ⟨g, 2, none⟩ u) g v0 v1 u v3 := by
  obtain ⟨ty, hk⟩ := h.blk
  exact ⟨ty, by rw [heap_setCell_at hk]; rfl⟩
theorem QAt.set3 (h : QAt w g v0 v1 v2 v3) (u : Value) : QAt (w.setCell ⟨g, 3, none⟩ u) g v0 v1 v2 u := by
  obtain ⟨ty, hk⟩ := h.blk
  exact ⟨ty, by rw [heap_setCell_at hk]; rfl⟩
theorem QAt.put (h : QAt w g v0 v1 v2 v3) (u0 u1 u2 u3 : Value) : QAt ((((w.setCell ⟨g, 0, none⟩ u0).setCell ⟨g, 1, none⟩ u1).setCell ⟨g, 2, none⟩ u2).setCell ⟨g, 3, none⟩ u3) g u0 u1 u2 u3 := (((h.set0 u0).set1 u1).set2 u2).set3 u3
end
theorem put4_keep (w : World) (g : Nat) (u0 u1 u2 u3 : Value) : Keep1 g w ((((w.setCell ⟨g, 0, none⟩ u0).setCell ⟨g, 1, none⟩ u1).setCell ⟨g, 2, none⟩ u2).setCell ⟨g, 3, none⟩ u3) :=
  ((((Keep.refl _ w).set1 _ _).set1 _ _).set1 _ _).set1 _ _
theorem set_keep1 (w : World) (g i : Nat) (u : Value) : Keep1 g w (w.setCell ⟨g, i, none⟩ u) := (Keep.refl _ w).set1 _ _
end Go.Proofs.Ytfpahdnhnhkcdaa
namespace Go.Proofs.Ytfpahdnhnhkcdaa
open Go.RowKit
theorem retCk {fn : Func} {p : Tmp} (h : fn.results = #[.cell p 27]) (tmps : Array Value) (w : World) (g : Nat) {v0 v1 v2 v3 : Value}
    (hp : tmps.getD p undef = .pointer (some ⟨g, 0, none⟩)) (hg : QAt w g v0 v1 v2 v3) : (results fn tmps).run Try.prog w = .ok (.agg #[v0, v1, v2, v3]) w := by
  obtain ⟨ty, hk⟩ := hg.blk
  exact results_cell_row h tmps w g ty _ _ _ hp hk Try.underlying27 rfl (by kernel_rfl)
end Go.Proofs.Ytfpahdnhnhkcdaa
