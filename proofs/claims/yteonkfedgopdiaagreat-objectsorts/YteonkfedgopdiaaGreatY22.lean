/-
  What this seat's claims lean on of the texts RefDcode, VecA, Law11.
  Conditions: as each theorem states.
-/
import Derived.WalkKit
import Derived.ProofKit
import Derived.Below
import Derived.Deep.Draws
import Derived.Deep.RegionHeld
import Derived.Test.YteonkfedgopdiaaGreatChecked
import Derived.OpenShut
import Derived.ShutString
import Derived.WalkSpells
import Derived.WalkLawsBesides
import Derived.Deep.QuietTactic
import Derived.BigQuiet
import Derived.Laws.Bits64b
import Derived.PlainAid
import Derived.Lib.AppendStr
import Derived.Deep.AppendLies
import Derived.Laws.IdiomStrings
import Derived.Laws.BytesArg
import Derived.Deep.RegionWith
import Derived.Laws.AppendOwn
import Derived.Deep.DeepAppendWide
import Derived.Deep.Upon
import Derived.Test.YteonkfedgopdiaaGreatY13
import Derived.Test.YteonkfedgopdiaaGreatY20
import Derived.Test.YteonkfedgopdiaaGreatY16
import Derived.Deep.Slices
import Derived.Test.YteonkfedgopdiaaGreatY8
import Derived.Test.YteonkfedgopdiaaGreatY19
import Derived.Test.YteonkfedgopdiaaGreatY3
namespace Go.Proofs.YteonkfedgopdiaaGreat
open Go.RowKit
set_option maxRecDepth 100000 in
set_option maxHeartbeats 4000000 in
theorem rput13_any {w : World} {b : Nat} {t : ByteArray} {M x : Int} (h : RPen w b t M x) (ht : t.size ≤ 900000000) (ao : Option Addr) (cap : Nat) (c : List En) (d : Bool) (a : ByteArray) (n : Nat) (hv : Fits c) (hm : a.size ≤ maxLen) (hn : U64 n) (hc : EnsAt w ao c) (hap : 0 < c.length → ApartE (fun k => k = b) ao) :
    Calls Tryz.prog 98 #[pptr b, .agg #[.slice ao c.length cap, .bool d, .string a, .int .u64 (n : Int)]] w fun e w' => e = .returned (.tuple #[]) ∧ RPen w' b (pClk M (t, x) ⟨c, d, ⟨a, n⟩⟩).1 M (pClk M (t, x) ⟨c, d, ⟨a, n⟩⟩).2 ∧ Keep1 b w w' := by
  have hbl := h.lt
  have kA : Keep0 w (w.alloc (.cells #[.slice ao c.length cap, .bool d, .string a, .int .u64 (n : Int)] 41)) := (Keep.refl _ w).alloc _
  have hX := clk_new w 41 ⟨c, d, ⟨a, n⟩⟩ ao cap
  have hP0 := h.keep0 kA
  have hE0 := hc.keep0 kA
  have yc := rcheck12_any _ ao cap c d a n hv hm hE0
  by_cases h0 : kCheck ⟨c, d, ⟨a, n⟩⟩ = 0
  case neg =>
    rw [pClk_no h0]
    have e0 : (kCheck ⟨c, d, ⟨a, n⟩⟩ != 0) = true := by simpa using h0
    have yf := fun W (h : RPen W b t M x) => rpfail_any (kCheck ⟨c, d, ⟨a, n⟩⟩) h
    clear h0 hX hE0
    generalize kCheck ⟨c, d, ⟨a, n⟩⟩ = C at *
    go_enter Tryz.func98, Tryz.ntmps98
    go_wp2_with fail
    generalize (w.alloc (.cells #[.slice ao c.length cap, .bool d, .string a, .int .u64 (n : Int)] 41)) = W0 at *
    generalize w.heap.size = g at *
    refine yc.mono ?_
    rintro e w1 ⟨rfl, k1⟩
    have yf := yf _ (hP0.keep0 k1)
    have K1 := kA.trans k1
    clear yc k1 kA hP0
    go_wp2_with fail
    refine yf.mono ?_
    rintro e w2 ⟨rfl, h2, k2⟩
    have K2 : Keep1 b w w2 := (K1.any (R := fun k => k = b)).trans k2
    clear yf k2 K1
    go_wp2
    (try simp only [Exit.inBlock, Exit.then])
    refine bodyPost_ret (results_none rfl _ _ _) rfl ?_
    exact ⟨rfl, h2, K2⟩
  rw [h0] at yc
  rw [pClk_yes h0]
  have hR := (right_iff _).1 h0
  have hvs := pVec_size M (t, x) (fun y hy => (hv.2 y hy).2)
  have hts : (t, x).1.size = t.size := rfl
  have yv := fun W (h : RPen W b t M x) (hc : EnsAt W ao c) => rput11 h (by omega) ao cap c hv hc hap
  have yg := fun W (h : RPen W b (pVec M (t, x) c).1 M (pVec M (t, x) c).2) => rpflag_any d h (by omega)
  have hE1 : ((pVec M (t, x) c).1, (pVec M (t, x) c).2) = pVec M (t, x) c := rfl
  rw [hE1] at yg
  have hfs := wFlag_size M (pVec M (t, x) c) d
  have hcd : ((⟨c, d, ⟨a, n⟩⟩ : Ck).c) = c := rfl
  have hdd : ((⟨c, d, ⟨a, n⟩⟩ : Ck).d) = d := rfl
  have hxd : ((⟨c, d, ⟨a, n⟩⟩ : Ck).x) = ⟨a, n⟩ := rfl
  rw [hcd, hdd, hxd]
  cases d with
  | false =>
    rw [pTail_no]
    generalize wFlag M (pVec M (t, x) c) false = P2 at *
    generalize pVec M (t, x) c = P1 at *
    clear h0 hR hvs hts hfs hE1 hcd hdd hxd
    obtain ⟨x0, x1, x2, x3⟩ := hX
    go_enter Tryz.func98, Tryz.ntmps98
    go_wp2_with fail
    generalize (w.alloc (.cells #[.slice ao c.length cap, .bool false, .string a, .int .u64 (n : Int)] 41)) = W0 at *
    generalize hg : w.heap.size = g at *
    have hgb : g ≠ b := by omega
    refine yc.mono ?_
    rintro e w1 ⟨rfl, k1⟩
    have yv := yv _ (hP0.keep0 k1) (hE0.keep0 k1)
    have K1 := kA.trans k1
    have y0 := k1.cell x0 (fun f => f)
    have y1 := k1.cell x1 (fun f => f)
    clear yc k1 kA hP0 hE0 x0 x1 x2 x3
    go_wp2_with fail
    refine yv.mono ?_
    rintro e w2 ⟨rfl, h2, k2⟩
    have K2 : Keep1 b w w2 := (K1.any (R := fun k => k = b)).trans k2
    have z1 := k2.cell y1 hgb
    have yg := yg _ h2
    clear yv k2 K1 h2 y0 y1
    go_wp2_with fail
    refine yg.mono ?_
    rintro e w3 ⟨rfl, h3, k3⟩
    have K3 := K2.trans k3
    have z1 := k3.cell z1 hgb
    clear yg k3 K2
    go_wp2
    go_end0
    exact ⟨rfl, h3, K3⟩
  | true =>
    have hda := (hR.dot rfl).1.2.1
    have hda : a.size ≤ 32 := hda
    rw [pTail_yes]
    have hE2 : ∀ P : ByteArray × Int, pEnt M P ⟨a, n⟩ = pOne M (wPut M 32 P a) (vText n) := fun _ => rfl
    rw [hE2]
    obtain ⟨P2, hP2⟩ : ∃ P2, wFlag M (pVec M (t, x) c) true = P2 := ⟨_, rfl⟩
    rw [hP2] at yg hfs ⊢
    have yb := fun W (h : RPen W b P2.1 M P2.2) => rbput_any 32 (by decide) a h (by omega)
    have hws := wPut_size M 32 P2 a (by omega)
    have hE3 : (P2.1, P2.2) = P2 := rfl
    rw [hE3] at yb
    obtain ⟨P3, hP3⟩ : ∃ P3, wPut M 32 P2 a = P3 := ⟨_, rfl⟩
    rw [hP3] at yb hws ⊢
    have yn := fun W (h : RPen W b P3.1 M P3.2) => rput_any n hn h (by omega)
    have hE4 : (P3.1, P3.2) = P3 := rfl
    rw [hE4] at yn
    generalize pOne M P3 (vText n) = P4 at *
    generalize pVec M (t, x) c = P1 at *
    clear h0 hR hvs hts hfs hE1 hE2 hE3 hE4 hws hP2 hP3 hda hcd hdd hxd
    obtain ⟨x0, x1, x2, x3⟩ := hX
    go_enter Tryz.func98, Tryz.ntmps98
    go_wp2_with fail
    generalize (w.alloc (.cells #[.slice ao c.length cap, .bool true, .string a, .int .u64 (n : Int)] 41)) = W0 at *
    generalize hg : w.heap.size = g at *
    have hgb : g ≠ b := by omega
    refine yc.mono ?_
    rintro e w1 ⟨rfl, k1⟩
    have yv := yv _ (hP0.keep0 k1) (hE0.keep0 k1)
    have K1 := kA.trans k1
    have y0 := k1.cell x0 (fun f => f)
    have y1 := k1.cell x1 (fun f => f)
    have y2 := k1.cell x2 (fun f => f)
    have y3 := k1.cell x3 (fun f => f)
    clear yc k1 kA hP0 hE0 x0 x1 x2 x3
    go_wp2_with fail
    refine yv.mono ?_
    rintro e w2 ⟨rfl, h2, k2⟩
    have K2 : Keep1 b w w2 := (K1.any (R := fun k => k = b)).trans k2
    replace y1 := k2.cell y1 hgb
    replace y2 := k2.cell y2 hgb
    replace y3 := k2.cell y3 hgb
    have yg := yg _ h2
    clear yv k2 K1 h2 y0
    go_wp2_with fail
    refine yg.mono ?_
    rintro e w3 ⟨rfl, h3, k3⟩
    have K3 := K2.trans k3
    replace y1 := k3.cell y1 hgb
    replace y2 := k3.cell y2 hgb
    replace y3 := k3.cell y3 hgb
    have yb := yb _ h3
    clear yg k3 K2 h3
    go_wp2_with fail
    refine yb.mono ?_
    rintro e w4 ⟨rfl, h4, k4⟩
    have K4 := K3.trans k4
    replace y3 := k4.cell y3 hgb
    have yn := yn _ h4
    clear yb k4 K3 h4 y1 y2
    go_wp2_with fail
    refine yn.mono ?_
    rintro e w5 ⟨rfl, h5, k5⟩
    have K5 := K4.trans k5
    clear yn k5 K4
    go_wp2
    go_end0
    exact ⟨rfl, h5, K5⟩
theorem rput13 {w : World} {b : Nat} {t : ByteArray} {M x : Int} (h : RPen w b t M x) (ht : t.size ≤ 900000000) (ao : Option Addr) (cap : Nat) (k : Ck) (hf : FitsK k) (hc : EnsAt w ao k.c) (hap : 0 < k.c.length → ApartE (fun i => i = b) ao) :
    Calls Tryz.prog 98 #[pptr b, .agg #[.slice ao k.c.length cap, .bool k.d, .string k.x.a, .int .u64 (k.x.n : Int)]] w fun e w' => e = .returned (.tuple #[]) ∧ RPen w' b (pClk M (t, x) k).1 M (pClk M (t, x) k).2 ∧ Keep1 b w w' :=
  rput13_any h ht ao cap k.c k.d k.x.a k.x.n hf.vec hf.dot hf.num hc hap
set_option maxRecDepth 100000 in
theorem rencode13 (w : World) (ao : Option Addr) (cap : Nat) (k : Ck) (hf : FitsK k) (hc : EnsAt w ao k.c) :
    Calls Tryz.prog 74 #[.agg #[.slice ao k.c.length cap, .bool k.d, .string k.x.a, .int .u64 (k.x.n : Int)]] w fun e w' => e = .returned (.tuple #[.string (encK k).1, .int .i64 (encK k).2]) ∧ Keep0 w w' := by
  have he := encK_pen (fun x hx => (hf.vec.2 x hx).2) hf.num
  have yn := fun W => rpnew_any W 65536
  have hpm : pMax 65536 = 65536 := rfl
  rw [hpm] at yn
  have yp := fun (W : World) (g : Nat) (h : RPen W g ⟨#[]⟩ 65536 0) (hc' : EnsAt W ao k.c) (hg : w.heap.size ≤ g) => rput13 h (by decide) ao cap k hf hc' (fun hl g' off m e hh => by have := ens_old hc hl g' off m e; omega)
  have ye := fun (W : World) (g : Nat) (h : RPen W g (pClk 65536 (⟨#[]⟩, 0) k).1 65536 (pClk 65536 (⟨#[]⟩, 0) k).2) => rpend_any h
  have e1 : (encK k).1 = pEnd (pClk 65536 (⟨#[]⟩, 0) k).1 (pClk 65536 (⟨#[]⟩, 0) k).2 := by rw [← he]
  have e2 : (encK k).2 = (pClk 65536 (⟨#[]⟩, 0) k).2 := by rw [← he]
  rw [e1, e2]
  have kA : Keep0 w (w.alloc (.cells #[.slice ao k.c.length cap, .bool k.d, .string k.x.a, .int .u64 (k.x.n : Int)] 41)) := (Keep.refl _ w).alloc _
  have hX := clk_new w 41 k ao cap
  have hz : w.heap.size < (w.alloc (.cells #[.slice ao k.c.length cap, .bool k.d, .string k.x.a, .int .u64 (k.x.n : Int)] 41)).heap.size := by rw [World.size_alloc]; omega
  have yn := yn (w.alloc (.cells #[.slice ao k.c.length cap, .bool k.d, .string k.x.a, .int .u64 (k.x.n : Int)] 41))
  generalize pClk 65536 (⟨#[]⟩, 0) k = P at *
  generalize pEnd P.1 P.2 = PE at *
  generalize P.2 = P2 at *
  generalize P.1 = P1 at *
  clear he e1 e2 hpm
  go_enter Tryz.func74, Tryz.ntmps74
  go_wp2_with fail
  generalize (w.alloc (.cells #[.slice ao k.c.length cap, .bool k.d, .string k.x.a, .int .u64 (k.x.n : Int)] 41)) = W0 at *
  generalize hg : w.heap.size = g at *
  refine yn.mono ?_
  rintro e w1 ⟨rfl, h1, k1⟩
  have K1 := kA.trans k1
  obtain ⟨x0, x1, x2, x3⟩ := hX.keep0 k1
  have yp := yp _ _ h1 (hc.keep0 K1) (by omega)
  clear yn hX
  go_wp2_with fail
  refine yp.mono ?_
  rintro e w2 ⟨rfl, h2, k2⟩
  have K2 : Keep0 w w2 := K1.step k2 (fun i hi hh => by omega)
  have ye := ye _ _ h2
  clear yp k1 k2 h1 h2 kA K1 x0 x1 x2 x3
  go_wp2_with fail
  refine ye.mono ?_
  rintro e w3 ⟨rfl, hw3⟩
  have K3 := K2.trans (keepN hw3)
  clear ye hw3 K2
  go_wp2
  go_ret2
  exact ⟨rfl, K3⟩
end Go.Proofs.YteonkfedgopdiaaGreat
namespace Go.Proofs.YteonkfedgopdiaaGreat
open Go.RowKit
theorem texts_two10 (w : World) (t : TypeId) (a b : ByteArray) : TextsIn (w.alloc (.cells #[.string a, .string b] t)) (some ⟨w.heap.size, 0, none⟩) [a, b] := by
  intro i hi
  have hi : i = 0 ∨ i = 1 := by simp at hi; omega
  rcases hi with rfl | rfl
  · exact ⟨w.heap.size, 0, rfl, cell_alloc w t rfl⟩
  · exact ⟨w.heap.size, 0, rfl, cell_alloc w t rfl⟩
theorem rise_yes {a b : ByteArray} (h : bl a b = true) : rise [a, b] = -1 := by
  show (if bl a b = true then riseAt (1 + 1) [b] else 1) = -1
  rw [if_pos h]
  rfl
theorem rise_no {a b : ByteArray} (h : bl a b = false) : rise [a, b] = 1 := by
  show (if bl a b = true then riseAt (1 + 1) [b] else 1) = 1
  rw [h]
  rfl
theorem empty_no {a : ByteArray} (h : a.size ≠ 0) : a.toList.isEmpty = false := by
  rw [ByteArray.toList_eq]
  cases hb : a.data.toList with
  | nil => exact absurd (by show a.data.size = 0; rw [← Array.length_toList, hb]; rfl) h
  | cons x l => rfl
theorem empty_eq {a : ByteArray} (h : a.size = 0) : a = ⟨#[]⟩ := ByteArray.ext (Array.eq_empty_of_size_eq_zero h)
set_option maxRecDepth 100000 in
set_option maxHeartbeats 4000000 in
theorem checkAt10 (w : World) (ao : Option Addr) (cap : Nat) (l : List En) (ok : Ok10 l) (hc : EnsAt w ao l) (k : Nat) (hk : k < l.length) :
    Calls Tryz.prog 141 #[.slice ao l.length cap, .int .i64 (k : Int)] w fun e w' => e = .returned (.int .i64 (cOne (prv l k) l[k])) ∧ Keep0 w w' := by
  have hl := ok.1
  have hm := (ok.2 l[k] (List.getElem_mem hk)).1
  have hl' : (l.length : Int) ≤ 9223372036854775807 := by omega
  have i1 : (k : Int) < l.length := by omega
  have i2 : (l[k].a.size : Int) ≤ 9223372036854775807 := by unfold maxLen at hm; omega
  obtain ⟨b, off, rfl, x0, x1⟩ := hc k hk
  by_cases h1 : 32 < l[k].a.size
  · rw [cOne_a h1]
    have i3 : (32 : Int) < l[k].a.size := by omega
    clear hm h1 x1 ok
    generalize l[k].a = A at *
    go_enter Tryz.func141, Tryz.ntmps141
    go_wp2
    go_ret
    exact ⟨rfl, Keep.refl _ _⟩
  have i3 : ¬ (32 : Int) < l[k].a.size := by omega
  by_cases h2 : l[k].a.size = 0
  · rw [cOne_b h2]
    rw [empty_eq h2] at x0
    clear hm h1 x1 ok i2 i3 h2
    go_enter Tryz.func141, Tryz.ntmps141
    go_wp2
    go_ret
    exact ⟨rfl, Keep.refl _ _⟩
  have e1 := empty_no h2
  cases k with
  | zero =>
    have hp : falls (prv l 0) l[0].a = false := rfl
    have v0 : w.cell? ⟨b, off, none⟩ = some (.string l[0].a) := x0
    have v1 : w.cell? ⟨b, off + 1, none⟩ = some (.int .u64 (l[0].n : Int)) := x1
    by_cases h4 : l[0].n = 0
    · rw [cOne_d h1 h2 hp h4]
      have i6 : (l[0].n : Int) = 0 := by omega
      rw [i6] at v1
      clear hm h1 x1 x0 ok i6 hp h2 h4
      generalize l[0].a = A at *
      go_enter Tryz.func141, Tryz.ntmps141
      go_wp2
      go_ret
      exact ⟨rfl, Keep.refl _ _⟩
    · rw [cOne_e h1 h2 hp h4]
      have i6 : ((l[0].n : Int) == 0) = false := beq_eq_false_iff_ne.2 (by omega)
      have i7 : ¬ (l[0].n : Int) = 0 := by omega
      clear hm h1 x1 x0 ok hp h2 h4
      generalize (l[0].n : Int) = N at *
      generalize l[0].a = A at *
      go_enter Tryz.func141, Tryz.ntmps141
      go_wp2
      go_ret
      exact ⟨rfl, Keep.refl _ _⟩
  | succ j =>
    have hj : j < l.length := by omega
    obtain ⟨b', off', e', p0, _⟩ := hc j hj
    cases e'
    have hp : falls (prv l (j + 1)) l[j + 1].a = !bl l[j].a l[j + 1].a := by rw [prv_succ hj, falls_some]
    have yr := rising6_any _ _ 2 [l[j].a, l[j + 1].a] (by show 2 ≤ maxLen; unfold maxLen; omega) (texts_two10 w 9 l[j].a l[j + 1].a)
    have kA : Keep0 w (w.alloc (.cells #[.string l[j].a, .string l[j + 1].a] 9)) := (Keep.refl _ w).alloc _
    have z1 := kA.cell x1 (fun f => f)
    have i9 : (j : Int) < l.length := by omega
    have el : [l[j].a, l[j + 1].a].length = 2 := rfl
    rw [el] at yr
    clear el
    have hQ : ∃ q : Nat, j + 1 = q := ⟨_, rfl⟩
    have i7 : IntKind.i64.wrap (j : Int) = (j : Int) := by rw [IntKind.wrap_i64]; omega
    cases hB : bl l[j].a l[j + 1].a with
    | false =>
      rw [hB] at hp
      rw [cOne_c h1 h2 hp]
      rw [rise_no hB] at yr
      clear hm h1 h2 hp hB ok hc x1 z1 i2
      generalize l[j + 1].a = A at *
      generalize l[j].a = A' at *
      obtain ⟨q, hq⟩ := hQ
      have i6 : (q : Int) - 1 = (j : Int) := by omega
      have i8 : decide (0 < q) = true := decide_eq_true (by omega)
      have i8' : 0 < q := by omega
      rw [hq] at i1 x0 hk ⊢
      clear hq
      go_enter Tryz.func141, Tryz.ntmps141
      go_wp2_with fail
      refine yr.mono ?_
      rintro e w1 ⟨rfl, hw1⟩
      have K1 := kA.trans (keepN hw1)
      clear yr kA hw1
      go_wp2
      go_ret
      exact ⟨rfl, K1⟩
    | true =>
      rw [hB] at hp
      rw [rise_yes hB] at yr
      by_cases h4 : l[j + 1].n = 0
      · rw [cOne_d h1 h2 hp h4]
        have i6 : (l[j + 1].n : Int) = 0 := by omega
        rw [i6] at z1
        clear hm h1 h2 hp hB ok hc x1 i2 i6 h4
        generalize l[j + 1].a = A at *
        generalize l[j].a = A' at *
        obtain ⟨q, hq⟩ := hQ
        have i6 : (q : Int) - 1 = (j : Int) := by omega
        have i8 : decide (0 < q) = true := decide_eq_true (by omega)
        have i8' : 0 < q := by omega
        rw [hq] at i1 x0 hk z1 ⊢
        clear hq
        go_enter Tryz.func141, Tryz.ntmps141
        go_wp2_with fail
        refine yr.mono ?_
        rintro e w1 ⟨rfl, hw1⟩
        have k1 := keepN hw1
        have z1 := k1.cell z1 (fun f => f)
        have K1 := kA.trans k1
        clear yr kA hw1 k1 x0 p0
        go_wp2
        go_ret
        exact ⟨rfl, K1⟩
      · rw [cOne_e h1 h2 hp h4]
        have i10 : ((l[j + 1].n : Int) == 0) = false := beq_eq_false_iff_ne.2 (by omega)
        have i11 : ¬ (l[j + 1].n : Int) = 0 := by omega
        clear hm h1 h2 hp hB ok hc x1 i2 h4
        generalize (l[j + 1].n : Int) = N at *
        generalize l[j + 1].a = A at *
        generalize l[j].a = A' at *
        obtain ⟨q, hq⟩ := hQ
        have i6 : (q : Int) - 1 = (j : Int) := by omega
        have i8 : decide (0 < q) = true := decide_eq_true (by omega)
        have i8' : 0 < q := by omega
        rw [hq] at i1 x0 hk z1 ⊢
        clear hq
        go_enter Tryz.func141, Tryz.ntmps141
        go_wp2_with fail
        refine yr.mono ?_
        rintro e w1 ⟨rfl, hw1⟩
        have k1 := keepN hw1
        have z1 := k1.cell z1 (fun f => f)
        have K1 := kA.trans k1
        clear yr kA hw1 k1 x0 p0
        go_wp2
        go_ret
        exact ⟨rfl, K1⟩
end Go.Proofs.YteonkfedgopdiaaGreat
namespace Go.Proofs.YteonkfedgopdiaaGreat
open Go.RowKit
def Ok11 (l : List En) : Prop := l.length ≤ 10000 ∧ ∀ x ∈ l, x.a.size ≤ maxLen ∧ U64 x.n
theorem Ok11.fits {l : List En} (h : Ok11 l) : Fits l := ⟨by have := h.1; unfold maxLen; omega, h.2⟩
end Go.Proofs.YteonkfedgopdiaaGreat
