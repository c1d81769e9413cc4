/-
  What this seat's claims lean on of the texts Law17, RefDcode, VecB, Law11, PrB.
  Conditions: as each theorem states.
-/
import Derived.WalkKit
import Derived.ProofKit
import Derived.Below
import Derived.Deep.Draws
import Derived.Deep.RegionHeld
import Derived.Test.YtoefibkhlhmlfaaGreatChecked
import Derived.OpenShut
import Derived.ShutString
import Derived.WalkSpells
import Derived.WalkLawsBesides
import Derived.Deep.QuietTactic
import Derived.BigQuiet
import Derived.Laws.Bits64b
import Derived.PlainAid
import Derived.Lib.AppendStr
import Derived.Deep.AppendLies
import Derived.Laws.IdiomStrings
import Derived.Laws.BytesArg
import Derived.Deep.RegionWith
import Derived.Laws.AppendOwn
import Derived.Deep.DeepAppendWide
import Derived.Deep.Upon
import Derived.Maps.AppendAt
import Derived.Deep.Slices
import Derived.Test.YtoefibkhlhmlfaaGreatY19
import Derived.Test.YtoefibkhlhmlfaaGreatY20
import Derived.Test.YtoefibkhlhmlfaaGreatY1
import Derived.Test.YtoefibkhlhmlfaaGreatY15
import Derived.Test.YtoefibkhlhmlfaaGreatY17
import Derived.Test.YtoefibkhlhmlfaaGreatY11
import Derived.Test.YtoefibkhlhmlfaaGreatY14
import Derived.Test.YtoefibkhlhmlfaaGreatY3
namespace Go.Proofs.YtoefibkhlhmlfaaGreat
open Go.RowKit
structure Ok17 (key : ByteArray) (L : List Po) : Prop where
  key : key.size ≤ 1000000
  len : L.length ≤ 100
  sib : ∀ p ∈ L, p.x.c.length ≤ 10000 ∧ FitsOs p.x
  val : ∀ p ∈ L, p.x.v.size ≤ 1000000
theorem Ok17.u {key : ByteArray} {L : List Po} (h : Ok17 key L) : ∀ x ∈ L.map Po.x, osU x := fun x hx => by
  obtain ⟨p, hp, rfl⟩ := List.mem_map.1 hx
  exact fun y hy => ((h.sib p hp).2.vec.2 y hy).2
def ROlE (p : Ol × Int) (w : World) (e : Ending) (w' : World) : Prop := ∃ ao cap L, e = .returned (.tuple #[.agg #[.string p.1.key, .slice ao L.length cap], .int .i64 p.2]) ∧ L.map Po.x = p.1.l ∧ L.length ≤ cap ∧ cap ≤ maxLen ∧ PosAt w' ao L ∧ Keep0 w w'
theorem ROlE.bare {p : Ol × Int} {w w' : World} {e : Ending} {E : Int} (hp : p = (zOl, E)) (h : e = .returned (.tuple #[.agg #[.string ⟨#[]⟩, .slice none 0 0], .int .i64 E])) (h3 : Keep0 w w') : ROlE p w e w' := by
  subst hp
  exact ⟨none, 0, [], h, rfl, Nat.le_refl _, Nat.zero_le _, PosAt.nil _ _, h3⟩
end Go.Proofs.YtoefibkhlhmlfaaGreat
namespace Go.Proofs.YtoefibkhlhmlfaaGreat
open Go.RowKit
set_option maxRecDepth 100000 in
set_option maxHeartbeats 4000000 in
theorem rput13_any {w : World} {b : Nat} {t : ByteArray} {M x : Int} (h : RPen w b t M x) (ht : t.size ≤ 900000000) (ao : Option Addr) (cap : Nat) (c : List En) (d : Bool) (a : ByteArray) (n : Nat) (hv : Fits c) (hm : a.size ≤ maxLen) (hn : U64 n) (hc : EnsAt w ao c) (hap : 0 < c.length → ApartE (fun k => k = b) ao) :
    Calls Tryz.prog 118 #[pptr b, .agg #[.slice ao c.length cap, .bool d, .string a, .int .u64 (n : Int)]] w fun e w' => e = .returned (.tuple #[]) ∧ RPen w' b (pClk M (t, x) ⟨c, d, ⟨a, n⟩⟩).1 M (pClk M (t, x) ⟨c, d, ⟨a, n⟩⟩).2 ∧ Keep1 b w w' := by
  have hbl := h.lt
  have kA : Keep0 w (w.alloc (.cells #[.slice ao c.length cap, .bool d, .string a, .int .u64 (n : Int)] 58)) := (Keep.refl _ w).alloc _
  have hX := clk_new w 58 ⟨c, d, ⟨a, n⟩⟩ ao cap
  have hP0 := h.keep0 kA
  have hE0 := hc.keep0 kA
  have yc := rcheck12_any _ ao cap c d a n hv hm hE0
  by_cases h0 : kCheck ⟨c, d, ⟨a, n⟩⟩ = 0
  case neg =>
    rw [pClk_no h0]
    have e0 : (kCheck ⟨c, d, ⟨a, n⟩⟩ != 0) = true := by simpa using h0
    have yf := fun W (h : RPen W b t M x) => rpfail_any (kCheck ⟨c, d, ⟨a, n⟩⟩) h
    clear h0 hX hE0
    generalize kCheck ⟨c, d, ⟨a, n⟩⟩ = C at *
    go_enter Tryz.func118, Tryz.ntmps118
    go_wp2_with fail
    generalize (w.alloc (.cells #[.slice ao c.length cap, .bool d, .string a, .int .u64 (n : Int)] 58)) = W0 at *
    generalize w.heap.size = g at *
    refine yc.mono ?_
    rintro e w1 ⟨rfl, k1⟩
    have yf := yf _ (hP0.keep0 k1)
    have K1 := kA.trans k1
    clear yc k1 kA hP0
    go_wp2_with fail
    refine yf.mono ?_
    rintro e w2 ⟨rfl, h2, k2⟩
    have K2 : Keep1 b w w2 := (K1.any (R := fun k => k = b)).trans k2
    clear yf k2 K1
    go_wp2
    (try simp only [Exit.inBlock, Exit.then])
    refine bodyPost_ret (results_none rfl _ _ _) rfl ?_
    exact ⟨rfl, h2, K2⟩
  rw [h0] at yc
  rw [pClk_yes h0]
  have hR := (right_iff _).1 h0
  have hvs := pVec_size M (t, x) (fun y hy => (hv.2 y hy).2)
  have hts : (t, x).1.size = t.size := rfl
  have yv := fun W (h : RPen W b t M x) (hc : EnsAt W ao c) => rput11 h (by omega) ao cap c hv hc hap
  have yg := fun W (h : RPen W b (pVec M (t, x) c).1 M (pVec M (t, x) c).2) => rpflag_any d h (by omega)
  have hE1 : ((pVec M (t, x) c).1, (pVec M (t, x) c).2) = pVec M (t, x) c := rfl
  rw [hE1] at yg
  have hfs := wFlag_size M (pVec M (t, x) c) d
  have hcd : ((⟨c, d, ⟨a, n⟩⟩ : Ck).c) = c := rfl
  have hdd : ((⟨c, d, ⟨a, n⟩⟩ : Ck).d) = d := rfl
  have hxd : ((⟨c, d, ⟨a, n⟩⟩ : Ck).x) = ⟨a, n⟩ := rfl
  rw [hcd, hdd, hxd]
  cases d with
  | false =>
    rw [pTail_no]
    generalize wFlag M (pVec M (t, x) c) false = P2 at *
    generalize pVec M (t, x) c = P1 at *
    clear h0 hR hvs hts hfs hE1 hcd hdd hxd
    obtain ⟨x0, x1, x2, x3⟩ := hX
    go_enter Tryz.func118, Tryz.ntmps118
    go_wp2_with fail
    generalize (w.alloc (.cells #[.slice ao c.length cap, .bool false, .string a, .int .u64 (n : Int)] 58)) = W0 at *
    generalize hg : w.heap.size = g at *
    have hgb : g ≠ b := by omega
    refine yc.mono ?_
    rintro e w1 ⟨rfl, k1⟩
    have yv := yv _ (hP0.keep0 k1) (hE0.keep0 k1)
    have K1 := kA.trans k1
    have y0 := k1.cell x0 (fun f => f)
    have y1 := k1.cell x1 (fun f => f)
    clear yc k1 kA hP0 hE0 x0 x1 x2 x3
    go_wp2_with fail
    refine yv.mono ?_
    rintro e w2 ⟨rfl, h2, k2⟩
    have K2 : Keep1 b w w2 := (K1.any (R := fun k => k = b)).trans k2
    have z1 := k2.cell y1 hgb
    have yg := yg _ h2
    clear yv k2 K1 h2 y0 y1
    go_wp2_with fail
    refine yg.mono ?_
    rintro e w3 ⟨rfl, h3, k3⟩
    have K3 := K2.trans k3
    have z1 := k3.cell z1 hgb
    clear yg k3 K2
    go_wp2
    go_end0
    exact ⟨rfl, h3, K3⟩
  | true =>
    have hda := (hR.dot rfl).1.2.1
    have hda : a.size ≤ 32 := hda
    rw [pTail_yes]
    have hE2 : ∀ P : ByteArray × Int, pEnt M P ⟨a, n⟩ = pOne M (wPut M 32 P a) (vText n) := fun _ => rfl
    rw [hE2]
    obtain ⟨P2, hP2⟩ : ∃ P2, wFlag M (pVec M (t, x) c) true = P2 := ⟨_, rfl⟩
    rw [hP2] at yg hfs ⊢
    have yb := fun W (h : RPen W b P2.1 M P2.2) => rbput_any 32 (by decide) a h (by omega)
    have hws := wPut_size M 32 P2 a (by omega)
    have hE3 : (P2.1, P2.2) = P2 := rfl
    rw [hE3] at yb
    obtain ⟨P3, hP3⟩ : ∃ P3, wPut M 32 P2 a = P3 := ⟨_, rfl⟩
    rw [hP3] at yb hws ⊢
    have yn := fun W (h : RPen W b P3.1 M P3.2) => rput_any n hn h (by omega)
    have hE4 : (P3.1, P3.2) = P3 := rfl
    rw [hE4] at yn
    generalize pOne M P3 (vText n) = P4 at *
    generalize pVec M (t, x) c = P1 at *
    clear h0 hR hvs hts hfs hE1 hE2 hE3 hE4 hws hP2 hP3 hda hcd hdd hxd
    obtain ⟨x0, x1, x2, x3⟩ := hX
    go_enter Tryz.func118, Tryz.ntmps118
    go_wp2_with fail
    generalize (w.alloc (.cells #[.slice ao c.length cap, .bool true, .string a, .int .u64 (n : Int)] 58)) = W0 at *
    generalize hg : w.heap.size = g at *
    have hgb : g ≠ b := by omega
    refine yc.mono ?_
    rintro e w1 ⟨rfl, k1⟩
    have yv := yv _ (hP0.keep0 k1) (hE0.keep0 k1)
    have K1 := kA.trans k1
    have y0 := k1.cell x0 (fun f => f)
    have y1 := k1.cell x1 (fun f => f)
    have y2 := k1.cell x2 (fun f => f)
    have y3 := k1.cell x3 (fun f => f)
    clear yc k1 kA hP0 hE0 x0 x1 x2 x3
    go_wp2_with fail
    refine yv.mono ?_
    rintro e w2 ⟨rfl, h2, k2⟩
    have K2 : Keep1 b w w2 := (K1.any (R := fun k => k = b)).trans k2
    replace y1 := k2.cell y1 hgb
    replace y2 := k2.cell y2 hgb
    replace y3 := k2.cell y3 hgb
    have yg := yg _ h2
    clear yv k2 K1 h2 y0
    go_wp2_with fail
    refine yg.mono ?_
    rintro e w3 ⟨rfl, h3, k3⟩
    have K3 := K2.trans k3
    replace y1 := k3.cell y1 hgb
    replace y2 := k3.cell y2 hgb
    replace y3 := k3.cell y3 hgb
    have yb := yb _ h3
    clear yg k3 K2 h3
    go_wp2_with fail
    refine yb.mono ?_
    rintro e w4 ⟨rfl, h4, k4⟩
    have K4 := K3.trans k4
    replace y3 := k4.cell y3 hgb
    have yn := yn _ h4
    clear yb k4 K3 h4 y1 y2
    go_wp2_with fail
    refine yn.mono ?_
    rintro e w5 ⟨rfl, h5, k5⟩
    have K5 := K4.trans k5
    clear yn k5 K4
    go_wp2
    go_end0
    exact ⟨rfl, h5, K5⟩
theorem rput13 {w : World} {b : Nat} {t : ByteArray} {M x : Int} (h : RPen w b t M x) (ht : t.size ≤ 900000000) (ao : Option Addr) (cap : Nat) (k : Ck) (hf : FitsK k) (hc : EnsAt w ao k.c) (hap : 0 < k.c.length → ApartE (fun i => i = b) ao) :
    Calls Tryz.prog 118 #[pptr b, .agg #[.slice ao k.c.length cap, .bool k.d, .string k.x.a, .int .u64 (k.x.n : Int)]] w fun e w' => e = .returned (.tuple #[]) ∧ RPen w' b (pClk M (t, x) k).1 M (pClk M (t, x) k).2 ∧ Keep1 b w w' :=
  rput13_any h ht ao cap k.c k.d k.x.a k.x.n hf.vec hf.dot hf.num hc hap
set_option maxRecDepth 100000 in
theorem rencode13 (w : World) (ao : Option Addr) (cap : Nat) (k : Ck) (hf : FitsK k) (hc : EnsAt w ao k.c) :
    Calls Tryz.prog 84 #[.agg #[.slice ao k.c.length cap, .bool k.d, .string k.x.a, .int .u64 (k.x.n : Int)]] w fun e w' => e = .returned (.tuple #[.string (encK k).1, .int .i64 (encK k).2]) ∧ Keep0 w w' := by
  have he := encK_pen (fun x hx => (hf.vec.2 x hx).2) hf.num
  have yn := fun W => rpnew_any W 65536
  have hpm : pMax 65536 = 65536 := rfl
  rw [hpm] at yn
  have yp := fun (W : World) (g : Nat) (h : RPen W g ⟨#[]⟩ 65536 0) (hc' : EnsAt W ao k.c) (hg : w.heap.size ≤ g) => rput13 h (by decide) ao cap k hf hc' (fun hl g' off m e hh => by have := ens_old hc hl g' off m e; omega)
  have ye := fun (W : World) (g : Nat) (h : RPen W g (pClk 65536 (⟨#[]⟩, 0) k).1 65536 (pClk 65536 (⟨#[]⟩, 0) k).2) => rpend_any h
  have e1 : (encK k).1 = pEnd (pClk 65536 (⟨#[]⟩, 0) k).1 (pClk 65536 (⟨#[]⟩, 0) k).2 := by rw [← he]
  have e2 : (encK k).2 = (pClk 65536 (⟨#[]⟩, 0) k).2 := by rw [← he]
  rw [e1, e2]
  have kA : Keep0 w (w.alloc (.cells #[.slice ao k.c.length cap, .bool k.d, .string k.x.a, .int .u64 (k.x.n : Int)] 58)) := (Keep.refl _ w).alloc _
  have hX := clk_new w 58 k ao cap
  have hz : w.heap.size < (w.alloc (.cells #[.slice ao k.c.length cap, .bool k.d, .string k.x.a, .int .u64 (k.x.n : Int)] 58)).heap.size := by rw [World.size_alloc]; omega
  have yn := yn (w.alloc (.cells #[.slice ao k.c.length cap, .bool k.d, .string k.x.a, .int .u64 (k.x.n : Int)] 58))
  generalize pClk 65536 (⟨#[]⟩, 0) k = P at *
  generalize pEnd P.1 P.2 = PE at *
  generalize P.2 = P2 at *
  generalize P.1 = P1 at *
  clear he e1 e2 hpm
  go_enter Tryz.func84, Tryz.ntmps84
  go_wp2_with fail
  generalize (w.alloc (.cells #[.slice ao k.c.length cap, .bool k.d, .string k.x.a, .int .u64 (k.x.n : Int)] 58)) = W0 at *
  generalize hg : w.heap.size = g at *
  refine yn.mono ?_
  rintro e w1 ⟨rfl, h1, k1⟩
  have K1 := kA.trans k1
  obtain ⟨x0, x1, x2, x3⟩ := hX.keep0 k1
  have yp := yp _ _ h1 (hc.keep0 K1) (by omega)
  clear yn hX
  go_wp2_with fail
  refine yp.mono ?_
  rintro e w2 ⟨rfl, h2, k2⟩
  have K2 : Keep0 w w2 := K1.step k2 (fun i hi hh => by omega)
  have ye := ye _ _ h2
  clear yp k1 k2 h1 h2 kA K1 x0 x1 x2 x3
  go_wp2_with fail
  refine ye.mono ?_
  rintro e w3 ⟨rfl, hw3⟩
  have K3 := K2.trans (keepN hw3)
  clear ye hw3 K2
  go_wp2
  go_ret2
  exact ⟨rfl, K3⟩
end Go.Proofs.YtoefibkhlhmlfaaGreat
namespace Go.Proofs.YtoefibkhlhmlfaaGreat
open Go.RowKit
set_option maxRecDepth 100000 in
theorem check10 (w : World) (ao : Option Addr) (cap : Nat) (l : List En) (ok : Ok10 l) (hc : EnsAt w ao l) :
    Calls Tryz.prog 95 #[.slice ao l.length cap] w fun e w' => e = .returned (.int .i64 (vCheck l)) ∧ Keep0 w w' := by
  have hl := ok.1
  have hl' : (l.length : Int) ≤ 9223372036854775807 := by omega
  by_cases h64 : 64 < l.length
  · have i0 : (64 : Int) < l.length := by omega
    have e : vCheck l = 3 := if_pos h64
    rw [e]
    go_enter Tryz.func95, Tryz.ntmps95
    go_wp2
    go_ret
    exact ⟨rfl, Keep.refl _ _⟩
  · have i0 : ¬ (64 : Int) < l.length := by omega
    have e : vCheck l = cGo (prv l 0) (l.drop 0) := if_neg h64
    obtain ⟨r, hr⟩ : ∃ r, vCheck l = r := ⟨_, rfl⟩
    rw [hr]
    rw [e] at hr
    have HR : Hid (cGo (prv l 0) (l.drop 0) = r) := hr
    have HC : Hid (EnsAt w ao l) := hc
    have HF : Hid (Ok10 l) := ok
    clear hr e hc ok h64
    go_enter Tryz.func95, Tryz.ntmps95
    go_wp2_with fail
    go_loopw [10] (fun i wr => ∃ (k : Nat), i = .int .i64 (k : Int) ∧ k ≤ l.length ∧ Hid (cGo (prv l k) (l.drop k) = r) ∧ Keep0 w wr) (fun i _ => l.length - (intOf i).toNat)
    case atStart => exact ⟨0, rfl, by omega, HR, Keep.refl _ _⟩
    case round =>
      obtain ⟨k, rfl, hk, HK, hK⟩ := hrel
      by_cases hlt : k < l.length
      · have i1 : (k : Int) < l.length := by omega
        have y := checkAt10 wr ao cap l HF.out (HC.out.keep0 hK) k hlt
        have hd := HK.out
        rw [go_drop hlt] at hd
        by_cases h0 : cOne (prv l k) l[k] = 0
        · rw [if_pos h0] at hd
          rw [h0] at y
          have HD : Hid (cGo (prv l (k + 1)) (l.drop (k + 1)) = r) := hd
          clear hd HK h0
          go_wp2_with fail
          refine y.mono ?_
          rintro e w1 ⟨rfl, k1⟩
          have K1 := hK.trans k1
          clear y k1 hK
          go_wp2
          go_roundw
          case rel => exact ⟨k + 1, by go_num, by omega, HD, K1⟩
          case measure => simp [intOf]; omega
        · rw [if_neg h0] at hd
          rw [hd] at y
          have e0 : (r != 0) = true := by rw [← hd]; simpa using h0
          have e1 : ¬ r = 0 := by rw [← hd]; exact h0
          clear hd HK h0 HR
          go_wp2_with fail
          refine y.mono ?_
          rintro e w1 ⟨rfl, k1⟩
          have K1 := hK.trans k1
          clear y k1 hK
          go_wp2
          go_ret
          exact ⟨rfl, K1⟩
      · have i1 : ¬ (k : Int) < l.length := by omega
        have hd := HK.out
        rw [List.drop_eq_nil_of_le (by omega)] at hd
        have HD : Hid ((0 : Int) = r) := hd
        clear hd HK
        go_wp2
        go_ret
        exact ⟨by rw [← HD.out]; rfl, hK⟩
set_option maxRecDepth 100000 in
theorem count10 (w : World) (ao : Option Addr) (cap : Nat) (l : List En) (ok : Ok10 l) (hc : EnsAt w ao l) (s : ByteArray) :
    Calls Tryz.prog 170 #[.slice ao l.length cap, .string s] w fun e w' => e = .returned (.int .u64 (vCount l s : Int)) ∧ Keep0 w w' := by
  have HC : Hid (EnsAt w ao l) := hc
  have hl := ok.1
  have hl' : (l.length : Int) ≤ 9223372036854775807 := by omega
  obtain ⟨r, hr⟩ : ∃ r, vCount l s = r := ⟨_, rfl⟩
  rw [hr]
  have HR : Hid (vCount (l.drop 0) s = r) := hr
  clear hc hr ok
  go_enter Tryz.func170, Tryz.ntmps170
  go_wp2_with fail
  go_loopw [9] (fun i wr => ∃ (k : Nat), i = .int .i64 (k : Int) ∧ k ≤ l.length ∧ Hid (vCount (l.drop k) s = r) ∧ Keep0 w wr) (fun i _ => l.length - (intOf i).toNat)
  case atStart => exact ⟨0, rfl, by omega, HR, Keep.refl _ _⟩
  case round =>
    obtain ⟨k, rfl, hk, HK, hK⟩ := hrel
    by_cases hlt : k < l.length
    · have i1 : (k : Int) < l.length := by omega
      obtain ⟨b, off, rfl, p0, p1⟩ := HC.out k hlt
      have x0 := hK.cell p0 (fun f => f)
      have x1 := hK.cell p1 (fun f => f)
      clear p0 p1
      have hd := HK.out
      rw [count_drop hlt] at hd
      have kA : ∀ o, Keep0 w (wr.alloc o) := fun o => hK.alloc o
      by_cases h1 : l[k].a = s
      · rw [if_pos h1] at hd
        have HD : Hid (l[k].n = r) := hd
        rw [h1] at x0
        clear hd HK h1
        generalize l[k].n = N at *
        go_wp2
        go_ret
        exact ⟨by rw [HD.out]; rfl, kA _⟩
      · rw [if_neg h1] at hd
        have HD : Hid (vCount (l.drop (k + 1)) s = r) := hd
        obtain ⟨e1, e2, e3⟩ := txt_ne h1
        clear hd HK
        generalize (l[k].n : Int) = N at *
        generalize l[k].a = A at *
        go_wp2
        go_roundw
        case rel => exact ⟨k + 1, by go_num, by omega, HD, kA _⟩
        case measure => simp [intOf]; omega
    · have i1 : ¬ (k : Int) < l.length := by omega
      have hd := HK.out
      rw [List.drop_eq_nil_of_le (by omega), count_nil] at hd
      have HD : Hid (0 = r) := hd
      clear hd HK
      go_wp2
      go_ret
      exact ⟨by rw [← HD.out]; rfl, hK⟩
end Go.Proofs.YtoefibkhlhmlfaaGreat
namespace Go.Proofs.YtoefibkhlhmlfaaGreat
open Go.RowKit
def Ok11 (l : List En) : Prop := l.length ≤ 10000 ∧ ∀ x ∈ l, x.a.size ≤ maxLen ∧ U64 x.n
theorem Ok11.fits {l : List En} (h : Ok11 l) : Fits l := ⟨by have := h.1; unfold maxLen; omega, h.2⟩
end Go.Proofs.YtoefibkhlhmlfaaGreat
namespace Go.Proofs.YtoefibkhlhmlfaaGreat
open Go.RowKit
theorem btxt_bad14 {s : ByteArray} {a x m : Int} (h : bErr s a x m ≠ 0) : bTxt s a x m = ⟨#[]⟩ := by
  unfold bErr cErr at h
  unfold bTxt cBytes
  rw [if_neg]
  rintro ⟨h1, h2, h3⟩
  rw [if_neg (by simpa using h1), if_neg (by omega), if_pos h3] at h
  exact h rfl
theorem cfail_yes14 (y : Int) : cFail 0 y = y := if_pos rfl
theorem cfail_no14 {x : Int} (h : x ≠ 0) (y : Int) : cFail x y = x := if_neg h
theorem nmT_test {p : Option ByteArray} {s : ByteArray} (h : ¬ 32 < s.size) : nmT p s = aTest p s := by
  unfold nmT aTest
  rw [if_neg h]
theorem btxt_size14 {s : ByteArray} {a : Int} (ha : 0 ≤ a) (ha' : a ≤ s.size) : (bTxt s a 0 32).size ≤ 32 := by
  by_cases h1 : bErr s a 0 32 = 0
  · have := btxt_le (s := s) (m := 32) (by decide) ha ha' h1
    omega
  · rw [btxt_bad14 h1]; decide
def zNam (p : Option ByteArray) (s : ByteArray) (a : Int) : Int := cFail (bErr s a 0 32) (nmT p (bTxt s a 0 32))
theorem pair_all14 (p : Option ByteArray) {s : ByteArray} {a : Int} (ha : 0 ≤ a) (ha' : a ≤ s.size) : (rPair p s a).2 = (bAt s (bAt s a 0 32) (zNam p s a) 32768, bErr s (bAt s a 0 32) (zNam p s a) 32768) := by
  have hsz := btxt_size14 ha ha'
  by_cases h1 : bErr s a 0 32 = 0
  · have hz : zNam p s a = aTest p (bTxt s a 0 32) := by unfold zNam; rw [h1, cfail_yes14, nmT_test (by omega)]
    by_cases h2 : aTest p (bTxt s a 0 32) = 0
    · rw [hz, h2]
      by_cases h3 : bErr s (bAt s a 0 32) 0 32768 = 0
      · rw [pr_d h1 h2 h3, h3]
      · rw [pr_c h1 h2 h3]
    · obtain ⟨_, b2, b3⟩ := b_bad (s := s) (a := bAt s a 0 32) 32768 h2
      rw [hz, b2, b3, pr_b h1 h2]
  · have hz : zNam p s a = bErr s a 0 32 := by unfold zNam; rw [cfail_no14 h1]
    obtain ⟨_, b2, b3⟩ := b_bad (s := s) (a := bAt s a 0 32) 32768 h1
    rw [hz, b2, b3, pr_a h1]
theorem pair_fine14 {p : Option ByteArray} {s : ByteArray} {a : Int} (ha : 0 ≤ a) (ha' : a ≤ s.size) (h : bErr s (bAt s a 0 32) (zNam p s a) 32768 = 0) : (rPair p s a).1 = ⟨bTxt s a 0 32, bTxt s (bAt s a 0 32) (zNam p s a) 32768⟩ := by
  have hsz := btxt_size14 ha ha'
  by_cases h0 : zNam p s a = 0
  · by_cases h1 : bErr s a 0 32 = 0
    · have hz : zNam p s a = aTest p (bTxt s a 0 32) := by unfold zNam; rw [h1, cfail_yes14, nmT_test (by omega)]
      rw [h0] at h ⊢
      rw [pr_d h1 (by rw [← hz]; exact h0) h]
    · refine absurd ?_ h1
      unfold zNam at h0
      rwa [cfail_no14 h1] at h0
  · obtain ⟨_, _, b3⟩ := b_bad (s := s) (a := bAt s a 0 32) 32768 h0
    rw [b3] at h
    exact absurd h h0
set_option maxRecDepth 100000 in
set_option maxHeartbeats 8000000 in
theorem take14 {w : World} {b : Nat} {s : ByteArray} {a x : Int} (h : Cur w b s a x) :
    Calls Tryz.prog 114 #[ptr b] w (RTakeP (rX [] rPrs s a x) s b w) := by
  have hbl : b < w.heap.size := h.lt
  have yk := count6_any 8 (by decide) h
  have hkb := kNum_bd s a x 8
  have hkl := countp_le (s := s) (a := a) (x := x)
  have HM : Hid (∀ (W : World) (e : Ending) (bo : Option Addr) (c : Nat) (R : List Pr × Int × Int), rX [] rPrs s a x = R → e = .returned (.slice bo R.1.length c) → Cur W b s R.2.1 R.2.2 → PrsAt W bo R.1 → (∀ g off m, bo = some ⟨g, off, m⟩ → w.heap.size ≤ g) → CapP R.1 c → Keep1 b w W → RTakeP (rX [] rPrs s a x) s b w e W) := by
    intro W e bo c R h1 h2 h3 h4 h5 h5' h6
    rw [h1]
    exact RTakeP.mk h2 h3 h4 h5 h5' h6
  by_cases h0 : kErr s a x 8 = 0
  case neg =>
    obtain ⟨hk, hr⟩ := takep_bad h0
    rw [hk] at yk
    have HR : Hid (rX [] rPrs s a x = ([], tAt s a x, kErr s a x 8)) := hr
    clear hr hk hkb hkl h0
    go_enter Tryz.func114, Tryz.ntmps114
    go_wp2_with fail
    refine yk.mono ?_
    rintro e w1 ⟨rfl, hc1, k1⟩
    go_wp2_with fail
    refine wp_loop_rounds 1 ?_
    rw [rounds_succ]
    go_wp2
    go_ret
    exact HM.out _ _ _ _ _ HR.out rfl hc1 (prs_nil _ _) (fun _ _ _ e => by cases e) ⟨Nat.le_refl _, Nat.zero_le _⟩ k1
  have hx := takep_good h0
  subst hx
  obtain ⟨N, hN⟩ : ∃ N : Nat, kNum s a 0 8 = (N : Int) := ⟨(kNum s a 0 8).toNat, by omega⟩
  have hN' : (kNum s a 0 8).toNat = N := by omega
  have hr : rX [] rPrs s a 0 = liftP [] (rPairs N none s (tAt s a 0)) := by rw [rX_yes, rprs_b h0, hN']
  rw [h0, hN] at yk
  obtain ⟨R, hR⟩ : ∃ R, rX [] rPrs s a 0 = R := ⟨_, rfl⟩
  rw [hR] at HM ⊢
  have HM : Hid (∀ (W : World) (e : Ending) (bo : Option Addr) (c : Nat) (R' : List Pr × Int × Int), R = R' → e = .returned (.slice bo R'.1.length c) → Cur W b s R'.2.1 R'.2.2 → PrsAt W bo R'.1 → (∀ g off m, bo = some ⟨g, off, m⟩ → w.heap.size ≤ g) → CapP R'.1 c → Keep1 b w W → RTakeP R s b w e W) := HM
  have HR : Hid (R = liftP [] (rPairs (N - 0) (prq [] 0) s (tAt s a 0))) := by rw [← hR]; exact hr
  have hN6 : N ≤ 8 := by omega
  clear hR hr hkb hkl h0 hN hN' h
  go_enter Tryz.func114, Tryz.ntmps114
  go_wp2_with fail
  refine yk.mono ?_
  rintro e w1 ⟨rfl, hc1, k1⟩
  clear yk
  generalize hB : w.heap.size = B at *
  go_wp2_with fail
  go_loopw [3, 8] (fun o i wr => ∃ (k : Nat) (O : List Pr) (A : Int), i = .int .i64 (k : Int) ∧ k ≤ N ∧ Hid (O.length = k) ∧ Hid (R = liftP O (rPairs (N - k) (prq O k) s A)) ∧ Cur wr b s A 0 ∧ wr.ownsRow B 135 2 o O.length (prCells O) ∧ Keep1 b w wr) (fun _ i _ => N - (intOf i).toNat)
  case atStart => exact ⟨0, [], tAt s a 0, rfl, by omega, rfl, HR, hc1, World.ownsRow_nil _ _ _ _, k1⟩
  case round =>
    obtain ⟨k, O, A, rfl, hk, HOl, HK, hc, ho, hK⟩ := hrel
    clear HR hc1 k1
    by_cases hlt : k < N
    · have i1 : (k : Int) < N := by omega
      have HK2 : Hid (R = liftP O (rPairs (N - k - 1 + 1) (prq O k) s A)) := by
        have := HK.out
        rwa [show N - k = N - k - 1 + 1 from by omega] at this
      obtain ⟨po, pc, rfl, hOe, hOn, hOc⟩ := prs_of_row ho
      clear hOc HK
      have yb := blob6_any 32 (by decide) hc
      have hall := pair_all14 (prq O k) hc.lo hc.hi
      have hfine := pair_fine14 (p := prq O k) hc.lo hc.hi
      have hsz := btxt_size14 hc.lo hc.hi
      have yn : ∀ W, PrsAt W po O → Calls Tryz.prog 143 #[.slice po O.length pc, .string (bTxt s A 0 32)] W fun e w' => e = .returned (.int .i64 (nmT (prq O k) (bTxt s A 0 32))) ∧ Keep0 W w' := by
        intro W h
        have := checkName14 W po pc O (bTxt s A 0 32) (by rw [HOl.out]; unfold maxLen; omega) (by unfold maxLen; omega) h
        rw [show prq O O.length = prq O k from by rw [HOl.out]] at this
        exact this
      have hz : cFail (bErr s A 0 32) (nmT (prq O k) (bTxt s A 0 32)) = zNam (prq O k) s A := rfl
      have yf := fun W (h : Cur W b s (bAt s A 0 32) (bErr s A 0 32)) => fail_any (nmT (prq O k) (bTxt s A 0 32)) h
      rw [hz] at yf
      have yv := fun W (h : Cur W b s (bAt s A 0 32) (zNam (prq O k) s A)) => blob6_any 32768 (by decide) h
      obtain ⟨TE, hTE⟩ : ∃ TE, bErr s (bAt s A 0 32) (zNam (prq O k) s A) 32768 = TE := ⟨_, rfl⟩
      have HF : Hid (TE ≠ 0 → R = ([], bAt s (bAt s A 0 32) (zNam (prq O k) s A) 32768, TE)) := by
        intro h1
        have hR := prs_bad (n := N - k - 1) O (show (rPair (prq O k) s A).2.2 ≠ 0 by rw [hall, hTE]; exact h1)
        rw [hall, hTE] at hR
        rw [← hR]
        exact HK2.out
      have HN : Hid (TE = 0 → R = liftP (O ++ [⟨bTxt s A 0 32, bTxt s (bAt s A 0 32) (zNam (prq O k) s A) 32768⟩]) (rPairs (N - (k + 1)) (prq (O ++ [⟨bTxt s A 0 32, bTxt s (bAt s A 0 32) (zNam (prq O k) s A) 32768⟩]) (k + 1)) s (bAt s (bAt s A 0 32) (zNam (prq O k) s A) 32768))) := by
        intro h1
        have hR := prs_more (n := N - k - 1) O (show (rPair (prq O k) s A).2.2 = 0 by rw [hall, hTE]; exact h1)
        rw [hfine (by rw [hTE]; exact h1), hall] at hR
        rw [prq_app HOl.out, HK2.out, hR]
        rfl
      rw [hTE] at yv
      clear hall hfine hTE hz HK2 hsz
      generalize bTxt s (bAt s A 0 32) (zNam (prq O k) s A) 32768 = M at *
      generalize bAt s (bAt s A 0 32) (zNam (prq O k) s A) 32768 = TA at *
      generalize zNam (prq O k) s A = Z at *
      generalize bTxt s A 0 32 = T at *
      generalize nmT (prq O k) T = C at *
      generalize bAt s A 0 32 = A2 at *
      generalize bErr s A 0 32 = E2 at *
      go_wp2_with fail
      refine yb.mono ?_
      rintro e w2 ⟨rfl, hc2, k2⟩
      have K2 := hK.trans k2
      have ho2 := rowE_keep ho k2 (fun k hk e => by omega)
      have yn := yn w2 (hOe.keep k2 (fun g off m e hh => by have := hOn g off m e; omega))
      clear k2 hK yb hc ho hOe hOn
      go_wp2_with fail
      refine yn.mono ?_
      rintro e w3 ⟨rfl, k3⟩
      have K3 := K2.step0 k3
      have ho3 := rowE_keep ho2 k3 (fun _ _ f => f)
      have yf := yf w3 (hc2.keep0 k3)
      clear k3 K2 yn hc2 ho2
      go_wp2_with fail
      refine yf.mono ?_
      rintro e w4 ⟨rfl, hc4, k4⟩
      have K4 := K3.trans k4
      have ho4 := rowE_keep ho3 k4 (fun k hk e => by omega)
      have yv := yv w4 hc4
      clear k4 K3 yf hc4 ho3
      go_wp2_with fail
      refine yv.mono ?_
      rintro e w5 ⟨rfl, hc5, k5⟩
      have K5 := K4.trans k5
      have ho5 := rowE_keep ho4 k5 (fun k hk e => by omega)
      have ye := err_any hc5
      clear k5 K4 yv ho4
      go_wp2_with fail
      refine ye.mono ?_
      rintro e w5' ⟨rfl, rfl⟩
      clear ye
      by_cases h1 : TE = 0
      case neg =>
        have HF2 : Hid (R = ([], TA, TE)) := HF.out h1
        have e1 : (TE != 0) = true := by simpa using h1
        clear HF HN h1
        go_wp2
        go_ret
        exact HM.out _ _ _ _ _ HF2.out rfl hc5 (prs_nil _ _) (fun _ _ _ e => by cases e) ⟨Nat.le_refl _, Nat.zero_le _⟩ K5
      have HN2 : Hid (R = liftP (O ++ [⟨T, M⟩]) (rPairs (N - (k + 1)) (prq (O ++ [⟨T, M⟩]) (k + 1)) s TA)) := HN.out h1
      subst h1
      have kW : Keep0 w5 (w5.alloc (.cells #[.string T, .string M] 135)) := (Keep.refl _ w5).alloc _
      have oW := rowE_keep ho5 kW (fun _ _ f => f)
      have xW := pr_new w5 135 ⟨T, M⟩
      have cW := hc5.keep0 kW
      have KW := K5.step0 kW
      have zW := KW.size
      have z3 := K5.size
      clear HF HN hc5 kW K5 ho5
      go_wp2_with (at_builtin; refine wpList_append_prs rfl _ _ rfl rfl rfl oW xW ?c1 ?c2 ?_)
      case c1 => first | exact zW | omega
      case c2 => (have := HOl.out); first | omega | (show O.length + 1 ≤ 1000000; omega)
      intro v6 w6 hx6 hg
      have ho6 : w6.ownsRow B 135 2 v6 (O ++ [(⟨T, M⟩ : Pr)]).length (prCells (O ++ [(⟨T, M⟩ : Pr)])) := by simpa using hx6
      have cG := cW.keep (Keep.pGrown (B := B) hg (fun k hk => (oW.lt k hk).1)) (by omega)
      have KG : Keep1 b w w6 := KW.step (Keep.pGrown (B := B) hg (fun k hk => (oW.lt k hk).1)) (fun i hi hh => by have hh : B ≤ i := hh; omega)
      clear hx6 oW xW cW KW zW z3 hg
      obtain ⟨vo', vn', vc', rfl⟩ := sliceE_of_own ho6
      go_wp2
      go_roundw
      case rel => exact ⟨k + 1, O ++ [⟨T, M⟩], TA, by go_num, by omega, (by show (O ++ [(⟨T, M⟩ : Pr)]).length = _; rw [List.length_append, HOl.out]; rfl), HN2, cG, ho6, KG⟩
      case measure => simp [intOf]; omega
    · have i1 : ¬ (k : Int) < N := by omega
      obtain ⟨po, pc, rfl, hOe, hOn, hOc⟩ := prs_of_row ho
      have hF : R = (O, A, 0) := by rw [HK.out, show N - k = 0 from by omega, prs_zero]
      have HF : Hid (R = (O, A, 0)) := hF
      have hcapO := rowP_cap ho
      clear hF HK ho hOc
      go_wp2
      go_ret
      exact HM.out _ _ _ _ _ HF.out rfl hc hOe hOn hcapO hK
end Go.Proofs.YtoefibkhlhmlfaaGreat
