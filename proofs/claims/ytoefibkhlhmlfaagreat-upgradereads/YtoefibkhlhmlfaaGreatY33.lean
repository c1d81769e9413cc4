/-
  What this seat's claims lean on of the texts DcC.
  Conditions: as each theorem states.
-/
import Derived.WalkKit
import Derived.ProofKit
import Derived.Below
import Derived.Deep.Draws
import Derived.Deep.RegionHeld
import Derived.Test.YtoefibkhlhmlfaaGreatChecked
import Derived.OpenShut
import Derived.ShutString
import Derived.WalkSpells
import Derived.WalkLawsBesides
import Derived.Deep.QuietTactic
import Derived.BigQuiet
import Derived.Laws.Bits64b
import Derived.PlainAid
import Derived.Lib.AppendStr
import Derived.Deep.AppendLies
import Derived.Laws.IdiomStrings
import Derived.Laws.BytesArg
import Derived.Deep.RegionWith
import Derived.Laws.AppendOwn
import Derived.Deep.DeepAppendWide
import Derived.Deep.Upon
import Derived.Laws.Rows
import Derived.Deep.Slices
import Derived.Test.YtoefibkhlhmlfaaGreatY31
import Derived.Test.YtoefibkhlhmlfaaGreatY28
namespace Go.Proofs.YtoefibkhlhmlfaaGreat
open Go.RowKit
set_option maxRecDepth 100000 in
set_option maxHeartbeats 4000000 in
theorem pput13_any {w : World} {b r : Nat} {t : ByteArray} {M x : Int} (h : Pen w b r t M x) (ht : t.size ≤ 800000000) (ao : Option Addr) (cap : Nat) (c : List En) (d : Bool) (a : ByteArray) (n : Nat) (h0 : kCheck ⟨c, d, ⟨a, n⟩⟩ = 0) (ok : Ok11 c) (hn : U64 n) (hc : EnsAt w ao c) (hap : 0 < c.length → ApartE (two b r) ao) :
    Calls Tryz.prog 172 #[pptr b, .agg #[.slice ao c.length cap, .bool d, .string a, .int .u64 (n : Int)]] w fun e w' => e = .returned (.tuple #[]) ∧ PenAfter w w' b r M (pClk M (t, x) ⟨c, d, ⟨a, n⟩⟩) := by
  have hbl := h.lt
  have hrl := h.rlt
  have hR := (right_iff _).1 h0
  have kB : Keep0 w ((w.alloc (.cells #[.slice ao c.length cap, .bool d, .string a, .int .u64 (n : Int)] 58)).alloc (.cells #[.slice ao c.length cap] 54)) := ((Keep.refl _ w).alloc _).alloc _
  have qB : QAt ((w.alloc (.cells #[.slice ao c.length cap, .bool d, .string a, .int .u64 (n : Int)] 58)).alloc (.cells #[.slice ao c.length cap] 54)) w.heap.size (.slice ao c.length cap) (.bool d) (.string a) (.int .u64 (n : Int)) := (QAt.new w 58 _ _ _ _).keep0 ((Keep.refl _ _).alloc _)
  have z1 : ((w.alloc (.cells #[.slice ao c.length cap, .bool d, .string a, .int .u64 (n : Int)] 58)).alloc (.cells #[.slice ao c.length cap] 54)).heap.size = w.heap.size + 2 := by rw [World.size_alloc, World.size_alloc]
  have yv : Calls Tryz.prog 184 #[pptr b, .slice (some ⟨w.heap.size + 1, 0, none⟩) 1 1] ((w.alloc (.cells #[.slice ao c.length cap, .bool d, .string a, .int .u64 (n : Int)] 58)).alloc (.cells #[.slice ao c.length cap] 54)) fun e w' => e = .returned (.tuple #[]) ∧ ∃ r', Pen w' b r' (pVec M (t, x) c).1 M (pVec M (t, x) c).2 ∧ Keep (two b r) ((w.alloc (.cells #[.slice ao c.length cap, .bool d, .string a, .int .u64 (n : Int)] 58)).alloc (.cells #[.slice ao c.length cap] 54)) w' ∧ (r' = r ∨ ((w.alloc (.cells #[.slice ao c.length cap, .bool d, .string a, .int .u64 (n : Int)] 58)).alloc (.cells #[.slice ao c.length cap] 54)).heap.size ≤ r') := by
    refine put11g (some ⟨w.heap.size + 1, 0, none⟩) 1 [c] (h.keep0 kB) (by omega) (by show 1 ≤ 100; decide) (fun y hy => by rw [List.mem_singleton.1 hy]; exact ok) ?_
    intro i hi
    obtain rfl : i = 0 := by simpa using hi
    refine ⟨w.heap.size + 1, 0, ao, cap, rfl, by unfold two; omega, ?_, hc.keep0 kB, fun hl => hap hl⟩
    have := cell_alloc (w.alloc (.cells #[.slice ao c.length cap, .bool d, .string a, .int .u64 (n : Int)] 58)) (c := #[.slice ao c.length cap]) 54 (i := 0) rfl
    rw [World.size_alloc] at this
    exact this
  have hvs := pVec_size M (t, x) (fun y hy => (ok.2 y hy).2)
  have hts : (t, x).1.size = t.size := rfl
  have yg := fun W r1 (h : Pen W b r1 (pVec M (t, x) c).1 M (pVec M (t, x) c).2) => pflag6_any d h (by omega)
  have hE1 : ((pVec M (t, x) c).1, (pVec M (t, x) c).2) = pVec M (t, x) c := rfl
  rw [hE1] at yg
  have hfs := wFlag_size M (pVec M (t, x) c) d
  have HB : Hid (∀ W r' P, pTail M (wFlag M (pVec M (t, x) c) d) d ⟨a, n⟩ = P → Pen W b r' P.1 M P.2 → Keep (two b r) w W → (r' = r ∨ w.heap.size ≤ r') → PenAfter w W b r M (pClk M (t, x) ⟨c, d, ⟨a, n⟩⟩)) := by
    intro W r' P hP h1 h2 h3
    rw [pClk_yes h0, show pTail M (wFlag M (pVec M (t, x) c) d) d ⟨a, n⟩ = P from hP]
    exact ⟨r', h1, h2, h3⟩
  cases d with
  | false =>
    have HP : Hid (pTail M (wFlag M (pVec M (t, x) c) false) false ⟨a, n⟩ = wFlag M (pVec M (t, x) c) false) := pTail_no
    generalize wFlag M (pVec M (t, x) c) false = P2 at *
    generalize pVec M (t, x) c = P1 at *
    clear h0 hR hvs hts hfs hE1 ok hc hap h ht
    obtain ⟨x0, x1, x2, x3, f0, f1, f2, f3⟩ := qB.cells
    obtain ⟨u0, -⟩ := (QAt.new w 58 (.slice ao c.length cap) (.bool false) (.string a) (.int .u64 (n : Int))).cells
    go_enter Tryz.func172, Tryz.ntmps172
    go_wp2_with fail
    generalize ((w.alloc (.cells #[.slice ao c.length cap, .bool false, .string a, .int .u64 (n : Int)] 58)).alloc (.cells #[.slice ao c.length cap] 54)) = W0 at *
    obtain ⟨g, hg⟩ : ∃ g, w.heap.size = g := ⟨_, rfl⟩
    have HG : Hid (w.heap.size = g) := hg
    rw [hg] at qB z1 hbl hrl yv ⊢
    have n0 : ¬ two b r g := by unfold two; omega
    refine yv.mono ?_
    rintro e w1 ⟨rfl, r1, h1, k1, hr1⟩
    have K1 : Keep (two b r) w w1 := (kB.any (R := two b r)).trans k1
    have q1 := qB.keep k1 n0
    have s1 := k1.size
    have m1 : ¬ two b r1 g := by unfold two; omega
    have hr1' : r1 = r ∨ g ≤ r1 := by omega
    have yg := yg _ _ h1
    clear yv kB x0 x1 x2 x3 f0 f1 f2 f3 u0 qB h1 hg k1
    obtain ⟨x0, x1, x2, x3, f0, f1, f2, f3⟩ := q1.cells
    go_wp2_with fail
    refine yg.mono ?_
    rintro e w2 ⟨rfl, r2, h2, k2, hr2⟩
    have K2 : Keep (two b r) w w2 := K1.step k2 (fun i hi hh => by have := HG.out; unfold two at hh ⊢; omega)
    have q2 := q1.keep k2 m1
    have s2 := k2.size
    have m2 : ¬ two b r2 g := by unfold two; omega
    have hr2' : r2 = r ∨ g ≤ r2 := by omega
    clear yg k2 K1 q1 x0 x1 x2 x3 f0 f1 f2 f3
    obtain ⟨x0, x1, x2, x3, f0, f1, f2, f3⟩ := q2.cells
    go_wp2
    go_end0
    exact ⟨rfl, HB.out _ _ _ HP.out h2 K2 (by have := HG.out; omega)⟩
  | true =>
    have hda : a.size ≤ 32 := (hR.dot rfl).1.2.1
    obtain ⟨P2, hP2⟩ : ∃ P2, wFlag M (pVec M (t, x) c) true = P2 := ⟨_, rfl⟩
    rw [hP2] at yg hfs HB
    have yb := fun W r2 (h : Pen W b r2 P2.1 M P2.2) => bput_one11 h 32 (by decide) a (by unfold maxLen; omega) (by omega) 9 _ rfl
    have hws := wPut_size M 32 P2 a (by omega)
    have hE3 : (P2.1, P2.2) = P2 := rfl
    rw [hE3] at yb
    obtain ⟨P3, hP3⟩ : ∃ P3, wPut M 32 P2 a = P3 := ⟨_, rfl⟩
    rw [hP3] at yb hws
    have yn := fun W r3 (h : Pen W b r3 P3.1 M P3.2) => vput_one h n hn (by omega) 51
    have hE4 : (P3.1, P3.2) = P3 := rfl
    rw [hE4] at yn
    have HP : Hid (pTail M P2 true ⟨a, n⟩ = pOne M P3 (vText n)) := by
      show pOne M (wPut M 32 P2 a) (vText n) = _
      rw [hP3]
    generalize pOne M P3 (vText n) = P4 at *
    generalize pVec M (t, x) c = P1 at *
    clear h0 hR hvs hts hfs hE1 hE3 hE4 hws hP2 hP3 hda ok hc hap h ht
    obtain ⟨x0, x1, x2, x3, f0, f1, f2, f3⟩ := qB.cells
    obtain ⟨u0, -⟩ := (QAt.new w 58 (.slice ao c.length cap) (.bool true) (.string a) (.int .u64 (n : Int))).cells
    go_enter Tryz.func172, Tryz.ntmps172
    go_wp2_with fail
    generalize ((w.alloc (.cells #[.slice ao c.length cap, .bool true, .string a, .int .u64 (n : Int)] 58)).alloc (.cells #[.slice ao c.length cap] 54)) = W0 at *
    obtain ⟨g, hg⟩ : ∃ g, w.heap.size = g := ⟨_, rfl⟩
    have HG : Hid (w.heap.size = g) := hg
    rw [hg] at qB z1 hbl hrl yv ⊢
    have n0 : ¬ two b r g := by unfold two; omega
    refine yv.mono ?_
    rintro e w1 ⟨rfl, r1, h1, k1, hr1⟩
    have K1 : Keep (two b r) w w1 := (kB.any (R := two b r)).trans k1
    have q1 := qB.keep k1 n0
    have s1 := k1.size
    have m1 : ¬ two b r1 g := by unfold two; omega
    have hr1' : r1 = r ∨ g ≤ r1 := by omega
    have yg := yg _ _ h1
    clear yv kB x0 x1 x2 x3 f0 f1 f2 f3 u0 qB h1 hg k1
    obtain ⟨x0, x1, x2, x3, f0, f1, f2, f3⟩ := q1.cells
    go_wp2_with fail
    refine yg.mono ?_
    rintro e w2 ⟨rfl, r2, h2, k2, hr2⟩
    have K2 : Keep (two b r) w w2 := K1.step k2 (fun i hi hh => by have := HG.out; unfold two at hh ⊢; omega)
    have q2 := q1.keep k2 m1
    have s2 := k2.size
    have m2 : ¬ two b r2 g := by unfold two; omega
    have hr2' : r2 = r ∨ g ≤ r2 := by omega
    clear yg k2 K1 q1 x0 x1 x2 x3 f0 f1 f2 f3
    obtain ⟨x0, x1, x2, x3, f0, f1, f2, f3⟩ := q2.cells
    have yb := yb _ _ h2
    go_wp2_with fail
    refine yb.mono ?_
    rintro e w3 ⟨rfl, r3, h3, k3, hr3⟩
    have K3 : Keep (two b r) w w3 := K2.step k3 (fun i hi hh => by have := HG.out; unfold two at hh ⊢; omega)
    have q3 := q2.keep k3 m2
    have s3 := k3.size
    have hr3' : r3 = r ∨ g ≤ r3 := by omega
    clear yb k3 K2 q2 x0 x1 x2 x3 f0 f1 f2 f3
    obtain ⟨x0, x1, x2, x3, f0, f1, f2, f3⟩ := q3.cells
    have yn := yn _ _ h3
    go_wp2_with fail
    refine yn.mono ?_
    rintro e w4 ⟨rfl, r4, h4, k4, hr4⟩
    have K4 : Keep (two b r) w w4 := K3.step k4 (fun i hi hh => by have := HG.out; unfold two at hh ⊢; omega)
    clear yn k4 K3 q3 x0 x1 x2 x3 f0 f1 f2 f3
    go_wp2
    go_end0
    exact ⟨rfl, HB.out _ _ _ HP.out h4 K4 (by have := HG.out; omega)⟩
theorem pput13 {w : World} {b r : Nat} {t : ByteArray} {M x : Int} (h : Pen w b r t M x) (ht : t.size ≤ 800000000) (ao : Option Addr) (cap : Nat) (k : Ck) (h0 : kCheck k = 0) (ok : Ok13 k) (hc : EnsAt w ao k.c) (hap : 0 < k.c.length → ApartE (two b r) ao) :
    Calls Tryz.prog 172 #[pptr b, .agg #[.slice ao k.c.length cap, .bool k.d, .string k.x.a, .int .u64 (k.x.n : Int)]] w fun e w' => e = .returned (.tuple #[]) ∧ PenAfter w w' b r M (pClk M (t, x) k) :=
  pput13_any h ht ao cap k.c k.d k.x.a k.x.n h0 ⟨ok.len, ok.fit.vec.2⟩ ok.fit.num hc hap
def ClksBy (w : World) (b r : Nat) (ao : Option Addr) (ls : List Ck) : Prop := ∀ i (_ : i < ls.length), ∃ bb off vo c, ao = some ⟨bb, off, none⟩ ∧ ¬ two b r bb ∧ ClkAt w bb (off + i * 4) ls[i] vo c ∧ EnsAt w vo ls[i].c ∧ (0 < ls[i].c.length → ApartE (two b r) vo)
set_option maxRecDepth 100000 in
set_option maxHeartbeats 8000000 in
theorem put13g {w : World} {b r : Nat} {t : ByteArray} {M x : Int} (ao : Option Addr) (cap : Nat) (ls : List Ck) (h : Pen w b r t M x) (ht : t.size ≤ 100000000) (hls : ls.length ≤ 100) (hok : ∀ l ∈ ls, Ok13 l) (hc : ClksBy w b r ao ls) :
    Calls Tryz.prog 146 #[pptr b, .slice ao ls.length cap] w fun e w' => e = .returned (.tuple #[]) ∧ ∃ r', Pen w' b r' (pClks M (t, x) ls).1 M (pClks M (t, x) ls).2 ∧ Keep (fun k => k = b ∨ k = r) w w' ∧ (r' = r ∨ w.heap.size ≤ r') := by
  have HC : Hid (ClksBy w b r ao ls) := hc
  have HO : Hid (∀ l ∈ ls, Ok13 l) := hok
  have HL : Hid (ls.length ≤ 100) := hls
  have hl' : (ls.length : Int) ≤ 9223372036854775807 := by omega
  obtain ⟨R, hR⟩ : ∃ R, pClks M (t, x) ls = R := ⟨_, rfl⟩
  rw [hR]
  have HR : Hid (pClks M (t, x) ls = R) := hR
  have HB : Hid (∀ W r', Pen W b r' R.1 M R.2 → Keep (two b r) w W → (r' = r ∨ w.heap.size ≤ r') → ∃ r', Pen W b r' R.1 M R.2 ∧ Keep (fun k => k = b ∨ k = r) w W ∧ (r' = r ∨ w.heap.size ≤ r')) := fun W r' h1 h2 h3 => ⟨r', h1, h2, h3⟩
  have hs0 : Hid (∀ k, k ≤ ls.length → (pClks M (t, x) (ls.take k)).1.size ≤ t.size + 3400 * k) := by
    intro k
    induction k with
    | zero => intro _; exact Nat.le_refl _
    | succ k ih =>
      intro hk
      have h1 := ih (by omega)
      rw [pClks_take (by omega)]
      have hm := hok _ (List.getElem_mem (show k < ls.length by omega))
      have h2 := pClk_size M (pClks M (t, x) (ls.take k)) (k := ls[k]'(by omega)) hm.u64.1 hm.u64.2
      omega
  clear hc hok hR
  generalize hB : w.heap.size = B at *
  go_enter Tryz.func146, Tryz.ntmps146
  go_wp2_with fail
  go_loopw [8] (fun i wr => ∃ (k : Nat) (r' : Nat), i = .int .i64 (k : Int) ∧ k ≤ ls.length ∧ Pen wr b r' (pClks M (t, x) (ls.take k)).1 M (pClks M (t, x) (ls.take k)).2 ∧ (r' = r ∨ B ≤ r') ∧ Keep (two b r) w wr) (fun i _ => ls.length - (intOf i).toNat)
  case atStart => exact ⟨0, r, rfl, by omega, h, .inl rfl, Keep.refl _ _⟩
  case round =>
    obtain ⟨k, r', rfl, hk2, hp, hr', hK⟩ := hrel
    clear h
    by_cases hlt : k < ls.length
    · have i1 : (k : Int) < ls.length := by omega
      obtain ⟨bb, off, bo, c, e0, hap, x0', y0', hn0⟩ := HC.out k hlt
      subst e0
      obtain ⟨xa', xb', xc', xd'⟩ := x0'
      have xa := hK.cell xa' hap
      have xb := hK.cell xb' hap
      have xc := hK.cell xc' hap
      have xd := hK.cell xd' hap
      have y0 : EnsAt wr bo ls[k].c := by
        by_cases hz : 0 < ls[k].c.length
        · exact y0'.keep hK (hn0 hz)
        · exact fun i hi => absurd hi (by omega)
      have hold : 0 < (ls[k]).c.length → ∀ g off m, bo = some ⟨g, off, m⟩ → ¬ two b r g ∧ g < B := fun h g off m e => ⟨hn0 h g off m e, by have := ens_old y0' h g off m e; omega⟩
      have HS := hs0.out k (by omega)
      have hL := HL.out
      have hokk := HO.out ls[k] (List.getElem_mem hlt)
      have kA : Keep0 wr (wr.alloc (.cells #[.slice bo ls[k].c.length c, .bool ls[k].d, .string ls[k].x.a, .int .u64 (ls[k].x.n : Int)] 58)) := (Keep.refl _ wr).alloc _
      have q0 := QAt.new wr 58 (.slice bo ls[k].c.length c) (.bool ls[k].d) (.string ls[k].x.a) (.int .u64 (ls[k].x.n : Int))
      have hpA := hp.keep0 kA
      have yA := y0.keep0 kA
      have KA := hK.step0 kA
      have yc := check12 _ bo c ls[k] ⟨hokk.len, hokk.fit⟩ yA
      have hbl := hp.lt
      have hrl := hp.rlt
      have hE : ((pClks M (t, x) (ls.take k)).1, (pClks M (t, x) (ls.take k)).2) = pClks M (t, x) (ls.take k) := rfl
      have zr := hK.size
      rw [hB] at zr
      have nb : wr.heap.size ≠ b := by omega
      have nr : ¬ two b r' wr.heap.size := by unfold two; omega
      have HH : Hid (0 < (ls[k]).c.length → ∀ g off m, bo = some ⟨g, off, m⟩ → ¬ two b r g ∧ g < B) := hold
      obtain ⟨qa, qb, qc, qd, -⟩ := q0.cells
      clear xa' xb' xc' xd' y0' hn0 hp y0 kA
      by_cases hx : pFail (pClks M (t, x) (ls.take k)).2 (kCheck ls[k]) = 0
      · obtain ⟨hx0, hv⟩ : (pClks M (t, x) (ls.take k)).2 = 0 ∧ kCheck ls[k] = 0 := by
          unfold pFail at hx
          by_cases h0 : (pClks M (t, x) (ls.take k)).2 = 0
          · rw [if_pos h0] at hx; exact ⟨h0, hx⟩
          · rw [if_neg h0] at hx; exact absurd hx h0
        have hS := pClks_take (M := M) (p := (t, x)) hlt
        have ypp := fun W (h : Pen W b r' (pClks M (t, x) (ls.take k)).1 M (pClks M (t, x) (ls.take k)).2) (hc' : EnsAt W bo ls[k].c) => pput13 h (by omega) bo c ls[k] hv hokk hc' (fun hl g off m e hh => by have := hold hl g off m e; unfold two at hh this; omega)
        rw [hE] at ypp
        rw [← hS] at ypp
        obtain ⟨P2, hP2⟩ : ∃ P2, pClks M (t, x) (ls.take (k + 1)) = P2 := ⟨_, rfl⟩
        rw [hP2] at ypp
        have HS2 : Hid (pClks M (t, x) (ls.take (k + 1)) = P2) := hP2
        rw [hv] at yc
        rw [hx0] at hpA ypp
        have yf := fun W (h : Pen W b r' (pClks M (t, x) (ls.take k)).1 M 0) => pfail_any 0 h
        have hpf : pFail 0 0 = 0 := rfl
        rw [hpf] at yf
        clear hpf hP2 hS hE hx hx0 hv hokk HS hold
        generalize (pClks M (t, x) (ls.take k)).1 = T0 at *
        generalize ls[k] = L at *
        go_wp2_with fail
        generalize (wr.alloc (.cells #[.slice bo L.c.length c, .bool L.d, .string L.x.a, .int .u64 (L.x.n : Int)] 58)) = WA at *
        obtain ⟨G, hG⟩ : ∃ G, wr.heap.size = G := ⟨_, rfl⟩
        rw [hG] at q0 nb nr zr hbl hrl ⊢
        refine yc.mono ?_
        rintro e w1 ⟨rfl, k1⟩
        have h1 := hpA.keep0 k1
        have y1 := yA.keep0 k1
        have q1 := q0.keep0 k1
        have K1 := KA.step0 k1
        have yf := yf _ h1
        clear yc k1 KA hpA yA q0 xa xb xc xd qa qb qc qd hK hG
        go_wp2_with fail
        refine yf.mono ?_
        rintro e w2 ⟨rfl, h2, k2⟩
        have K2 : Keep (two b r) w w2 := K1.step k2 (fun i hi hh => Or.inl hh)
        have q2 := q1.keep k2 nb
        have ye := perr_any h2
        have z2 := K2.size
        rw [hB] at z2
        have y2 : EnsAt w2 bo L.c := by
          by_cases hz : 0 < L.c.length
          · exact y1.keep k2 (fun g off m e hh => by have := HH.out hz g off m e; unfold two at this; omega)
          · exact fun i hi => absurd hi (by omega)
        have ypp := ypp _ h2 y2
        clear yf k2 K1 h1 y1 y2 q1
        obtain ⟨qa, qb, qc, qd, -⟩ := q2.cells
        go_wp2_with fail
        refine ye.mono ?_
        rintro e w2' ⟨rfl, rfl⟩
        clear ye
        go_wp2_with fail
        refine ypp.mono ?_
        rintro e w3 ⟨rfl, r3, h3, k3, hr3⟩
        have K3 : Keep (two b r) w w3 := K2.step k3 (fun i hi hh => by unfold two at hh ⊢; omega)
        have hr3' : r3 = r ∨ B ≤ r3 := by omega
        clear ypp k3 K2 h2 qa qb qc qd q2
        go_wp2
        go_roundw
        case rel => exact ⟨k + 1, r3, by go_num, by omega, by rw [HS2.out]; exact h3, hr3', K3⟩
        case measure => simp [intOf]; omega
      · have hF : R = ((pClks M (t, x) (ls.take k)).1, pFail (pClks M (t, x) (ls.take k)).2 (kCheck ls[k])) := by
          rw [← HR.out]
          by_cases h0 : (pClks M (t, x) (ls.take k)).2 = 0
          · have hv : kCheck ls[k] ≠ 0 := by
              intro hv
              apply hx
              unfold pFail
              rw [if_pos h0, hv]
            exact pClks_stop (i := k + 1) (by rw [pClks_take hlt, pClk_no hv]) hx
          · have e : pFail (pClks M (t, x) (ls.take k)).2 (kCheck ls[k]) = (pClks M (t, x) (ls.take k)).2 := if_neg h0
            rw [e]
            exact pClks_stop (i := k) rfl h0
        have HF : Hid (R = ((pClks M (t, x) (ls.take k)).1, pFail (pClks M (t, x) (ls.take k)).2 (kCheck ls[k]))) := hF
        have yf := fun W (h : Pen W b r' (pClks M (t, x) (ls.take k)).1 M (pClks M (t, x) (ls.take k)).2) => pfail_any (kCheck ls[k]) h
        have e1 : (pFail (pClks M (t, x) (ls.take k)).2 (kCheck ls[k]) != 0) = true := by simpa using hx
        clear hF hE hokk HS hold HH
        generalize pFail (pClks M (t, x) (ls.take k)).2 (kCheck ls[k]) = E at *
        generalize kCheck ls[k] = V at *
        generalize pClks M (t, x) (ls.take k) = P0 at *
        generalize ls[k] = L at *
        go_wp2_with fail
        generalize (wr.alloc (.cells #[.slice bo L.c.length c, .bool L.d, .string L.x.a, .int .u64 (L.x.n : Int)] 58)) = WA at *
        refine yc.mono ?_
        rintro e w1 ⟨rfl, k1⟩
        have h1 := hpA.keep0 k1
        have K1 := KA.step0 k1
        have yf := yf _ h1
        clear yc k1 KA hpA yA q0 xa xb xc xd qa qb qc qd hK
        go_wp2_with fail
        refine yf.mono ?_
        rintro e w2 ⟨rfl, h2, k2⟩
        have K2 : Keep (two b r) w w2 := K1.step k2 (fun i hi hh => Or.inl hh)
        have ye := perr_any h2
        clear yf k2 K1 h1
        go_wp2_with fail
        refine ye.mono ?_
        rintro e w2' ⟨rfl, rfl⟩
        clear ye
        go_wp2
        (try simp only [Exit.inBlock, Exit.then])
        refine bodyPost_ret (results_none rfl _ _ _) rfl ?_
        exact ⟨rfl, HB.out _ _ (by rw [HF.out]; exact h2) K2 hr'⟩
    · have i1 : ¬ (k : Int) < ls.length := by omega
      have ek : ls.take k = ls := List.take_of_length_le (by omega)
      rw [ek, HR.out] at hp
      go_wp2
      go_end0
      exact ⟨rfl, HB.out _ _ hp hK hr'⟩
end Go.Proofs.YtoefibkhlhmlfaaGreat
