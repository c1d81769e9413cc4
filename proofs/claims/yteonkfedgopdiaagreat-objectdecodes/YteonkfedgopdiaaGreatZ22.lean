/-
  What this seat's claims lean on of the texts RefObj4, DMem, ObjMem, OwnPl, RefDcode3.
  Conditions: as each theorem states.
-/
import Derived.WalkKit
import Derived.ProofKit
import Derived.Below
import Derived.Deep.Draws
import Derived.Deep.RegionHeld
import Derived.Test.YteonkfedgopdiaaGreatChecked
import Derived.OpenShut
import Derived.ShutString
import Derived.WalkSpells
import Derived.WalkLawsBesides
import Derived.Deep.QuietTactic
import Derived.BigQuiet
import Derived.Laws.Bits64b
import Derived.PlainAid
import Derived.Lib.AppendStr
import Derived.Deep.AppendLies
import Derived.Laws.IdiomStrings
import Derived.Laws.BytesArg
import Derived.Deep.RegionWith
import Derived.Laws.AppendOwn
import Derived.Deep.DeepAppendWide
import Derived.Deep.Upon
import Derived.Maps.AppendAt
import Derived.Laws.Rows
import Derived.Deep.Slices
import Derived.Test.YteonkfedgopdiaaGreatZ20
import Derived.Test.YteonkfedgopdiaaGreatZ21
import Derived.Test.YteonkfedgopdiaaGreatZ11
import Derived.Test.YteonkfedgopdiaaGreatZ19
import Derived.Test.YteonkfedgopdiaaGreatZ16
namespace Go.Proofs.YteonkfedgopdiaaGreat
open Go.RowKit
def SibsOff (w : World) (b : Nat) (ao : Option Addr) (l : List Sb) : Prop := ∀ i (_ : i < l.length), ∃ bb off vo vc po pc, ao = some ⟨bb, off, none⟩ ∧ bb ≠ b ∧ SibAt w bb (off + i * 7) l[i] vo vc po pc ∧ SibIn w vo po pc l[i] ∧ (0 < l[i].k.c.length → ApartE (fun k => k = b) vo) ∧ (0 < l[i].m.length → ApartE (fun k => k = b) po)
theorem SibsOff.sibs {w : World} {b : Nat} {ao : Option Addr} {l : List Sb} (h : SibsOff w b ao l) : SibsAt w ao l := by
  intro i hi
  obtain ⟨bb, off, vo, vc, po, pc, e, _, h1, h2, _, _⟩ := h i hi
  exact ⟨bb, off, vo, vc, po, pc, e, h1, h2⟩
theorem SibsOff.old {w0 w : World} {b : Nat} {ao : Option Addr} {l : List Sb} (h : SibsAt w0 ao l) (k : Keep0 w0 w) (hb : w0.heap.size ≤ b) : SibsOff w b ao l := by
  intro i hi
  obtain ⟨bb, off, vo, vc, po, pc, e, h1, h2⟩ := h i hi
  have hbB := World.block_lt_of_cell? w0 _ h1.c0
  simp only at hbB
  exact ⟨bb, off, vo, vc, po, pc, e, by omega, h1.keep0 k, h2.keep0 k, fun hl g o m e' hh => by have := ens_old h2.ens hl g o m e'; omega, fun hl g o m e' hh => by have := prs_old h2.prs hl g o m e'; omega⟩
theorem SibsOff.keep {w w' : World} {b : Nat} {ao : Option Addr} {l : List Sb} (h : SibsOff w b ao l) (K : Keep1 b w w') : SibsOff w' b ao l := by
  intro i hi
  obtain ⟨bb, off, vo, vc, po, pc, e, hb, h1, h2, h3, h4⟩ := h i hi
  refine ⟨bb, off, vo, vc, po, pc, e, hb, h1.keep K hb, ⟨?_, ?_, h2.room⟩, h3, h4⟩
  · by_cases hz : 0 < l[i].k.c.length
    · exact h2.ens.keep K (h3 hz)
    · exact fun j hj => absurd hj (by omega)
  · by_cases hz : 0 < l[i].m.length
    · exact h2.prs.keep K (h4 hz)
    · exact fun j hj => absurd hj (by omega)
theorem SibsOff.keep0 {w w' : World} {b : Nat} {ao : Option Addr} {l : List Sb} (h : SibsOff w b ao l) (K : Keep0 w w') : SibsOff w' b ao l := h.keep K.any
theorem wCount_fit {M m : Int} {p : ByteArray × Int} {n : Nat} (h : (n : Int) ≤ pMax m) : wCount M m p (n : Int) = pOne M p (vText n) := by
  unfold wCount
  rw [if_neg (by omega), if_pos h]
  rfl
set_option maxRecDepth 100000 in
set_option maxHeartbeats 8000000 in
theorem rput16_any {w : World} {b : Nat} {t : ByteArray} {M x : Int} (h : RPen w b t M x) (ht : t.size ≤ 700000000) (ao : Option Addr) (cap : Nat) (key : ByteArray) (l : List Sb) (hk : key.size ≤ maxLen) (hl : l.length ≤ maxLen) (hf : ∀ x ∈ l, FitsS x) (hc : SibsOff w b ao l) :
    Calls Tryz.prog 26 #[pptr b, .agg #[.string key, .slice ao l.length cap]] w fun e w' => e = .returned (.tuple #[]) ∧ RPen w' b (pOb M (t, x) ⟨key, l⟩).1 M (pOb M (t, x) ⟨key, l⟩).2 ∧ Keep1 b w w' := by
  have hbl := h.lt
  have i1 : (l.length : Int) ≤ 9223372036854775807 := by unfold maxLen at hl; omega
  have kA : Keep0 w (w.alloc (.cells #[.string key, .slice ao l.length cap] 24)) := (Keep.refl _ w).alloc _
  have x0 : (w.alloc (.cells #[.string key, .slice ao l.length cap] 24)).cell? ⟨w.heap.size, 0, none⟩ = some (.string key) := cell_alloc w _ rfl
  have x1 : (w.alloc (.cells #[.string key, .slice ao l.length cap] 24)).cell? ⟨w.heap.size, 1, none⟩ = some (.slice ao l.length cap) := cell_alloc w _ rfl
  have hP0 := h.keep0 kA
  have hc0 := hc.keep0 kA
  have yc := rcheck16_any (w.alloc (.cells #[.string key, .slice ao l.length cap] 24)) ao cap key l hk hl hf hc0.sibs
  by_cases h0 : oCheck ⟨key, l⟩ = 0
  case neg =>
    rw [pOb_no h0]
    have e0 : (oCheck ⟨key, l⟩ != 0) = true := by simpa using h0
    have yf := fun W (h : RPen W b t M x) => rpfail_any (oCheck ⟨key, l⟩) h
    clear h0 hc0 hc hf
    generalize oCheck ⟨key, l⟩ = C at *
    go_enter Tryz.func26, Tryz.ntmps26
    go_wp2_with fail
    generalize (w.alloc (.cells #[.string key, .slice ao l.length cap] 24)) = W0 at *
    generalize w.heap.size = g at *
    refine yc.mono ?_
    rintro e w1 ⟨rfl, k1⟩
    have yf := yf _ (hP0.keep0 k1)
    have K1 := kA.trans k1
    clear yc k1 kA hP0
    go_wp2_with fail
    refine yf.mono ?_
    rintro e w2 ⟨rfl, h2, k2⟩
    have K2 : Keep1 b w w2 := (K1.any (R := fun k => k = b)).trans k2
    clear yf k2 K1
    go_wp2
    (try simp only [Exit.inBlock, Exit.then])
    refine bodyPost_ret (results_none rfl _ _ _) rfl ?_
    exact ⟨rfl, h2, K2⟩
  rw [h0] at yc
  rw [pOb_yes h0]
  obtain ⟨s1, s2⟩ := oCheck_zero.1 h0
  have s1 := outS_zero.1 s1
  have s1 : 0 < key.size ∧ key.size ≤ 128 ∧ 0 < l.length ∧ l.length ≤ 16 := s1
  have hts : (t, x).1.size = t.size := rfl
  have y1 := fun W (h : RPen W b t M x) => rbput_any 128 (by decide) key h (by omega)
  have z1 := wPut_size M 128 (t, x) key (by omega)
  show Calls _ _ _ _ fun e w' => e = .returned (.tuple #[]) ∧ RPen w' b (pSibs M (pOne M (wPut M 128 (t, x) key) (vText l.length)) l).1 M (pSibs M (pOne M (wPut M 128 (t, x) key) (vText l.length)) l).2 ∧ Keep1 b w w'
  obtain ⟨P1, hP1⟩ : ∃ P1, wPut M 128 (t, x) key = P1 := ⟨_, rfl⟩
  rw [hP1] at y1 z1 ⊢
  have y2 := fun W (h : RPen W b P1.1 M P1.2) => rpcount_any 16 (l.length : Int) (by decide) i1 h (by omega)
  have e1 : (P1.1, P1.2) = P1 := rfl
  rw [e1, wCount_fit (by rw [pMax16]; omega)] at y2
  have z2 := pOne_size M P1 (vText l.length)
  have z3 := (vText_le (n := l.length) (by omega)).2
  obtain ⟨P2, hP2⟩ : ∃ P2, pOne M P1 (vText l.length) = P2 := ⟨_, rfl⟩
  rw [hP2] at y2 z2 ⊢
  obtain ⟨R, hR⟩ : ∃ R, pSibs M P2 l = R := ⟨_, rfl⟩
  rw [hR]
  have HR : Hid (pSibs M P2 l = R) := hR
  have HP2 : Hid (P2.1.size ≤ 700001000) := by show _ ≤ _; omega
  have HC : Hid (SibsOff (w.alloc (.cells #[.string key, .slice ao l.length cap] 24)) b ao l) := hc0
  have HF : Hid (∀ x ∈ l, FitsS x) := hf
  have HL : Hid (l.length ≤ 16) := s1.2.2.2
  clear h0 s1 s2 hts z1 z2 z3 e1 hP1 hP2 hc0 hc hf hR
  go_enter Tryz.func26, Tryz.ntmps26
  go_wp2_with fail
  generalize (w.alloc (.cells #[.string key, .slice ao l.length cap] 24)) = W0 at *
  generalize hg : w.heap.size = g at *
  have hgb : g ≠ b := by omega
  refine yc.mono ?_
  rintro e w1 ⟨rfl, k1⟩
  have y1 := y1 _ (hP0.keep0 k1)
  have HC1 : Hid (SibsOff w1 b ao l) := HC.out.keep0 k1
  have K1 := kA.trans k1
  replace x0 := k1.cell x0 (fun f => f)
  replace x1 := k1.cell x1 (fun f => f)
  clear yc k1 kA hP0 HC
  go_wp2_with fail
  refine y1.mono ?_
  rintro e w2 ⟨rfl, h2, k2⟩
  have K2 : Keep1 b w w2 := (K1.any (R := fun k => k = b)).trans k2
  have HC2 : Hid (SibsOff w2 b ao l) := HC1.out.keep k2
  have y2 := y2 _ h2
  replace x1 := k2.cell x1 hgb
  clear y1 k2 K1 h2 x0 HC1
  go_wp2_with fail
  refine y2.mono ?_
  rintro e w3 ⟨rfl, h3, k3⟩
  have K3 := K2.trans k3
  have HC3 : Hid (SibsOff w3 b ao l) := HC2.out.keep k3
  replace x1 := k3.cell x1 hgb
  clear y2 k3 K2 HC2
  go_wp2_with fail
  go_loopw [5] (fun i wr => ∃ (k : Nat), i = .int .i64 (k : Int) ∧ k ≤ l.length ∧ RPen wr b (pSibs M P2 (l.take k)).1 M (pSibs M P2 (l.take k)).2 ∧ Hid (SibsOff wr b ao l) ∧ wr.cell? ⟨g, 1, none⟩ = some (.slice ao l.length cap) ∧ Keep1 b w wr) (fun i _ => l.length - (intOf i).toNat)
  case atStart => exact ⟨0, rfl, by omega, h3, HC3, x1, K3⟩
  case round =>
    obtain ⟨k, rfl, hk, hp, HCr, xk, hK⟩ := hrel
    clear h3 HC3 x1 K3
    by_cases hlt : k < l.length
    · have j1 : (k : Int) < l.length := by omega
      obtain ⟨bb, off, vo, vc, po, pc, rfl, hbb, s1, s2, s3, s4⟩ := HCr.out k hlt
      obtain ⟨a0, a1, a2, a3, a4, a5, a6⟩ := s1
      have hps := pSibs_sizeU M (l.take k) P2 (fun y hy => (HF.out y (List.mem_of_mem_take hy)).u)
      rw [List.length_take, Nat.min_eq_left (by omega)] at hps
      have hL := HL.out
      have hP2 := HP2.out
      have yp := rput15 hp (by omega) vo vc po pc l[k] (HF.out _ (List.getElem_mem hlt)) s2 s3 s4
      have HS : Hid (pSibs M P2 (l.take (k + 1)) = pSib M (pSibs M P2 (l.take k)) l[k]) := pSibs_take hlt
      have hE : ((pSibs M P2 (l.take k)).1, (pSibs M P2 (l.take k)).2) = pSibs M P2 (l.take k) := rfl
      rw [hE, ← HS.out] at yp
      obtain ⟨P3, hP3⟩ : ∃ P3, pSibs M P2 (l.take (k + 1)) = P3 := ⟨_, rfl⟩
      rw [hP3] at yp
      have HS2 : Hid (pSibs M P2 (l.take (k + 1)) = P3) := hP3
      clear hP3 HS hE hps hL hP2 s2 s3 s4 hp
      generalize l[k] = X at *
      go_wp2_with fail
      refine yp.mono ?_
      rintro e w4 ⟨rfl, h4, k4⟩
      have K4 := hK.trans k4
      have HC4 : Hid (SibsOff w4 b (some ⟨bb, off, none⟩) l) := HCr.out.keep k4
      replace xk := k4.cell xk hgb
      clear yp k4 hK HCr a0 a1 a2 a3 a4 a5 a6
      go_wp2
      go_roundw
      case rel => exact ⟨k + 1, by go_num, by omega, by rw [HS2.out]; exact h4, HC4, xk, K4⟩
      case measure => simp [intOf]; omega
    · have j1 : ¬ (k : Int) < l.length := by omega
      have ek : l.take k = l := List.take_of_length_le (by omega)
      rw [ek, HR.out] at hp
      go_wp2
      go_end0
      exact ⟨rfl, hp, hK⟩
theorem rput16 {w : World} {b : Nat} {t : ByteArray} {M x : Int} (h : RPen w b t M x) (ht : t.size ≤ 700000000) (ao : Option Addr) (cap : Nat) (o : Ob) (f : FitsO o) (hc : SibsOff w b ao o.l) :
    Calls Tryz.prog 26 #[pptr b, .agg #[.string o.key, .slice ao o.l.length cap]] w fun e w' => e = .returned (.tuple #[]) ∧ RPen w' b (pOb M (t, x) o).1 M (pOb M (t, x) o).2 ∧ Keep1 b w w' :=
  rput16_any h ht ao cap o.key o.l f.key f.len f.sib hc
set_option maxRecDepth 100000 in
set_option maxHeartbeats 8000000 in
theorem rencode16 (w : World) (ao : Option Addr) (cap : Nat) (o : Ob) (f : FitsO o) (hc : SibsAt w ao o.l) :
    Calls Tryz.prog 10 #[.agg #[.string o.key, .slice ao o.l.length cap]] w fun e w' => e = .returned (.tuple #[.string (encO o).1, .int .i64 (encO o).2]) ∧ Keep0 w w' := by
  have he := encO_pen (o := o) (fun x hx => (f.sib x hx).u)
  have yn := fun W => rpnew_any W 65536
  have hpm : pMax 65536 = 65536 := rfl
  rw [hpm] at yn
  have yp := fun (W : World) (g : Nat) (h : RPen W g ⟨#[]⟩ 65536 0) (K : Keep0 w W) (hg : w.heap.size ≤ g) => rput16 h (by decide) ao cap o f (SibsOff.old hc K hg)
  have ye := fun (W : World) (g : Nat) (h : RPen W g (pOb 65536 (⟨#[]⟩, 0) o).1 65536 (pOb 65536 (⟨#[]⟩, 0) o).2) => rpend_any h
  have e1 : (encO o).1 = pEnd (pOb 65536 (⟨#[]⟩, 0) o).1 (pOb 65536 (⟨#[]⟩, 0) o).2 := by rw [← he]
  have e2 : (encO o).2 = (pOb 65536 (⟨#[]⟩, 0) o).2 := by rw [← he]
  rw [e1, e2]
  have kA : Keep0 w (w.alloc (.cells #[.string o.key, .slice ao o.l.length cap] 24)) := (Keep.refl _ w).alloc _
  have x0 : (w.alloc (.cells #[.string o.key, .slice ao o.l.length cap] 24)).cell? ⟨w.heap.size, 0, none⟩ = some (.string o.key) := cell_alloc w _ rfl
  have x1 : (w.alloc (.cells #[.string o.key, .slice ao o.l.length cap] 24)).cell? ⟨w.heap.size, 1, none⟩ = some (.slice ao o.l.length cap) := cell_alloc w _ rfl
  have hz : w.heap.size < (w.alloc (.cells #[.string o.key, .slice ao o.l.length cap] 24)).heap.size := by rw [World.size_alloc]; omega
  have yn := yn (w.alloc (.cells #[.string o.key, .slice ao o.l.length cap] 24))
  generalize pOb 65536 (⟨#[]⟩, 0) o = P at *
  generalize pEnd P.1 P.2 = PE at *
  generalize P.2 = P2 at *
  generalize P.1 = P1 at *
  clear he e1 e2 hpm
  go_enter Tryz.func10, Tryz.ntmps10
  go_wp2_with fail
  generalize (w.alloc (.cells #[.string o.key, .slice ao o.l.length cap] 24)) = W0 at *
  generalize hg : w.heap.size = g at *
  refine yn.mono ?_
  rintro e w1 ⟨rfl, h1, k1⟩
  have K1 := kA.trans k1
  replace x0 := k1.cell x0 (fun f => f)
  replace x1 := k1.cell x1 (fun f => f)
  have yp := yp _ _ h1 K1 (by omega)
  clear yn
  go_wp2_with fail
  refine yp.mono ?_
  rintro e w2 ⟨rfl, h2, k2⟩
  have K2 : Keep0 w w2 := K1.step k2 (fun i hi hh => by omega)
  have ye := ye _ _ h2
  clear yp k1 k2 h1 h2 kA K1 x0 x1
  go_wp2_with fail
  refine ye.mono ?_
  rintro e w3 ⟨rfl, hw3⟩
  have K3 := K2.trans (keepN hw3)
  clear ye hw3 K2
  go_wp2
  go_ret2
  exact ⟨rfl, K3⟩
end Go.Proofs.YteonkfedgopdiaaGreat
namespace Go.Proofs.YteonkfedgopdiaaGreat
open Go.RowKit
structure DAt (w : World) (g : Nat) (v0 v1 : Value) : Prop where
  blk : ∃ ty, w.heap[g]? = some (.cells #[v0, v1] ty)
section
variable {w : World} {g : Nat} {v0 v1 : Value}
theorem DAt.lt (h : DAt w g v0 v1) : g < w.heap.size := by
  obtain ⟨ty, hk⟩ := h.blk
  exact (Array.getElem?_eq_some_iff.mp hk).1
theorem DAt.cells (h : DAt w g v0 v1) : w.cell? ⟨g, 0, none⟩ = some v0 ∧ w.cell? ⟨g, 1, none⟩ = some v1 ∧ w.frozen? ⟨g, 0, none⟩ = false ∧ w.frozen? ⟨g, 1, none⟩ = false := by
  obtain ⟨ty, hk⟩ := h.blk
  simp [World.cell?, World.frozen?, hk]
theorem DAt.keep {R : Nat → Prop} {w' : World} (h : DAt w g v0 v1) (K : Keep R w w') (hn : ¬ R g) : DAt w' g v0 v1 := by
  obtain ⟨ty, hk⟩ := h.blk
  exact ⟨ty, by rw [K.block g h.lt hn]; exact hk⟩
theorem DAt.keep0 {w' : World} (h : DAt w g v0 v1) (K : Keep0 w w') : DAt w' g v0 v1 := h.keep K (fun f => f)
theorem DAt.new (w : World) (ty : TypeId) (v0 v1 : Value) : DAt (w.alloc (.cells #[v0, v1] ty)) w.heap.size v0 v1 := ⟨ty, (MapKept.heap_alloc w _).1⟩
theorem DAt.set0 (h : DAt w g v0 v1) (u : Value) : DAt (w.setCell ⟨g, 0, none⟩ u) g u v1 := by
  obtain ⟨ty, hk⟩ := h.blk
  exact ⟨ty, by rw [heap_setCell_at hk]; rfl⟩
theorem DAt.set1 (h : DAt w g v0 v1) (u : Value) : DAt (w.setCell ⟨g, 1, none⟩ u) g v0 u := by
  obtain ⟨ty, hk⟩ := h.blk
  exact ⟨ty, by rw [heap_setCell_at hk]; rfl⟩
theorem DAt.put (h : DAt w g v0 v1) (u0 u1 : Value) : DAt ((w.setCell ⟨g, 0, none⟩ u0).setCell ⟨g, 1, none⟩ u1) g u0 u1 := (h.set0 u0).set1 u1
end
theorem put2_keep (w : World) (g : Nat) (u0 u1 : Value) : Keep1 g w ((w.setCell ⟨g, 0, none⟩ u0).setCell ⟨g, 1, none⟩ u1) := ((Keep.refl _ w).set1 _ _).set1 _ _
end Go.Proofs.YteonkfedgopdiaaGreat
namespace Go.Proofs.YteonkfedgopdiaaGreat
open Go.RowKit
theorem retOb {fn : Func} {p : Tmp} (h : fn.results = #[.cell p 24]) (tmps : Array Value) (w : World) (g : Nat) {v0 v1 : Value}
    (hp : tmps.getD p undef = .pointer (some ⟨g, 0, none⟩)) (hg : DAt w g v0 v1) : (results fn tmps).run Tryz.prog w = .ok (.agg #[v0, v1]) w := by
  obtain ⟨ty, hk⟩ := hg.blk
  exact results_cell_row h tmps w g ty _ _ _ hp hk Tryz.underlying24 rfl (by kernel_rfl)
theorem retOb2 {fn : Func} {p u : Tmp} (h : fn.results = #[.cell p 24, .tmp u]) (tmps : Array Value) (w : World) (g : Nat) {v0 v1 : Value}
    (hp : tmps.getD p undef = .pointer (some ⟨g, 0, none⟩)) (hg : DAt w g v0 v1) : (results fn tmps).run Tryz.prog w = .ok (.tuple #[.agg #[v0, v1], tmps.getD u undef]) w := by
  obtain ⟨ty, hk⟩ := hg.blk
  have hp' : tmps[p]?.getD undef = .pointer (some ⟨g, 0, none⟩) := by simpa using hp
  have hl := run_loadVar_row w g ty 24 _ _ _ hk Tryz.underlying24 rfl (by kernel_rfl)
  simp [results, h, hp', asAddr, hl]
structure NewL (B : Nat) (w : World) (ao : Option Addr) (L : List Pl) : Prop where
  at_ : PlsAt w ao L
  own : ∀ g off m, ao = some ⟨g, off, m⟩ → B ≤ g
  vec : ∀ p ∈ L, ∀ g off m, p.vo = some ⟨g, off, m⟩ → B ≤ g
  prs : ∀ p ∈ L, ∀ g off m, p.po = some ⟨g, off, m⟩ → B ≤ g
theorem NewL.nil (B : Nat) (w : World) : NewL B w none [] := ⟨PlsAt.nil _ _, (fun _ _ _ e => by cases e), (fun _ h => by cases h), (fun _ h => by cases h)⟩
theorem NewL.keep {R : Nat → Prop} {B : Nat} {w w' : World} {ao : Option Addr} {L : List Pl} (h : NewL B w ao L) (K : Keep R w w') (hn : ∀ g, B ≤ g → ¬ R g) : NewL B w' ao L :=
  ⟨⟨h.at_.row.keep K (fun g off m e => hn g (h.own g off m e)), fun p hp => ⟨(h.at_.ins p hp).ens.keep K (fun g off m e => hn g (h.vec p hp g off m e)), (h.at_.ins p hp).prs.keep K (fun g off m e => hn g (h.prs p hp g off m e)), (h.at_.ins p hp).room⟩⟩, h.own, h.vec, h.prs⟩
def RTakeO (r : Ob × Int × Int) (s : ByteArray) (b : Nat) (w : World) (e : Ending) (w' : World) : Prop := ∃ ao cap L, e = .returned (.agg #[.string r.1.key, .slice ao r.1.l.length cap]) ∧ L.map Pl.x = r.1.l ∧ Cur w' b s r.2.1 r.2.2 ∧ NewL w.heap.size w' ao L ∧ (L.length ≤ cap ∧ cap ≤ maxLen) ∧ Keep1 b w w'
theorem RTakeO.bare {r : Ob × Int × Int} {s : ByteArray} {b : Nat} {w w' : World} {e : Ending} {A E : Int} (hr : r = (zOb, A, E)) (h : e = .returned (.agg #[.string ⟨#[]⟩, .slice none 0 0])) (h1 : Cur w' b s A E) (h4 : Keep1 b w w') : RTakeO r s b w e w' := by
  subst hr
  exact ⟨none, 0, [], h, rfl, h1, NewL.nil _ _, ⟨Nat.le_refl _, Nat.zero_le _⟩, h4⟩
theorem RTakeO.mk {r : Ob × Int × Int} {s : ByteArray} {b : Nat} {w w' : World} {e : Ending} {A E : Int} {K : ByteArray} {L : List Pl} {ao : Option Addr} {cap : Nat} (hr : r = (⟨K, L.map Pl.x⟩, A, E)) (h : e = .returned (.agg #[.string K, .slice ao L.length cap])) (h1 : Cur w' b s A E) (h2 : NewL w.heap.size w' ao L) (hcp : L.length ≤ cap ∧ cap ≤ maxLen) (h4 : Keep1 b w w') : RTakeO r s b w e w' := by
  subst hr
  exact ⟨ao, cap, L, by rw [h]; show _ = Ending.returned (.agg #[.string K, .slice ao (L.map Pl.x).length cap]); rw [List.length_map], rfl, h1, h2, hcp, h4⟩
def RObE (p : Ob × Int) (w : World) (e : Ending) (w' : World) : Prop := ∃ ao cap L, e = .returned (.tuple #[.agg #[.string p.1.key, .slice ao p.1.l.length cap], .int .i64 p.2]) ∧ L.map Pl.x = p.1.l ∧ NewL w.heap.size w' ao L ∧ (L.length ≤ cap ∧ cap ≤ maxLen) ∧ Keep0 w w'
theorem RObE.bare {p : Ob × Int} {w w' : World} {e : Ending} {E : Int} (hp : p = (zOb, E)) (h : e = .returned (.tuple #[.agg #[.string ⟨#[]⟩, .slice none 0 0], .int .i64 E])) (h3 : Keep0 w w') : RObE p w e w' := by
  subst hp
  exact ⟨none, 0, [], h, rfl, NewL.nil _ _, ⟨Nat.le_refl _, Nat.zero_le _⟩, h3⟩
end Go.Proofs.YteonkfedgopdiaaGreat
namespace Go.Proofs.YteonkfedgopdiaaGreat
open Go.RowKit
structure OwnP (B : Nat) (w : World) (v : Value) (L : List Pl) : Prop where
  row : w.ownsRow B 44 7 v L.length (rowOf Pl.cells L)
  ins : ∀ p ∈ L, p.in w
  vec : ∀ p ∈ L, ∀ g off m, p.vo = some ⟨g, off, m⟩ → B ≤ g ∧ (p.x.k.c.length = 0 ∨ v.ownBlock ≠ some g)
  prs : ∀ p ∈ L, ∀ g off m, p.po = some ⟨g, off, m⟩ → B ≤ g ∧ (p.x.m.length = 0 ∨ v.ownBlock ≠ some g)
theorem ens_keepE {R : Nat → Prop} {w w' : World} {ao : Option Addr} {l : List En} (h : EnsAt w ao l) (K : Keep R w w') (hn : ∀ g off m, ao = some ⟨g, off, m⟩ → l.length = 0 ∨ ¬ R g) : EnsAt w' ao l := by
  by_cases h0 : l.length = 0
  · exact fun i hi => by omega
  · exact h.keep K (fun g off m e => (hn g off m e).resolve_left h0)
theorem prs_keepE {R : Nat → Prop} {w w' : World} {ao : Option Addr} {l : List Pr} (h : PrsAt w ao l) (K : Keep R w w') (hn : ∀ g off m, ao = some ⟨g, off, m⟩ → l.length = 0 ∨ ¬ R g) : PrsAt w' ao l := by
  by_cases h0 : l.length = 0
  · exact fun i hi => by omega
  · exact h.keep K (fun g off m e => (hn g off m e).resolve_left h0)
theorem ens_lt {w : World} {ao : Option Addr} {l : List En} (h : EnsAt w ao l) : ∀ g off m, ao = some ⟨g, off, m⟩ → l.length = 0 ∨ g < w.heap.size := by
  intro g off m e
  by_cases h0 : l.length = 0
  · exact .inl h0
  · obtain ⟨b, o, e', h1, _⟩ := h 0 (by omega)
    rw [e] at e'
    cases e'
    exact .inr (World.block_lt_of_cell? w _ h1)
theorem prs_lt {w : World} {ao : Option Addr} {l : List Pr} (h : PrsAt w ao l) : ∀ g off m, ao = some ⟨g, off, m⟩ → l.length = 0 ∨ g < w.heap.size := by
  intro g off m e
  by_cases h0 : l.length = 0
  · exact .inl h0
  · obtain ⟨b, o, e', h1, _⟩ := h 0 (by omega)
    rw [e] at e'
    cases e'
    exact .inr (World.block_lt_of_cell? w _ h1)
theorem OwnP.nil (B : Nat) (w : World) : OwnP B w (.slice none 0 0) [] := ⟨⟨by show 0 = 0 * 7; rfl, .inl ⟨rfl, rfl⟩⟩, (fun _ h => by cases h), (fun _ h => by cases h), (fun _ h => by cases h)⟩
theorem OwnP.keep {R : Nat → Prop} {B : Nat} {w w' : World} {v : Value} {L : List Pl} (h : OwnP B w v L) (K : Keep R w w') (hn : ∀ g, B ≤ g → ¬ R g) : OwnP B w' v L :=
  ⟨rowE_keep h.row K hn, fun p hp => ⟨(h.ins p hp).ens.keep K (fun g off m e => hn g (h.vec p hp g off m e).1), (h.ins p hp).prs.keep K (fun g off m e => hn g (h.prs p hp g off m e).1), (h.ins p hp).room⟩, h.vec, h.prs⟩
theorem OwnP.keep0 {B : Nat} {w w' : World} {v : Value} {L : List Pl} (h : OwnP B w v L) (K : Keep0 w w') : OwnP B w' v L := h.keep K (fun _ _ f => f)
theorem OwnP.newL {B : Nat} {w : World} {v : Value} {L : List Pl} (h : OwnP B w v L) : ∃ ao cap, v = .slice ao L.length cap ∧ NewL B w ao L ∧ L.length ≤ cap ∧ cap ≤ maxLen := by
  obtain ⟨ao, cap, e, h1, h2, h3, h4⟩ := row_of_own plT.len plT.pos h.row
  exact ⟨ao, cap, e, ⟨⟨h1, h.ins⟩, h2, fun p hp g off m e => (h.vec p hp g off m e).1, fun p hp g off m e => (h.prs p hp g off m e).1⟩, h3, h4⟩
theorem OwnP.lt {B : Nat} {w : World} {v : Value} {L : List Pl} (h : OwnP B w v L) : ∀ g, v.ownBlock = some g → B ≤ g ∧ g < w.heap.size := fun g e => h.row.lt g e
theorem OwnP.more {B : Nat} {w w' : World} {v v' : Value} {L : List Pl} {p : Pl} (h : OwnP B w v L) (hp : p.in w) (hv : ∀ g off m, p.vo = some ⟨g, off, m⟩ → B ≤ g ∧ (p.x.k.c.length = 0 ∨ v.ownBlock ≠ some g)) (hq : ∀ g off m, p.po = some ⟨g, off, m⟩ → B ≤ g ∧ (p.x.m.length = 0 ∨ v.ownBlock ≠ some g))
    (h1 : w'.ownsRow B 44 7 v' (L ++ [p]).length (rowOf Pl.cells (L ++ [p]))) (h2 : w.grownBy w' v.ownBlock) (h3 : v'.ownBlock = v.ownBlock ∨ v'.ownBlock = some w.heap.size) : OwnP B w' v' (L ++ [p]) := by
  have K := keep_grown h2
  have all : ∀ q ∈ L ++ [p], q.in w ∧ (∀ g off m, q.vo = some ⟨g, off, m⟩ → B ≤ g ∧ (q.x.k.c.length = 0 ∨ v.ownBlock ≠ some g)) ∧ (∀ g off m, q.po = some ⟨g, off, m⟩ → B ≤ g ∧ (q.x.m.length = 0 ∨ v.ownBlock ≠ some g)) := by
    intro q hq'
    rcases List.mem_append.1 hq' with hq' | hq'
    · exact ⟨h.ins q hq', h.vec q hq', h.prs q hq'⟩
    · rw [List.mem_singleton.1 hq']; exact ⟨hp, hv, hq⟩
  refine ⟨h1, fun q hq' => ?_, fun q hq' g off m e => ?_, fun q hq' g off m e => ?_⟩
  · obtain ⟨a1, a2, a3⟩ := all q hq'
    exact ⟨ens_keepE a1.ens K (fun g off m e => (a2 g off m e).2), prs_keepE a1.prs K (fun g off m e => (a3 g off m e).2), a1.room⟩
  · obtain ⟨a1, a2, a3⟩ := all q hq'
    refine ⟨(a2 g off m e).1, ?_⟩
    rcases h3 with e3 | e3
    · rw [e3]; exact (a2 g off m e).2
    · rcases ens_lt a1.ens g off m e with z | z
      · exact .inl z
      · exact .inr (fun e4 => by rw [e3] at e4; cases e4; omega)
  · obtain ⟨a1, a2, a3⟩ := all q hq'
    refine ⟨(a3 g off m e).1, ?_⟩
    rcases h3 with e3 | e3
    · rw [e3]; exact (a3 g off m e).2
    · rcases prs_lt a1.prs g off m e with z | z
      · exact .inl z
      · exact .inr (fun e4 => by rw [e3] at e4; cases e4; omega)
end Go.Proofs.YteonkfedgopdiaaGreat
namespace Go.Proofs.YteonkfedgopdiaaGreat
open Go.RowKit
def RClkE (p : Ck × Int) (w : World) (e : Ending) (w' : World) : Prop := ∃ ao cap, e = .returned (.tuple #[.agg #[.slice ao p.1.c.length cap, .bool p.1.d, .string p.1.x.a, .int .u64 (p.1.x.n : Int)], .int .i64 p.2]) ∧ EnsAt w' ao p.1.c ∧ (∀ g off m, ao = some ⟨g, off, m⟩ → w.heap.size ≤ g) ∧ Keep0 w w'
theorem RClkE.bare {p : Ck × Int} {w w' : World} {e : Ending} {E : Int} (hp : p = (zCk, E)) (h : e = .returned (.tuple #[.agg #[.slice none 0 0, .bool false, .string ⟨#[]⟩, .int .u64 0], .int .i64 E])) (h3 : Keep0 w w') : RClkE p w e w' := by
  subst hp
  exact ⟨none, 0, h, ens_nil _ _, (fun _ _ _ e => by cases e), h3⟩
theorem RClkE.mk {p : Ck × Int} {w w' : World} {e : Ending} {K : Ck} {ao : Option Addr} {cap : Nat} (hp : p = (K, 0)) (h : e = .returned (.tuple #[.agg #[.slice ao K.c.length cap, .bool K.d, .string K.x.a, .int .u64 (K.x.n : Int)], .int .i64 0])) (h1 : EnsAt w' ao K.c) (h2 : ∀ g off m, ao = some ⟨g, off, m⟩ → w.heap.size ≤ g) (h3 : Keep0 w w') : RClkE p w e w' := by
  subst hp
  exact ⟨ao, cap, h, h1, h2, h3⟩
end Go.Proofs.YteonkfedgopdiaaGreat
