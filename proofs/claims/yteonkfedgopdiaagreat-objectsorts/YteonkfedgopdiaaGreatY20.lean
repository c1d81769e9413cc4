/-
  What this seat's claims lean on of the texts RefVec4, RefPairs2, RefPairs3, Open14, RefPairs4.
  Conditions: as each theorem states.
-/
import Derived.WalkKit
import Derived.ProofKit
import Derived.Below
import Derived.Deep.Draws
import Derived.Deep.RegionHeld
import Derived.Test.YteonkfedgopdiaaGreatChecked
import Derived.OpenShut
import Derived.ShutString
import Derived.WalkSpells
import Derived.WalkLawsBesides
import Derived.Deep.QuietTactic
import Derived.BigQuiet
import Derived.Laws.Bits64b
import Derived.PlainAid
import Derived.Lib.AppendStr
import Derived.Deep.AppendLies
import Derived.Laws.IdiomStrings
import Derived.Laws.BytesArg
import Derived.Deep.RegionWith
import Derived.Laws.AppendOwn
import Derived.Deep.DeepAppendWide
import Derived.Deep.Upon
import Derived.Test.YteonkfedgopdiaaGreatY17
import Derived.Test.YteonkfedgopdiaaGreatY16
import Derived.Test.YteonkfedgopdiaaGreatY8
import Derived.Deep.Slices
import Derived.Test.YteonkfedgopdiaaGreatY4
import Derived.Test.YteonkfedgopdiaaGreatY13
namespace Go.Proofs.YteonkfedgopdiaaGreat
open Go.RowKit
def REnsE (p : List En × Int) (w : World) (e : Ending) (w' : World) : Prop := ∃ ao cap, e = .returned (.tuple #[.slice ao p.1.length cap, .int .i64 p.2]) ∧ EnsAt w' ao p.1 ∧ (∀ g off m, ao = some ⟨g, off, m⟩ → w.heap.size ≤ g) ∧ Keep0 w w'
theorem REnsE.mk {p : List En × Int} {w w' : World} {e : Ending} {ao : Option Addr} {cap : Nat} (h : e = .returned (.tuple #[.slice ao p.1.length cap, .int .i64 p.2])) (h1 : EnsAt w' ao p.1) (h2 : ∀ g off m, ao = some ⟨g, off, m⟩ → w.heap.size ≤ g) (h3 : Keep0 w w') : REnsE p w e w' := ⟨ao, cap, h, h1, h2, h3⟩
theorem REnsE.bare {p : List En × Int} {w w' : World} {e : Ending} {E : Int} (hp : p = ([], E)) (h : e = .returned (.tuple #[.slice none 0 0, .int .i64 E])) (h3 : Keep0 w w') : REnsE p w e w' := by
  subst hp
  exact ⟨none, 0, h, ens_nil _ _, (fun _ _ _ e => by cases e), h3⟩
def VecsAt (w : World) (ao : Option Addr) (ls : List (List En)) : Prop := ∀ i (_ : i < ls.length), ∃ b off bo c, ao = some ⟨b, off, none⟩ ∧ w.cell? ⟨b, off + i, none⟩ = some (.slice bo ls[i].length c) ∧ EnsAt w bo ls[i]
theorem VecsAt.keep0 {w w' : World} {ao : Option Addr} {ls : List (List En)} (h : VecsAt w ao ls) (K : Keep0 w w') : VecsAt w' ao ls := by
  intro i hi
  obtain ⟨b, off, bo, c, e, h1, h2⟩ := h i hi
  exact ⟨b, off, bo, c, e, K.cell h1 (fun f => f), h2.keep0 K⟩
end Go.Proofs.YteonkfedgopdiaaGreat
namespace Go.Proofs.YteonkfedgopdiaaGreat
open Go.RowKit
set_option maxRecDepth 100000 in
set_option maxHeartbeats 4000000 in
theorem rput14 {w : World} {b : Nat} {t : ByteArray} {M x : Int} (h : RPen w b t M x) (ht : t.size ≤ 1000000000) (ao : Option Addr) (cap : Nat) (l : List Pr) (hf : FitsP l) (hc : PrsAt w ao l) (hn : 0 < l.length → ApartE (fun k => k = b) ao) :
    Calls Tryz.prog 99 #[pptr b, .slice ao l.length cap] w fun e w' => e = .returned (.tuple #[]) ∧ RPen w' b (pPrs M (t, x) l).1 M (pPrs M (t, x) l).2 ∧ Keep1 b w w' := by
  have yc := rcheck14 w ao cap l hf hc
  have hl' : (l.length : Int) ≤ 9223372036854775807 := by have := hf.1; unfold maxLen at this; omega
  by_cases h0 : qCheck l = 0
  case neg =>
    rw [pPrs_no h0]
    have e0 : (qCheck l != 0) = true := by simpa using h0
    have yf := fun W (h : RPen W b t M x) => rpfail_any (qCheck l) h
    clear h0
    generalize qCheck l = C at *
    go_enter Tryz.func99, Tryz.ntmps99
    go_wp2_with fail
    refine yc.mono ?_
    rintro e w1 ⟨rfl, hw1⟩
    have k1 := keepN hw1
    have yf := yf _ (h.keep0 k1)
    clear yc hw1
    go_wp2_with fail
    refine yf.mono ?_
    rintro e w2 ⟨rfl, h2, k2⟩
    have K2 : Keep1 b w w2 := (k1.any (R := fun k => k = b)).trans k2
    clear yf k2 k1
    go_wp2
    (try simp only [Exit.inBlock, Exit.then])
    refine bodyPost_ret (results_none rfl _ _ _) rfl ?_
    exact ⟨rfl, h2, K2⟩
  rw [h0] at yc
  obtain ⟨h8, hg⟩ := (qCheck_zero l).1 h0
  rw [pPrs_yes h0]
  have HC : Hid (PrsAt w ao l) := hc
  have HG : Hid (∀ y ∈ l, y.n.size ≤ 32 ∧ y.v.size ≤ 32768) := fun y hy => ⟨(hg.1 y hy).2.1, (hg.1 y hy).2.2⟩
  have HN : Hid (0 < l.length → ApartE (fun k => k = b) ao) := hn
  have yp := fun W (h : RPen W b t M x) => rpcount_any 8 (l.length : Int) (by decide) (by omega) h (by omega)
  have hwc : wCount M 8 (t, x) (l.length : Int) = pOne M (t, x) (vText l.length) := by
    unfold wCount
    rw [if_neg (by omega), if_pos (by rw [pMax8]; omega)]
    rfl
  rw [hwc] at yp
  have hs1 := pOne_size M (t, x) (vText l.length)
  have hs2 := (vText_le (n := l.length) (by omega)).2
  have HT : Hid ((pOne M (t, x) (vText l.length)).1.size ≤ t.size + 10) := by show _ ≤ _; have : (t, x).1.size = t.size := rfl; omega
  obtain ⟨P, hP⟩ : ∃ P, pOne M (t, x) (vText l.length) = P := ⟨_, rfl⟩
  rw [hP] at yp HT ⊢
  obtain ⟨R, hR⟩ : ∃ R, pPairs M P l = R := ⟨_, rfl⟩
  rw [hR]
  have HR : Hid (pPairs M P l = R) := hR
  clear hP hwc hs1 hs2 hg hc hn h0 hR
  go_enter Tryz.func99, Tryz.ntmps99
  go_wp2_with fail
  refine yc.mono ?_
  rintro e w1 ⟨rfl, hw1⟩
  have k1 := keepN hw1
  have yp := yp _ (h.keep0 k1)
  clear yc hw1
  go_wp2_with fail
  refine yp.mono ?_
  rintro e w2 ⟨rfl, h2, k2⟩
  have K2 : Keep1 b w w2 := (k1.any (R := fun k => k = b)).trans k2
  clear yp k2 k1
  go_wp2_with fail
  go_loopw [5] (fun i wr => ∃ (k : Nat), i = .int .i64 (k : Int) ∧ k ≤ l.length ∧ RPen wr b (pPairs M P (l.take k)).1 M (pPairs M P (l.take k)).2 ∧ Keep1 b w wr) (fun i _ => l.length - (intOf i).toNat)
  case atStart => exact ⟨0, rfl, by omega, h2, K2⟩
  case round =>
    obtain ⟨k, rfl, hk, hp, hK⟩ := hrel
    clear h2 K2
    by_cases hlt : k < l.length
    · have i1 : (k : Int) < l.length := by omega
      have hap := HN.out (by omega)
      have hcr := HC.out.keep hK hap
      obtain ⟨bb, off, rfl, x0, x1⟩ := hcr k hlt
      have hbb : bb ≠ b := hap _ _ _ rfl
      obtain ⟨hy, hyn⟩ := HG.out l[k] (List.getElem_mem hlt)
      have hsz := pPairs_size M (l.take k) P (fun y hy => HG.out y (List.mem_of_mem_take hy))
      rw [List.length_take, Nat.min_eq_left (by omega)] at hsz
      have hT := HT.out
      have HS : Hid (pPairs M P (l.take (k + 1)) = pPair M (pPairs M P (l.take k)) l[k]) := pPairs_take hlt
      have yb := rbput_any 32 (by decide) l[k].n hp (by omega)
      have hws := wPut_size M 32 (pPairs M P (l.take k)) l[k].n (by omega)
      have hE : ((pPairs M P (l.take k)).1, (pPairs M P (l.take k)).2) = pPairs M P (l.take k) := rfl
      rw [hE] at yb
      have yn := fun W (h : RPen W b (wPut M 32 (pPairs M P (l.take k)) l[k].n).1 M (wPut M 32 (pPairs M P (l.take k)) l[k].n).2) => rbput_any 32768 (by decide) l[k].v h (by omega)
      have hE2 : ((wPut M 32 (pPairs M P (l.take k)) l[k].n).1, (wPut M 32 (pPairs M P (l.take k)) l[k].n).2) = wPut M 32 (pPairs M P (l.take k)) l[k].n := rfl
      rw [hE2] at yn
      have hE3 : wPut M 32768 (wPut M 32 (pPairs M P (l.take k)) l[k].n) l[k].v = pPair M (pPairs M P (l.take k)) l[k] := rfl
      rw [hE3, ← HS.out] at yn
      obtain ⟨P2, hP2⟩ : ∃ P2, pPairs M P (l.take (k + 1)) = P2 := ⟨_, rfl⟩
      rw [hP2] at yn
      have HS2 : Hid (pPairs M P (l.take (k + 1)) = P2) := hP2
      clear hP2 HS hap
      generalize wPut M 32 (pPairs M P (l.take k)) l[k].n = P1 at *
      generalize pPairs M P (l.take k) = P0 at *
      generalize l[k].n = A at *
      generalize l[k].v = NN at *
      clear hE hE2 hE3 hws hsz hT hcr hp hy hyn
      go_wp2_with fail
      refine yb.mono ?_
      rintro e w3 ⟨rfl, h3, k3⟩
      have y1 := k3.cell x1 hbb
      have K3 := hK.trans k3
      have yn := yn _ h3
      clear yb k3 hK x0 x1 h3
      go_wp2_with fail
      refine yn.mono ?_
      rintro e w4 ⟨rfl, h4, k4⟩
      have K4 := K3.trans k4
      clear yn k4 K3 y1
      go_wp2
      go_roundw
      case rel => exact ⟨k + 1, by go_num, by omega, by rw [HS2.out]; exact h4, K4⟩
      case measure => simp [intOf]; omega
    · have i1 : ¬ (k : Int) < l.length := by omega
      have ek : l.take k = l := List.take_of_length_le (by omega)
      rw [ek, HR.out] at hp
      go_wp2
      go_end0
      exact ⟨rfl, hp, hK⟩
end Go.Proofs.YteonkfedgopdiaaGreat
namespace Go.Proofs.YteonkfedgopdiaaGreat
open Go.RowKit
theorem Keep.pGrown {w w' : World} {B : Nat} {row : Option Nat} (g : w.grownBy w' row) (h : ∀ k, row = some k → B ≤ k) : KeepFrom B w w' :=
  ⟨g.os, g.tape, g.output, g.size, fun k hk hn => g.block k hk (fun e => hn (h k e.symm))⟩
def RTakeP (r : List Pr × Int × Int) (s : ByteArray) (b : Nat) (w : World) (e : Ending) (w' : World) : Prop := ∃ ao cap, e = .returned (.slice ao r.1.length cap) ∧ Cur w' b s r.2.1 r.2.2 ∧ PrsAt w' ao r.1 ∧ (∀ g off m, ao = some ⟨g, off, m⟩ → w.heap.size ≤ g) ∧ CapP r.1 cap ∧ Keep1 b w w'
theorem RTakeP.mk {r : List Pr × Int × Int} {s : ByteArray} {b : Nat} {w w' : World} {e : Ending} {ao : Option Addr} {cap : Nat} (h : e = .returned (.slice ao r.1.length cap)) (h1 : Cur w' b s r.2.1 r.2.2) (h2 : PrsAt w' ao r.1) (h3 : ∀ g off m, ao = some ⟨g, off, m⟩ → w.heap.size ≤ g) (h3' : CapP r.1 cap) (h4 : Keep1 b w w') : RTakeP r s b w e w' := ⟨ao, cap, h, h1, h2, h3, h3', h4⟩
theorem takep_bad {s : ByteArray} {a x : Int} (h : kErr s a x 8 ≠ 0) : kNum s a x 8 = 0 ∧ rX [] rPrs s a x = ([], tAt s a x, kErr s a x 8) := by
  by_cases hx : x = 0
  · subst hx
    refine ⟨?_, by rw [rX_yes, rprs_a h]⟩
    by_cases ht : tErr s a 0 = 0
    · by_cases ho : pMax 8 < tNum s a 0
      · exact (k_over ht ho).1
      · exact absurd (k_ok ht ho).2 h
    · exact (k_err ht).1
  · have ht := tErr_err (s := s) (a := a) hx
    obtain ⟨h1, h2⟩ := k_err (s := s) (a := a) (x := x) (m := 8) (by rw [ht]; exact hx)
    exact ⟨h1, by rw [rX_no hx, h2, ht, tAt_err hx]⟩
theorem takep_good {s : ByteArray} {a x : Int} (h : kErr s a x 8 = 0) : x = 0 := by
  refine Decidable.byContradiction fun hx => ?_
  have ht := tErr_err (s := s) (a := a) hx
  obtain ⟨_, h2⟩ := k_err (s := s) (a := a) (x := x) (m := 8) (by rw [ht]; exact hx)
  rw [h2, ht] at h
  exact hx h
theorem countp_le {s : ByteArray} {a x : Int} : kNum s a x 8 ≤ 8 := by
  unfold kNum
  split
  · rename_i h; exact h.2
  · decide
theorem btxt_le {s : ByteArray} {a m : Int} (hm : 0 ≤ m) (ha : 0 ≤ a) (ha' : a ≤ s.size) (h : bErr s a 0 m = 0) : ((bTxt s a 0 m).size : Int) ≤ m := by
  obtain ⟨_, _, h3, _, h5, _⟩ := blob_zero h
  have hp : pMax m = m := by unfold pMax; rw [if_neg (by omega)]
  rw [hp] at h3
  have ht := tNum_lt s a 0
  have hal := tAt_le (s := s) (a := a) (x := 0) ha ha'
  rw [h5]
  unfold cut
  rw [ByteArray.size_extract]
  omega
theorem prq_app {O : List Pr} {k : Nat} (h : O.length = k) (x : Pr) : prq (O ++ [x]) (k + 1) = some x.n := by
  rw [prq_succ (l := O ++ [x]) (k := k) (by rw [List.length_append, h]; show k < k + 1; omega)]
  congr 1
  rw [List.getElem_append_right (by rw [h]; exact Nat.le_refl _)]
  simp [h]
end Go.Proofs.YteonkfedgopdiaaGreat
namespace Go.Proofs.YteonkfedgopdiaaGreat
open Go.RowKit Go.WideShapes Go.ChangeShapes
set_option maxRecDepth 100000 in
theorem rd_pair {H : Type} {enc : TypeId × Value → H} {w : World} {cs : List Value} (h : Rd enc w 46 cs) : ∃ x : Pr, cs = x.cells ∧ x.n.size ≤ maxLen ∧ x.v.size ≤ maxLen := by
  obtain ⟨hl, hf⟩ := rd_struct Tryz.underlying46 h
  have hl2 : cs.length = 2 := hl.trans (by kernel_rfl)
  match cs, hl2 with
  | [v0, v1], _ =>
    have g0 := hf 0 _ rfl
    have g1 := hf 1 _ rfl
    have cs' : Tryz.prog.cellsOf 9 = 1 := by kernel_rfl
    simp [cs'] at g0 g1
    obtain ⟨s, e0, hs⟩ := rd_string Tryz.underlying9 g0
    obtain ⟨t, e1, ht⟩ := rd_string Tryz.underlying9 g1
    simp at e0 e1
    subst e0 e1
    exact ⟨⟨s, t⟩, rfl, hs, ht⟩
set_option maxRecDepth 100000 in
theorem rd_prs {H : Type} {enc : TypeId × Value → H} {w : World} {cs : List Value} (h : Rd enc w 42 cs) :
    ∃ (ao : Option Addr) (cap : Nat) (l : List Pr), cs = [.slice ao l.length cap] ∧ FitsP l ∧ PrsAt w ao l := by
  obtain ⟨ao, cap, es, h1, h2, h3, h4⟩ := rd_slice Tryz.underlying42 (by kernel_rfl : Tryz.prog.cellsOf 46 = 2) (by decide) h
  have hl : ∀ es : List (List Value), (∀ x ∈ es, ∃ f : Pr, x = f.cells ∧ f.n.size ≤ maxLen ∧ f.v.size ≤ maxLen) → ∃ l : List Pr, es = l.map Pr.cells ∧ ∀ f ∈ l, f.n.size ≤ maxLen ∧ f.v.size ≤ maxLen := by
    intro es
    induction es with
    | nil => exact fun _ => ⟨[], rfl, by simp⟩
    | cons x es ih =>
      intro h
      obtain ⟨a, rfl, ha⟩ := h x (by simp)
      obtain ⟨l, rfl, hl⟩ := ih (fun y hy => h y (by simp [hy]))
      exact ⟨a :: l, rfl, by simp; exact ⟨ha, hl⟩⟩
  obtain ⟨l, rfl, hok⟩ := hl es (fun x hx => rd_pair (h4 x hx))
  refine ⟨ao, cap, l, by simpa using h1, ⟨by simpa using h2, hok⟩, fun i hi => ?_⟩
  obtain ⟨b, off, e1, e2, e3⟩ := h3.cell i (by simpa using hi)
  refine ⟨b, off, e1, ?_, ?_⟩
  · simpa [Pr.cells] using e3 0 (by simp [Pr.cells])
  · simpa [Pr.cells] using e3 1 (by simp [Pr.cells])
theorem rd_cap {H : Type} {enc : TypeId × Value → H} {w : World} {t e : TypeId} {ao : Option Addr} {len cap : Nat} (ht : Tryz.prog.underlying t = some (.slice e)) (h : Rd enc w t [.slice ao len cap]) : len ≤ cap ∧ cap ≤ maxLen := by
  obtain ⟨fuel, x, h⟩ := h
  rcases Go.Deep.open_slice ht h with ⟨e1, _⟩ | ⟨a, l, c, m, n, D, Pl, e1, _, hl, hm, _⟩
  · cases e1
    exact ⟨Nat.le_refl _, Nat.zero_le _⟩
  · cases e1
    exact ⟨hl, hm⟩
end Go.Proofs.YteonkfedgopdiaaGreat
namespace Go.Proofs.YteonkfedgopdiaaGreat
open Go.RowKit
def RPrsE (r : List Pr × Int) (w : World) (e : Ending) (w' : World) : Prop := ∃ bo c, e = .returned (.tuple #[.slice bo r.1.length c, .int .i64 r.2]) ∧ PrsAt w' bo r.1 ∧ (∀ g off m, bo = some ⟨g, off, m⟩ → w.heap.size ≤ g) ∧ CapP r.1 c ∧ Keep0 w w'
theorem RPrsE.mk {r : List Pr} {x : Int} {w w' : World} {e : Ending} {bo : Option Addr} {c : Nat} (h : e = .returned (.tuple #[.slice bo r.length c, .int .i64 x])) (h1 : PrsAt w' bo r) (h2 : ∀ g off m, bo = some ⟨g, off, m⟩ → w.heap.size ≤ g) (h3 : CapP r c) (h4 : Keep0 w w') : RPrsE (r, x) w e w' := ⟨bo, c, h, h1, h2, h3, h4⟩
theorem RPrsE.bare {r : List Pr × Int} {x : Int} {w w' : World} {e : Ending} (h0 : r = ([], x)) (h : e = .returned (.tuple #[.slice none 0 0, .int .i64 x])) (h4 : Keep0 w w') : RPrsE r w e w' := by
  subst h0
  exact ⟨none, 0, h, prs_nil _ _, (fun _ _ _ e => by cases e), ⟨Nat.le_refl _, Nat.zero_le _⟩, h4⟩
end Go.Proofs.YteonkfedgopdiaaGreat
