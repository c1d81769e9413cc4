/-
  What this seat's claims lean on of the texts RefVcode2, VecA, PrA.
  Conditions: as each theorem states.
-/
import Derived.WalkKit
import Derived.ProofKit
import Derived.Below
import Derived.Deep.Draws
import Derived.Deep.RegionHeld
import Derived.Test.YtoefibkhlhmlfaaGreatChecked
import Derived.OpenShut
import Derived.ShutString
import Derived.WalkSpells
import Derived.WalkLawsBesides
import Derived.Deep.QuietTactic
import Derived.BigQuiet
import Derived.Laws.Bits64b
import Derived.PlainAid
import Derived.Lib.AppendStr
import Derived.Deep.AppendLies
import Derived.Laws.IdiomStrings
import Derived.Laws.BytesArg
import Derived.Deep.RegionWith
import Derived.Laws.AppendOwn
import Derived.Deep.DeepAppendWide
import Derived.Deep.Upon
import Derived.Test.YtoefibkhlhmlfaaGreatY9
import Derived.Test.YtoefibkhlhmlfaaGreatY18
import Derived.Deep.Slices
import Derived.Test.YtoefibkhlhmlfaaGreatY6
namespace Go.Proofs.YtoefibkhlhmlfaaGreat
open Go.RowKit
set_option maxRecDepth 100000 in
set_option maxHeartbeats 4000000 in
theorem rput11 {w : World} {b : Nat} {t : ByteArray} {M x : Int} (h : RPen w b t M x) (ht : t.size ≤ 1000000000) (ao : Option Addr) (cap : Nat) (l : List En) (hf : Fits l) (hc : EnsAt w ao l) (hn : 0 < l.length → ApartE (fun k => k = b) ao) :
    Calls Tryz.prog 155 #[pptr b, .slice ao l.length cap] w fun e w' => e = .returned (.tuple #[]) ∧ RPen w' b (pVec M (t, x) l).1 M (pVec M (t, x) l).2 ∧ Keep1 b w w' := by
  have yc := rcheck10 w ao cap l hf hc
  have hl' : (l.length : Int) ≤ 9223372036854775807 := by have := hf.1; unfold maxLen at this; omega
  by_cases h0 : vCheck l = 0
  case neg =>
    rw [pVec_no h0]
    have e0 : (vCheck l != 0) = true := by simpa using h0
    have yf := fun W (h : RPen W b t M x) => rpfail_any (vCheck l) h
    clear h0
    generalize vCheck l = C at *
    go_enter Tryz.func155, Tryz.ntmps155
    go_wp2_with fail
    refine yc.mono ?_
    rintro e w1 ⟨rfl, hw1⟩
    have k1 := keepN hw1
    have yf := yf _ (h.keep0 k1)
    clear yc hw1
    go_wp2_with fail
    refine yf.mono ?_
    rintro e w2 ⟨rfl, h2, k2⟩
    have K2 : Keep1 b w w2 := (k1.any (R := fun k => k = b)).trans k2
    clear yf k2 k1
    go_wp2
    (try simp only [Exit.inBlock, Exit.then])
    refine bodyPost_ret (results_none rfl _ _ _) rfl ?_
    exact ⟨rfl, h2, K2⟩
  rw [h0] at yc
  obtain ⟨h64, hg⟩ := (check_zero l).1 h0
  rw [pVec_yes h0]
  have HC : Hid (EnsAt w ao l) := hc
  have HG : Hid (∀ y ∈ l, y.a.size ≤ 32 ∧ U64 y.n) := fun y hy => ⟨(hg.1 y hy).2.1, (hf.2 y hy).2⟩
  have HN : Hid (0 < l.length → ApartE (fun k => k = b) ao) := hn
  have yp := fun W (h : RPen W b t M x) => rput_any l.length (by omega) h (by omega)
  have hs1 := pOne_size M (t, x) (vText l.length)
  have hs2 := (vText_le (n := l.length) (by omega)).2
  have HT : Hid ((pOne M (t, x) (vText l.length)).1.size ≤ t.size + 10) := by show _ ≤ _; have : (t, x).1.size = t.size := rfl; omega
  have i0 : IntKind.u64.wrap (l.length : Int) = (l.length : Int) := by rw [IntKind.wrap_u64]; omega
  obtain ⟨P, hP⟩ : ∃ P, pOne M (t, x) (vText l.length) = P := ⟨_, rfl⟩
  rw [hP] at yp HT ⊢
  obtain ⟨R, hR⟩ : ∃ R, pEnts M P l = R := ⟨_, rfl⟩
  rw [hR]
  have HR : Hid (pEnts M P l = R) := hR
  clear hP hs1 hs2 hg hc hn h0 hR
  go_enter Tryz.func155, Tryz.ntmps155
  go_wp2_with fail
  refine yc.mono ?_
  rintro e w1 ⟨rfl, hw1⟩
  have k1 := keepN hw1
  have yp := yp _ (h.keep0 k1)
  clear yc hw1
  go_wp2_with fail
  refine yp.mono ?_
  rintro e w2 ⟨rfl, h2, k2⟩
  have K2 : Keep1 b w w2 := (k1.any (R := fun k => k = b)).trans k2
  clear yp k2 k1
  go_wp2_with fail
  go_loopw [5] (fun i wr => ∃ (k : Nat), i = .int .i64 (k : Int) ∧ k ≤ l.length ∧ RPen wr b (pEnts M P (l.take k)).1 M (pEnts M P (l.take k)).2 ∧ Keep1 b w wr) (fun i _ => l.length - (intOf i).toNat)
  case atStart => exact ⟨0, rfl, by omega, h2, K2⟩
  case round =>
    obtain ⟨k, rfl, hk, hp, hK⟩ := hrel
    clear h2 K2
    by_cases hlt : k < l.length
    · have i1 : (k : Int) < l.length := by omega
      have hap := HN.out (by omega)
      have hcr := HC.out.keep hK hap
      obtain ⟨bb, off, rfl, x0, x1⟩ := hcr k hlt
      have hbb : bb ≠ b := hap _ _ _ rfl
      obtain ⟨hy, hyn⟩ := HG.out l[k] (List.getElem_mem hlt)
      have hsz := pEnts_size M (l.take k) P (fun y hy => HG.out y (List.mem_of_mem_take hy))
      rw [List.length_take, Nat.min_eq_left (by omega)] at hsz
      have hT := HT.out
      have HS : Hid (pEnts M P (l.take (k + 1)) = pEnt M (pEnts M P (l.take k)) l[k]) := pEnts_take hlt
      have yb := rbput_any 32 (by decide) l[k].a hp (by omega)
      have hws := wPut_size M 32 (pEnts M P (l.take k)) l[k].a (by omega)
      have hE : ((pEnts M P (l.take k)).1, (pEnts M P (l.take k)).2) = pEnts M P (l.take k) := rfl
      rw [hE] at yb
      have yn := fun W (h : RPen W b (wPut M 32 (pEnts M P (l.take k)) l[k].a).1 M (wPut M 32 (pEnts M P (l.take k)) l[k].a).2) => rput_any l[k].n hyn h (by omega)
      have hE2 : ((wPut M 32 (pEnts M P (l.take k)) l[k].a).1, (wPut M 32 (pEnts M P (l.take k)) l[k].a).2) = wPut M 32 (pEnts M P (l.take k)) l[k].a := rfl
      rw [hE2] at yn
      have hE3 : pOne M (wPut M 32 (pEnts M P (l.take k)) l[k].a) (vText l[k].n) = pEnt M (pEnts M P (l.take k)) l[k] := rfl
      rw [hE3, ← HS.out] at yn
      obtain ⟨P2, hP2⟩ : ∃ P2, pEnts M P (l.take (k + 1)) = P2 := ⟨_, rfl⟩
      rw [hP2] at yn
      have HS2 : Hid (pEnts M P (l.take (k + 1)) = P2) := hP2
      clear hP2 HS hap
      generalize wPut M 32 (pEnts M P (l.take k)) l[k].a = P1 at *
      generalize pEnts M P (l.take k) = P0 at *
      generalize l[k].a = A at *
      generalize (l[k].n : Int) = NN at *
      clear hE hE2 hE3 hws hsz hT hcr hp hy hyn
      go_wp2_with fail
      refine yb.mono ?_
      rintro e w3 ⟨rfl, h3, k3⟩
      have y1 := k3.cell x1 hbb
      have K3 := hK.trans k3
      have yn := yn _ h3
      clear yb k3 hK x0 x1 h3
      go_wp2_with fail
      refine yn.mono ?_
      rintro e w4 ⟨rfl, h4, k4⟩
      have K4 := K3.trans k4
      clear yn k4 K3 y1
      go_wp2
      go_roundw
      case rel => exact ⟨k + 1, by go_num, by omega, by rw [HS2.out]; exact h4, K4⟩
      case measure => simp [intOf]; omega
    · have i1 : ¬ (k : Int) < l.length := by omega
      have ek : l.take k = l := List.take_of_length_le (by omega)
      rw [ek, HR.out] at hp
      go_wp2
      go_end0
      exact ⟨rfl, hp, hK⟩
theorem ens_old {w : World} {ao : Option Addr} {l : List En} (h : EnsAt w ao l) (hl : 0 < l.length) : ∀ g off m, ao = some ⟨g, off, m⟩ → g < w.heap.size := by
  intro g off m e
  obtain ⟨b, o, e', h1, _⟩ := h 0 hl
  rw [e] at e'
  cases e'
  exact World.block_lt_of_cell? w _ h1
end Go.Proofs.YtoefibkhlhmlfaaGreat
namespace Go.Proofs.YtoefibkhlhmlfaaGreat
open Go.RowKit
theorem texts_two10 (w : World) (t : TypeId) (a b : ByteArray) : TextsIn (w.alloc (.cells #[.string a, .string b] t)) (some ⟨w.heap.size, 0, none⟩) [a, b] := by
  intro i hi
  have hi : i = 0 ∨ i = 1 := by simp at hi; omega
  rcases hi with rfl | rfl
  · exact ⟨w.heap.size, 0, rfl, cell_alloc w t rfl⟩
  · exact ⟨w.heap.size, 0, rfl, cell_alloc w t rfl⟩
theorem rise_yes {a b : ByteArray} (h : bl a b = true) : rise [a, b] = -1 := by
  show (if bl a b = true then riseAt (1 + 1) [b] else 1) = -1
  rw [if_pos h]
  rfl
theorem rise_no {a b : ByteArray} (h : bl a b = false) : rise [a, b] = 1 := by
  show (if bl a b = true then riseAt (1 + 1) [b] else 1) = 1
  rw [h]
  rfl
theorem empty_no {a : ByteArray} (h : a.size ≠ 0) : a.toList.isEmpty = false := by
  rw [ByteArray.toList_eq]
  cases hb : a.data.toList with
  | nil => exact absurd (by show a.data.size = 0; rw [← Array.length_toList, hb]; rfl) h
  | cons x l => rfl
theorem empty_eq {a : ByteArray} (h : a.size = 0) : a = ⟨#[]⟩ := ByteArray.ext (Array.eq_empty_of_size_eq_zero h)
set_option maxRecDepth 100000 in
set_option maxHeartbeats 4000000 in
theorem checkAt10 (w : World) (ao : Option Addr) (cap : Nat) (l : List En) (ok : Ok10 l) (hc : EnsAt w ao l) (k : Nat) (hk : k < l.length) :
    Calls Tryz.prog 128 #[.slice ao l.length cap, .int .i64 (k : Int)] w fun e w' => e = .returned (.int .i64 (cOne (prv l k) l[k])) ∧ Keep0 w w' := by
  have hl := ok.1
  have hm := (ok.2 l[k] (List.getElem_mem hk)).1
  have hl' : (l.length : Int) ≤ 9223372036854775807 := by omega
  have i1 : (k : Int) < l.length := by omega
  have i2 : (l[k].a.size : Int) ≤ 9223372036854775807 := by unfold maxLen at hm; omega
  obtain ⟨b, off, rfl, x0, x1⟩ := hc k hk
  by_cases h1 : 32 < l[k].a.size
  · rw [cOne_a h1]
    have i3 : (32 : Int) < l[k].a.size := by omega
    clear hm h1 x1 ok
    generalize l[k].a = A at *
    go_enter Tryz.func128, Tryz.ntmps128
    go_wp2
    go_ret
    exact ⟨rfl, Keep.refl _ _⟩
  have i3 : ¬ (32 : Int) < l[k].a.size := by omega
  by_cases h2 : l[k].a.size = 0
  · rw [cOne_b h2]
    rw [empty_eq h2] at x0
    clear hm h1 x1 ok i2 i3 h2
    go_enter Tryz.func128, Tryz.ntmps128
    go_wp2
    go_ret
    exact ⟨rfl, Keep.refl _ _⟩
  have e1 := empty_no h2
  cases k with
  | zero =>
    have hp : falls (prv l 0) l[0].a = false := rfl
    have v0 : w.cell? ⟨b, off, none⟩ = some (.string l[0].a) := x0
    have v1 : w.cell? ⟨b, off + 1, none⟩ = some (.int .u64 (l[0].n : Int)) := x1
    by_cases h4 : l[0].n = 0
    · rw [cOne_d h1 h2 hp h4]
      have i6 : (l[0].n : Int) = 0 := by omega
      rw [i6] at v1
      clear hm h1 x1 x0 ok i6 hp h2 h4
      generalize l[0].a = A at *
      go_enter Tryz.func128, Tryz.ntmps128
      go_wp2
      go_ret
      exact ⟨rfl, Keep.refl _ _⟩
    · rw [cOne_e h1 h2 hp h4]
      have i6 : ((l[0].n : Int) == 0) = false := beq_eq_false_iff_ne.2 (by omega)
      have i7 : ¬ (l[0].n : Int) = 0 := by omega
      clear hm h1 x1 x0 ok hp h2 h4
      generalize (l[0].n : Int) = N at *
      generalize l[0].a = A at *
      go_enter Tryz.func128, Tryz.ntmps128
      go_wp2
      go_ret
      exact ⟨rfl, Keep.refl _ _⟩
  | succ j =>
    have hj : j < l.length := by omega
    obtain ⟨b', off', e', p0, _⟩ := hc j hj
    cases e'
    have hp : falls (prv l (j + 1)) l[j + 1].a = !bl l[j].a l[j + 1].a := by rw [prv_succ hj, falls_some]
    have yr := rising6_any _ _ 2 [l[j].a, l[j + 1].a] (by show 2 ≤ maxLen; unfold maxLen; omega) (texts_two10 w 9 l[j].a l[j + 1].a)
    have kA : Keep0 w (w.alloc (.cells #[.string l[j].a, .string l[j + 1].a] 9)) := (Keep.refl _ w).alloc _
    have z1 := kA.cell x1 (fun f => f)
    have i9 : (j : Int) < l.length := by omega
    have el : [l[j].a, l[j + 1].a].length = 2 := rfl
    rw [el] at yr
    clear el
    have hQ : ∃ q : Nat, j + 1 = q := ⟨_, rfl⟩
    have i7 : IntKind.i64.wrap (j : Int) = (j : Int) := by rw [IntKind.wrap_i64]; omega
    cases hB : bl l[j].a l[j + 1].a with
    | false =>
      rw [hB] at hp
      rw [cOne_c h1 h2 hp]
      rw [rise_no hB] at yr
      clear hm h1 h2 hp hB ok hc x1 z1 i2
      generalize l[j + 1].a = A at *
      generalize l[j].a = A' at *
      obtain ⟨q, hq⟩ := hQ
      have i6 : (q : Int) - 1 = (j : Int) := by omega
      have i8 : decide (0 < q) = true := decide_eq_true (by omega)
      have i8' : 0 < q := by omega
      rw [hq] at i1 x0 hk ⊢
      clear hq
      go_enter Tryz.func128, Tryz.ntmps128
      go_wp2_with fail
      refine yr.mono ?_
      rintro e w1 ⟨rfl, hw1⟩
      have K1 := kA.trans (keepN hw1)
      clear yr kA hw1
      go_wp2
      go_ret
      exact ⟨rfl, K1⟩
    | true =>
      rw [hB] at hp
      rw [rise_yes hB] at yr
      by_cases h4 : l[j + 1].n = 0
      · rw [cOne_d h1 h2 hp h4]
        have i6 : (l[j + 1].n : Int) = 0 := by omega
        rw [i6] at z1
        clear hm h1 h2 hp hB ok hc x1 i2 i6 h4
        generalize l[j + 1].a = A at *
        generalize l[j].a = A' at *
        obtain ⟨q, hq⟩ := hQ
        have i6 : (q : Int) - 1 = (j : Int) := by omega
        have i8 : decide (0 < q) = true := decide_eq_true (by omega)
        have i8' : 0 < q := by omega
        rw [hq] at i1 x0 hk z1 ⊢
        clear hq
        go_enter Tryz.func128, Tryz.ntmps128
        go_wp2_with fail
        refine yr.mono ?_
        rintro e w1 ⟨rfl, hw1⟩
        have k1 := keepN hw1
        have z1 := k1.cell z1 (fun f => f)
        have K1 := kA.trans k1
        clear yr kA hw1 k1 x0 p0
        go_wp2
        go_ret
        exact ⟨rfl, K1⟩
      · rw [cOne_e h1 h2 hp h4]
        have i10 : ((l[j + 1].n : Int) == 0) = false := beq_eq_false_iff_ne.2 (by omega)
        have i11 : ¬ (l[j + 1].n : Int) = 0 := by omega
        clear hm h1 h2 hp hB ok hc x1 i2 h4
        generalize (l[j + 1].n : Int) = N at *
        generalize l[j + 1].a = A at *
        generalize l[j].a = A' at *
        obtain ⟨q, hq⟩ := hQ
        have i6 : (q : Int) - 1 = (j : Int) := by omega
        have i8 : decide (0 < q) = true := decide_eq_true (by omega)
        have i8' : 0 < q := by omega
        rw [hq] at i1 x0 hk z1 ⊢
        clear hq
        go_enter Tryz.func128, Tryz.ntmps128
        go_wp2_with fail
        refine yr.mono ?_
        rintro e w1 ⟨rfl, hw1⟩
        have k1 := keepN hw1
        have z1 := k1.cell z1 (fun f => f)
        have K1 := kA.trans k1
        clear yr kA hw1 k1 x0 p0
        go_wp2
        go_ret
        exact ⟨rfl, K1⟩
end Go.Proofs.YtoefibkhlhmlfaaGreat
namespace Go.Proofs.YtoefibkhlhmlfaaGreat
open Go.RowKit
theorem texts_two14 (w : World) (t : TypeId) (a b : ByteArray) : TextsIn (w.alloc (.cells #[.string a, .string b] t)) (some ⟨w.heap.size, 0, none⟩) [a, b] := by
  intro i hi
  have hi : i = 0 ∨ i = 1 := by simp at hi; omega
  rcases hi with rfl | rfl
  · exact ⟨w.heap.size, 0, rfl, cell_alloc w t rfl⟩
  · exact ⟨w.heap.size, 0, rfl, cell_alloc w t rfl⟩
theorem rise_yes14 {a b : ByteArray} (h : bl a b = true) : rise [a, b] = -1 := by
  show (if bl a b = true then riseAt (1 + 1) [b] else 1) = -1
  rw [if_pos h]
  rfl
theorem rise_no14 {a b : ByteArray} (h : bl a b = false) : rise [a, b] = 1 := by
  show (if bl a b = true then riseAt (1 + 1) [b] else 1) = 1
  rw [h]
  rfl
theorem empty_no14 {a : ByteArray} (h : a.size ≠ 0) : a.toList.isEmpty = false := by
  rw [ByteArray.toList_eq]
  cases hb : a.data.toList with
  | nil => exact absurd (by show a.data.size = 0; rw [← Array.length_toList, hb]; rfl) h
  | cons x l => rfl
theorem empty_eq14 {a : ByteArray} (h : a.size = 0) : a = ⟨#[]⟩ := ByteArray.ext (Array.eq_empty_of_size_eq_zero h)
def nmT (p : Option ByteArray) (s : ByteArray) : Int := if 32 < s.size then 3 else if s.size = 0 then 14 else if falls p s = true then 6 else 0
theorem nmT_a {p : Option ByteArray} {s : ByteArray} (h : 32 < s.size) : nmT p s = 3 := if_pos h
theorem nmT_b {p : Option ByteArray} {s : ByteArray} (h : s.size = 0) : nmT p s = 14 := by unfold nmT; rw [if_neg (by omega), if_pos h]
theorem nmT_c {p : Option ByteArray} {s : ByteArray} (h1 : ¬ 32 < s.size) (h2 : s.size ≠ 0) (h3 : falls p s = true) : nmT p s = 6 := by unfold nmT; rw [if_neg h1, if_neg h2, if_pos h3]
theorem nmT_d {p : Option ByteArray} {s : ByteArray} (h1 : ¬ 32 < s.size) (h2 : s.size ≠ 0) (h3 : falls p s = false) : nmT p s = 0 := by unfold nmT; rw [if_neg h1, if_neg h2, h3]; rfl
theorem qOne_n {p : Option ByteArray} {x : Pr} : qOne p x = if nmT p x.n = 0 then (if 32768 < x.v.size then 3 else 0) else nmT p x.n := by
  by_cases h1 : 32 < x.n.size
  · rw [qOne_a h1, nmT_a h1]; rfl
  by_cases h2 : x.n.size = 0
  · rw [qOne_b h2, nmT_b h2]; rfl
  cases h3 : falls p x.n with
  | true => rw [qOne_c h1 h2 h3, nmT_c h1 h2 h3]; rfl
  | false =>
    rw [nmT_d h1 h2 h3, if_pos rfl]
    by_cases h4 : 32768 < x.v.size
    · rw [qOne_d h1 h2 h3 h4, if_pos h4]
    · rw [qOne_e h1 h2 h3 h4, if_neg h4]
set_option maxRecDepth 100000 in
set_option maxHeartbeats 4000000 in
theorem checkName14 (w : World) (ao : Option Addr) (cap : Nat) (O : List Pr) (s : ByteArray) (hl : O.length ≤ maxLen) (hs : s.size ≤ maxLen) (hc : PrsAt w ao O) :
    Calls Tryz.prog 143 #[.slice ao O.length cap, .string s] w fun e w' => e = .returned (.int .i64 (nmT (prq O O.length) s)) ∧ Keep0 w w' := by
  have hl' : (O.length : Int) ≤ 9223372036854775807 := by unfold maxLen at hl; omega
  have hs' : (s.size : Int) ≤ 9223372036854775807 := by unfold maxLen at hs; omega
  have i7 : IntKind.i64.wrap ((O.length : Int) - 1) = (O.length : Int) - 1 := by rw [IntKind.wrap_i64]; omega
  by_cases h1 : 32 < s.size
  · rw [nmT_a h1]
    have i3 : (32 : Int) < s.size := by omega
    clear h1 hc hs hl
    go_enter Tryz.func143, Tryz.ntmps143
    go_wp2
    go_ret
    exact ⟨rfl, Keep.refl _ _⟩
  have i3 : ¬ (32 : Int) < s.size := by omega
  by_cases h2 : s.size = 0
  · rw [nmT_b h2]
    have es := empty_eq14 h2
    subst es
    clear h1 h2 i3 hs' hc hs hl
    go_enter Tryz.func143, Tryz.ntmps143
    go_wp2
    go_ret
    exact ⟨rfl, Keep.refl _ _⟩
  have e1 := empty_no14 h2
  by_cases hO : O.length = 0
  · have hT : nmT (prq O O.length) s = 0 := nmT_d h1 h2 (by rw [hO]; rfl)
    rw [hT, hO]
    clear hT hc hs hl h1 h2 i7 hl'
    go_enter Tryz.func143, Tryz.ntmps143
    go_wp2
    go_ret
    exact ⟨rfl, Keep.refl _ _⟩
  obtain ⟨j, hj⟩ : ∃ j, j + 1 = O.length := ⟨O.length - 1, by omega⟩
  have hjl : j < O.length := by omega
  obtain ⟨b', off, rfl, x0, xz⟩ := hc j hjl
  clear xz
  have hp : falls (prq O O.length) s = !bl O[j].n s := by rw [← hj, prq_succ hjl, falls_some]
  have kA : Keep0 w (w.alloc (.cells #[.string O[j].n, .string s] 9)) := (Keep.refl _ w).alloc _
  have yr := rising6_any _ _ 2 [O[j].n, s] (by show 2 ≤ maxLen; unfold maxLen; omega) (texts_two14 w 9 O[j].n s)
  have el : [O[j].n, s].length = 2 := rfl
  rw [el] at yr
  have i1 : (j : Int) < O.length := by omega
  have i6 : (O.length : Int) - 1 = (j : Int) := by omega
  rw [i6] at i7
  cases hB : bl O[j].n s with
  | true =>
    rw [hB] at hp
    rw [rise_yes14 hB] at yr
    rw [nmT_d h1 h2 hp]
    clear el hp hB hc h1 h2
    generalize O[j].n = A at *
    clear hO hj hjl hs hl
    generalize O.length = q at *
    go_enter Tryz.func143, Tryz.ntmps143
    go_wp2_with fail
    refine yr.mono ?_
    rintro e w1 ⟨rfl, hw1⟩
    have K1 := kA.trans (keepN hw1)
    clear yr kA hw1 x0
    go_wp2
    go_ret
    exact ⟨rfl, K1⟩
  | false =>
    rw [hB] at hp
    rw [rise_no14 hB] at yr
    rw [nmT_c h1 h2 hp]
    clear el hp hB hc h1 h2
    generalize O[j].n = A at *
    clear hO hj hjl hs hl
    generalize O.length = q at *
    go_enter Tryz.func143, Tryz.ntmps143
    go_wp2_with fail
    refine yr.mono ?_
    rintro e w1 ⟨rfl, hw1⟩
    have K1 := kA.trans (keepN hw1)
    clear yr kA hw1 x0
    go_wp2
    go_ret
    exact ⟨rfl, K1⟩
set_option maxRecDepth 100000 in
set_option maxHeartbeats 8000000 in
theorem check14 (w : World) (ao : Option Addr) (cap : Nat) (l : List Pr) (hf : FitsP l) (hcap : CapP l cap) (hc : PrsAt w ao l) :
    Calls Tryz.prog 102 #[.slice ao l.length cap] w fun e w' => e = .returned (.int .i64 (qCheck l)) ∧ Keep0 w w' := by
  have HC : Hid (PrsAt w ao l) := hc
  have HF : Hid (∀ x ∈ l, x.n.size ≤ maxLen ∧ x.v.size ≤ maxLen) := hf.2
  have hl' : (l.length : Int) ≤ 9223372036854775807 := by have := hf.1; unfold maxLen at this; omega
  have hca : (cap : Int) ≤ 9223372036854775807 := by have := hcap.2; unfold maxLen at this; omega
  have hcb := hcap.1
  have HL : Hid (l.length ≤ maxLen) := hf.1
  clear hc hf hcap
  by_cases h8 : 8 < l.length
  · have i0 : (8 : Int) < l.length := by omega
    have e : qCheck l = 3 := if_pos h8
    rw [e]
    go_enter Tryz.func102, Tryz.ntmps102
    go_wp2
    go_ret
    exact ⟨rfl, Keep.refl _ _⟩
  · have i0 : ¬ (8 : Int) < l.length := by omega
    have e : qCheck l = qGo (prq l 0) (l.drop 0) := if_neg h8
    obtain ⟨r, hr⟩ : ∃ r, qCheck l = r := ⟨_, rfl⟩
    rw [hr]
    rw [e] at hr
    have HR : Hid (qGo (prq l 0) (l.drop 0) = r) := hr
    clear hr e
    go_enter Tryz.func102, Tryz.ntmps102
    go_wp2_with fail
    go_loopw [11] (fun i wr => ∃ (k : Nat), i = .int .i64 (k : Int) ∧ k ≤ l.length ∧ Hid (qGo (prq l k) (l.drop k) = r) ∧ Keep0 w wr) (fun i _ => l.length - (intOf i).toNat)
    case atStart => exact ⟨0, rfl, by omega, HR, Keep.refl _ _⟩
    case round =>
      obtain ⟨k, rfl, hk, HK, hK⟩ := hrel
      clear HR
      by_cases hlt : k < l.length
      · have i1 : (k : Int) < l.length := by omega
        obtain ⟨b, off, rfl, p0, p1⟩ := HC.out k hlt
        have x0 := hK.cell p0 (fun f => f)
        have x1 := hK.cell p1 (fun f => f)
        have hfx := HF.out l[k] (List.getElem_mem hlt)
        have i2v : (l[k].v.size : Int) ≤ 9223372036854775807 := by have := hfx.2; unfold maxLen at this; omega
        have i2 : (l[k].n.size : Int) ≤ 9223372036854775807 := by have := hfx.1; unfold maxLen at this; omega
        have hd := HK.out
        rw [goq_drop hlt, qOne_n] at hd
        have etl : (l.take k).length = k := by rw [List.length_take]; omega
        have etp : prq (l.take k) k = prq l k := by
          cases k with
          | zero => rfl
          | succ j =>
            have hj : j < l.length := by omega
            rw [prq_succ hj, prq_succ (l := l.take (j + 1)) (by rw [etl]; omega), List.getElem_take]
        have yq : ∀ W, Keep0 w W → Calls Tryz.prog 143 #[.slice (some ⟨b, off, none⟩) k cap, .string l[k].n] W fun e w' => e = .returned (.int .i64 (nmT (prq l k) l[k].n)) ∧ Keep0 W w' := by
          intro W KW
          have h := checkName14 W (some ⟨b, off, none⟩) cap (l.take k) l[k].n (by rw [etl]; have := HL.out; omega) hfx.1 (by
            intro i hi
            have hi' : i < l.length := by rw [etl] at hi; omega
            obtain ⟨b2, off2, e, q0, q1⟩ := HC.out i hi'
            cases e
            rw [List.getElem_take]
            exact ⟨b, off, rfl, KW.cell q0 (fun f => f), KW.cell q1 (fun f => f)⟩)
          rw [etl, etp] at h
          exact h
        obtain ⟨C, hC⟩ : ∃ C, nmT (prq l k) l[k].n = C := ⟨_, rfl⟩
        rw [hC] at hd yq
        have HN1 : Hid (C ≠ 0 → C = r) := by
          intro h
          rw [if_neg h, if_neg h] at hd
          exact hd
        have HN2 : Hid (C = 0 → 32768 < l[k].v.size → (3 : Int) = r) := by
          intro h h4
          rw [if_pos h, if_pos h4, if_neg (by decide)] at hd
          exact hd
        have HN3 : Hid (C = 0 → ¬ 32768 < l[k].v.size → qGo (prq l (k + 1)) (l.drop (k + 1)) = r) := by
          intro h h4
          rw [if_pos h, if_neg h4, if_pos rfl] at hd
          exact hd
        have kA : Keep0 wr (wr.alloc (.cells #[.string l[k].n, .string l[k].v] 135)) := (Keep.refl _ wr).alloc _
        have KA := hK.trans kA
        have q0 : (wr.alloc (.cells #[.string l[k].n, .string l[k].v] 135)).cell? ⟨wr.heap.size, 0, none⟩ = some (.string l[k].n) := cell_alloc _ _ rfl
        have q1 : (wr.alloc (.cells #[.string l[k].n, .string l[k].v] 135)).cell? ⟨wr.heap.size, 1, none⟩ = some (.string l[k].v) := cell_alloc _ _ rfl
        have j1 : k ≤ cap := by omega
        have j2 : (k : Int) ≤ cap := by omega
        clear hd HK hfx etl etp hC kA p0 p1 hK
        generalize l[k].n = A at *
        obtain ⟨B, hB⟩ : ∃ B, l[k].v = B := ⟨_, rfl⟩
        rw [hB] at HN2 HN3 q0 q1 x1 i2v KA
        clear hB
        go_wp2_with fail
        generalize (wr.alloc (.cells #[.string A, .string B] 135)) = W0 at *
        generalize wr.heap.size = g at *
        clear x0 x1
        refine wp_region_held_drew (S := (fun W => W.cell? ⟨g, 0, none⟩ = some (.string A) ∧ W.cell? ⟨g, 1, none⟩ = some (.string B))) (by kernel_rfl) ⟨q0, q1⟩ (fun hHeld => ?_)
        refine wpAnyH_take (i := 0) (v := ?t0v) (by simp only [List.getElem?_toArray, List.getElem?_cons_zero] <;> rfl) (by kernel_rfl) (by kernel_rfl) (by kernel_rfl) (by exact fun _ _ _ h => h) (Or.inl ⟨by rfl, ?t0y⟩) hHeld ?t0r
        case t0y => intro w hSw; (try dsimp only at hSw); go_simp <;> rfl
        simp only [Act.put, List.setIfInBounds_toArray, List.set_cons_zero, List.set_cons_succ]
        refine wpAnyH_take (i := 1) (v := ?t1v) (by simp only [List.getElem?_toArray, List.getElem?_cons_succ, List.getElem?_cons_zero] <;> rfl) (by kernel_rfl) (by kernel_rfl) (by kernel_rfl) (by exact fun _ _ _ h => h) (Or.inl ⟨by rfl, ?t1y⟩) hHeld ?t1r
        case t1y => intro w hSw; (try dsimp only at hSw); go_simp <;> rfl
        simp only [Act.put, List.setIfInBounds_toArray, List.set_cons_zero, List.set_cons_succ]
        refine wpAnyH_take (i := 2) (v := ?t2v) (by simp only [List.getElem?_toArray, List.getElem?_cons_succ, List.getElem?_cons_zero] <;> rfl) (by kernel_rfl) (by kernel_rfl) (by kernel_rfl) (by exact fun _ _ _ h => h) (Or.inl ⟨by rfl, ?t2y⟩) hHeld ?t2r
        case t2y => intro w hSw; (try dsimp only at hSw); go_simp <;> rfl
        simp only [Act.put, List.setIfInBounds_toArray, List.set_cons_zero, List.set_cons_succ]
        refine wpAnyH_take (i := 3) (v := ?t3v) (by simp only [List.getElem?_toArray, List.getElem?_cons_succ, List.getElem?_cons_zero] <;> rfl) (by kernel_rfl) (by kernel_rfl) (by kernel_rfl) (by exact fun _ _ _ h => h) (Or.inl ⟨by rfl, ?t3y⟩) hHeld ?t3r
        case t3y => intro w hSw; (try dsimp only at hSw); go_simp <;> rfl
        simp only [Act.put, List.setIfInBounds_toArray, List.set_cons_zero, List.set_cons_succ]
        refine wpAnyH_take (i := 4) (v := ?t4v) (by simp only [List.getElem?_toArray, List.getElem?_cons_succ, List.getElem?_cons_zero] <;> rfl) (by kernel_rfl) (by kernel_rfl) (by kernel_rfl) (by exact fun _ _ _ h => h) (Or.inl ⟨by rfl, ?t4y⟩) hHeld ?t4r
        case t4y => intro w hSw; (try dsimp only at hSw); go_simp <;> rfl
        simp only [Act.put, List.setIfInBounds_toArray, List.set_cons_zero, List.set_cons_succ]
        refine wpAnyH_ready (rs := [5]) (by kernel_rfl) (by simp) ?_
        refine AllReadyH.cons (by simp only [List.getElem?_toArray, List.getElem?_cons_succ, List.getElem?_cons_zero] <;> rfl) (fun K hK => ?_) AllReadyH.nil
        go_simp
        refine (yq _ KA.drew).mono ?_
        rintro e w3 ⟨rfl, kx⟩
        have kw3 : Keep0 W0 w3 := ((Keep.refl _ W0).drew).trans kx
        clear kx
        go_wp2_with fail
        refine hK.out _ _ ⟨kw3.cell q0 (fun f => f), kw3.cell q1 (fun f => f)⟩ (fun hHeld => ?_)
        clear hK K
        refine wpAnyH_take (i := 6) (v := ?t5v) (by simp only [List.getElem?_toArray, List.getElem?_cons_succ, List.getElem?_cons_zero] <;> rfl) (by kernel_rfl) (by kernel_rfl) (by kernel_rfl) (by exact fun _ _ _ h => h) (Or.inl ⟨by rfl, ?t5y⟩) hHeld ?t5r
        case t5y => intro w hSw; (try dsimp only at hSw); go_simp <;> rfl
        simp only [Act.put, List.setIfInBounds_toArray, List.set_cons_zero, List.set_cons_succ]
        refine wpAnyH_done (by kernel_rfl) ?_ _
        have K3 := KA.trans kw3
        have u1 := kw3.cell q1 (fun f => f)
        clear yq kw3 KA hHeld q0 q1
        by_cases h0 : C = 0
        · have HA2 := HN2.out h0
          have HA3 := HN3.out h0
          subst h0
          by_cases h4 : 32768 < B.size
          · have HD : Hid ((3 : Int) = r) := HA2 h4
            have i5 : (32768 : Int) < B.size := by omega
            clear HA2 HA3 HN1 HN2 HN3
            go_wp2
            go_ret
            exact ⟨by rw [← HD.out]; rfl, K3⟩
          · have HD : Hid (qGo (prq l (k + 1)) (l.drop (k + 1)) = r) := HA3 h4
            have i5 : ¬ (32768 : Int) < B.size := by omega
            clear HA2 HA3 HN1 HN2 HN3
            go_wp2
            go_roundw
            case rel => exact ⟨k + 1, by go_num, by omega, HD, K3⟩
            case measure => simp [intOf]; omega
        · have HD : Hid (C = r) := HN1.out h0
          have e0 : (C != 0) = true := by simpa using h0
          clear HN1 HN2 HN3 h0
          go_wp2
          go_ret
          exact ⟨by rw [← HD.out]; rfl, K3⟩
      · have i1 : ¬ (k : Int) < l.length := by omega
        have hd := HK.out
        rw [List.drop_eq_nil_of_le (by omega), qGo] at hd
        have HD : Hid ((0 : Int) = r) := hd
        clear hd HK
        go_wp2
        go_ret
        exact ⟨by rw [← HD.out]; rfl, hK⟩
end Go.Proofs.YtoefibkhlhmlfaaGreat
