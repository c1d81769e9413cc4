/-
  What this seat's claims lean on of the texts RefOld3.
  Conditions: as each theorem states.
-/
import Derived.WalkKit
import Derived.ProofKit
import Derived.Below
import Derived.Deep.Draws
import Derived.Deep.RegionHeld
import Derived.Test.YtoefibkhlhmlfaaGreatChecked
import Derived.OpenShut
import Derived.ShutString
import Derived.WalkSpells
import Derived.WalkLawsBesides
import Derived.Deep.QuietTactic
import Derived.BigQuiet
import Derived.Laws.Bits64b
import Derived.PlainAid
import Derived.Lib.AppendStr
import Derived.Deep.AppendLies
import Derived.Laws.IdiomStrings
import Derived.Laws.BytesArg
import Derived.Deep.RegionWith
import Derived.Laws.AppendOwn
import Derived.Deep.DeepAppendWide
import Derived.Deep.Upon
import Derived.Maps.AppendAt
import Derived.Deep.Slices
import Derived.Test.YtoefibkhlhmlfaaGreatZ18
namespace Go.Proofs.YtoefibkhlhmlfaaGreat
open Go.RowKit
set_option maxRecDepth 100000 in
set_option maxHeartbeats 8000000 in
theorem rsame17 (w : World) (key : ByteArray) (ao : Option Addr) (cap : Nat) (LP : List Po) (hl : LP.length ≤ maxLen) (hf : ∀ p ∈ LP, FitsOs p.x) (hc : PosAt w ao LP) (key' : ByteArray) (ao' : Option Addr) (cap' : Nat) (LQ : List Po) (hl' : LQ.length ≤ maxLen) (hf' : ∀ p ∈ LQ, FitsOs p.x) (hc' : PosAt w ao' LQ) :
    Calls Tryz.prog 14 #[.agg #[.string key, .slice ao LP.length cap], .agg #[.string key', .slice ao' LQ.length cap']] w fun e w' => e = .returned (.bool (olSame ⟨key, LP.map Po.x⟩ ⟨key', LQ.map Po.x⟩)) ∧ Keep0 w w' := by
  have i1 : (LP.length : Int) ≤ 9223372036854775807 := by unfold maxLen at hl; omega
  have i2 : (LQ.length : Int) ≤ 9223372036854775807 := by unfold maxLen at hl'; omega
  have kB : Keep0 w ((w.alloc (.cells #[.string key, .slice ao LP.length cap] 24)).alloc (.cells #[.string key', .slice ao' LQ.length cap'] 24)) := ((Keep.refl _ w).alloc _).alloc _
  have hX : DAt ((w.alloc (.cells #[.string key, .slice ao LP.length cap] 24)).alloc (.cells #[.string key', .slice ao' LQ.length cap'] 24)) w.heap.size (.string key) (.slice ao LP.length cap) := (DAt.new w 24 (.string key) (.slice ao LP.length cap)).keep0 ((Keep.refl _ _).alloc _)
  have hY : DAt ((w.alloc (.cells #[.string key, .slice ao LP.length cap] 24)).alloc (.cells #[.string key', .slice ao' LQ.length cap'] 24)) (w.heap.size + 1) (.string key') (.slice ao' LQ.length cap') := by
    have := DAt.new (w.alloc (.cells #[.string key, .slice ao LP.length cap] 24)) 24 (.string key') (.slice ao' LQ.length cap')
    rw [World.size_alloc] at this
    exact this
  have HC : Hid (PosAt w ao LP) := hc
  have HF : Hid (∀ p ∈ LP, FitsOs p.x) := hf
  have HC' : Hid (PosAt w ao' LQ) := hc'
  have HF' : Hid (∀ p ∈ LQ, FitsOs p.x) := hf'
  have Hlp : Hid ((LP.map Po.x).length = LP.length) := List.length_map ..
  have Hlq : Hid ((LQ.map Po.x).length = LQ.length) := List.length_map ..
  clear hc hf hc' hf'
  have hg : olSame ⟨key, LP.map Po.x⟩ ⟨key', LQ.map Po.x⟩ = (decide (key = key') && ossSame (LP.map Po.x) (LQ.map Po.x)) := rfl
  rw [hg]
  clear hg
  by_cases h1 : key = key'
  case neg =>
    obtain ⟨n1, n2, n3⟩ := txt_ne h1
    rw [decide_eq_false h1, Bool.false_and]
    obtain ⟨x0, x1, xf0, xf1⟩ := hX.cells
    obtain ⟨y0, y1, yf0, yf1⟩ := hY.cells
    go_enter Tryz.func14, Tryz.ntmps14
    clear h1 hX hY
    go_wp2
    go_ret
    exact ⟨rfl, kB⟩
  subst h1
  rw [decide_eq_true rfl, Bool.true_and]
  by_cases h2 : LP.length = LQ.length
  case neg =>
    rw [ossSame_len (by rw [Hlp.out, Hlq.out]; exact h2)]
    have n2 : ((LP.length : Int) != (LQ.length : Int)) = true := by simp; omega
    have n3 : ¬ (LP.length : Int) = (LQ.length : Int) := by omega
    obtain ⟨x0, x1, xf0, xf1⟩ := hX.cells
    obtain ⟨y0, y1, yf0, yf1⟩ := hY.cells
    go_enter Tryz.func14, Tryz.ntmps14
    clear h2 hX hY
    go_wp2
    go_ret
    exact ⟨rfl, kB⟩
  have n2 : ((LP.length : Int) != (LQ.length : Int)) = false := by simp; omega
  have n3 : (LP.length : Int) = (LQ.length : Int) := by omega
  obtain ⟨r, hr⟩ : ∃ r, ossSame (LP.map Po.x) (LQ.map Po.x) = r := ⟨_, rfl⟩
  rw [hr]
  have HR : Hid (ossSame ((LP.map Po.x).drop 0) ((LQ.map Po.x).drop 0) = r) := by show _ = _; rw [List.drop_zero, List.drop_zero]; exact hr
  have H2 : Hid (LP.length = LQ.length) := h2
  clear hr h2
  obtain ⟨x0, x1, xf0, xf1⟩ := hX.cells
  obtain ⟨y0, y1, yf0, yf1⟩ := hY.cells
  go_enter Tryz.func14, Tryz.ntmps14
  go_wp2_with fail
  generalize ((w.alloc (.cells #[.string key, .slice ao LP.length cap] 24)).alloc (.cells #[.string key, .slice ao' LQ.length cap'] 24)) = W0 at *
  generalize w.heap.size = g at *
  have HX0 : Hid (DAt W0 g (.string key) (.slice ao LP.length cap)) := hX
  have HY0 : Hid (DAt W0 (g + 1) (.string key) (.slice ao' LQ.length cap')) := hY
  have HK0 : Hid (Keep0 w W0) := kB
  clear x0 x1 xf0 xf1 y0 y1 yf0 yf1 hX hY kB n2 n3
  go_loopw [5] (fun i wr => ∃ (k : Nat), i = .int .i64 (k : Int) ∧ k ≤ LP.length ∧ Hid (ossSame ((LP.map Po.x).drop k) ((LQ.map Po.x).drop k) = r) ∧ Hid (DAt wr g (.string key) (.slice ao LP.length cap)) ∧ Hid (DAt wr (g + 1) (.string key) (.slice ao' LQ.length cap')) ∧ Hid (Keep0 w wr)) (fun i _ => LP.length - (intOf i).toNat)
  case atStart => exact ⟨0, rfl, Nat.zero_le _, HR, HX0, HY0, HK0⟩
  case round =>
    obtain ⟨k, rfl, hk2, HRk, HXk, HYk, HKk⟩ := hrel
    clear HR HX0 HY0 HK0
    obtain ⟨x0, x1, xf0, xf1⟩ := HXk.out.cells
    obtain ⟨y0, y1, yf0, yf1⟩ := HYk.out.cells
    by_cases hlt : k < LP.length
    · have j3 : (k : Int) < LP.length := by omega
      have hlt' : k < LQ.length := by have := H2.out; omega
      have j3' : (k : Int) < LQ.length := by omega
      obtain ⟨b, off, eao, s1, s2⟩ := (HC.out.keep0 HKk.out).at_ k hlt
      subst eao
      obtain ⟨b', off', eao', s3, s4⟩ := (HC'.out.keep0 HKk.out).at_ k hlt'
      subst eao'
      have hfi := HF.out _ (List.getElem_mem hlt)
      have hfk := HF'.out _ (List.getElem_mem hlt')
      obtain ⟨c0, c1, c2⟩ := s1
      obtain ⟨d0, d1, d2⟩ := s3
      have HS2 : Hid (EnsAt wr LP[k].vo LP[k].x.c) := s2
      have HS4 : Hid (EnsAt wr LQ[k].vo LQ[k].x.c) := s4
      have ysm := fun W (K : Keep0 wr W) => rone17 W LP[k] LQ[k] hfi hfk (HS2.out.keep0 K) (HS4.out.keep0 K)
      have hd := HRk.out
      rw [ossSame_drop (by rw [Hlp.out]; exact hlt) (by rw [Hlq.out]; exact hlt'), List.getElem_map, List.getElem_map] at hd
      clear s2 s4 hfi hfk HS2 HS4 HRk x0 y0 xf0 xf1 yf0 yf1
      have HDt : Hid (osSame LP[k].x LQ[k].x = true → ossSame ((LP.map Po.x).drop (k + 1)) ((LQ.map Po.x).drop (k + 1)) = r) := fun hs => by rw [hs, Bool.true_and] at hd; exact hd
      have HDf : Hid (osSame LP[k].x LQ[k].x = false → false = r) := fun hs => by rw [hs, Bool.false_and] at hd; exact hd
      clear hd
      generalize osSame LP[k].x LQ[k].x = BS at *
      generalize LP[k] = P at *
      generalize LQ[k] = Q at *
      go_wp2_with fail
      have KD : Keep0 wr wr.drew := (Keep.refl _ wr).drew
      have z0 : wr.drew.cell? ⟨g, 1, none⟩ = some (.slice (some ⟨b, off, none⟩) LP.length cap) := KD.cell x1 (fun f => f)
      have z1 : wr.drew.cell? ⟨g + 1, 1, none⟩ = some (.slice (some ⟨b', off', none⟩) LQ.length cap') := KD.cell y1 (fun f => f)
      have z2 : wr.drew.cell? ⟨b, off + k * 3, none⟩ = some (.slice P.vo P.x.c.length P.vc) := KD.cell c0 (fun f => f)
      have z3 : wr.drew.cell? ⟨b, off + k * 3 + 1, none⟩ = some (.bool P.x.d) := KD.cell c1 (fun f => f)
      have z4 : wr.drew.cell? ⟨b, off + k * 3 + 2, none⟩ = some (.string P.x.v) := KD.cell c2 (fun f => f)
      have z5 : wr.drew.cell? ⟨b', off' + k * 3, none⟩ = some (.slice Q.vo Q.x.c.length Q.vc) := KD.cell d0 (fun f => f)
      have z6 : wr.drew.cell? ⟨b', off' + k * 3 + 1, none⟩ = some (.bool Q.x.d) := KD.cell d1 (fun f => f)
      have z7 : wr.drew.cell? ⟨b', off' + k * 3 + 2, none⟩ = some (.string Q.x.v) := KD.cell d2 (fun f => f)
      refine wp_region_held_drew (S := (fun W => W.cell? ⟨g, 1, none⟩ = some (.slice (some ⟨b, off, none⟩) LP.length cap) ∧ W.cell? ⟨g + 1, 1, none⟩ = some (.slice (some ⟨b', off', none⟩) LQ.length cap') ∧ W.cell? ⟨b, off + k * 3, none⟩ = some (.slice P.vo P.x.c.length P.vc) ∧ W.cell? ⟨b, off + k * 3 + 1, none⟩ = some (.bool P.x.d) ∧ W.cell? ⟨b, off + k * 3 + 2, none⟩ = some (.string P.x.v) ∧ W.cell? ⟨b', off' + k * 3, none⟩ = some (.slice Q.vo Q.x.c.length Q.vc) ∧ W.cell? ⟨b', off' + k * 3 + 1, none⟩ = some (.bool Q.x.d) ∧ W.cell? ⟨b', off' + k * 3 + 2, none⟩ = some (.string Q.x.v))) (by kernel_rfl) ⟨z0, z1, z2, z3, z4, z5, z6, z7⟩ (fun hHeld => ?_)
      refine wpAnyH_take (i := 0) (v := ?t0v) (by simp only [List.getElem?_toArray, List.getElem?_cons_zero] <;> rfl) (by kernel_rfl) (by kernel_rfl) (by kernel_rfl) (by exact fun _ _ _ h => h) (Or.inl ⟨by rfl, ?t0y⟩) hHeld ?t0r
      case t0y => intro w hSw; (try dsimp only at hSw); go_simp <;> rfl
      simp only [Act.put, List.setIfInBounds_toArray, List.set_cons_zero, List.set_cons_succ]
      refine wpAnyH_take (i := 1) (v := ?t1v) (by simp only [List.getElem?_toArray, List.getElem?_cons_succ, List.getElem?_cons_zero] <;> rfl) (by kernel_rfl) (by kernel_rfl) (by kernel_rfl) (by exact fun _ _ _ h => h) (Or.inl ⟨by rfl, ?t1y⟩) hHeld ?t1r
      case t1y => intro w hSw; (try dsimp only at hSw); go_simp <;> rfl
      simp only [Act.put, List.setIfInBounds_toArray, List.set_cons_zero, List.set_cons_succ]
      refine wpAnyH_take (i := 2) (v := ?t2v) (by simp only [List.getElem?_toArray, List.getElem?_cons_succ, List.getElem?_cons_zero] <;> rfl) (by kernel_rfl) (by kernel_rfl) (by kernel_rfl) (by exact fun _ _ _ h => h) (Or.inl ⟨by rfl, ?t2y⟩) hHeld ?t2r
      case t2y => intro w hSw; (try dsimp only at hSw); go_simp <;> rfl
      simp only [Act.put, List.setIfInBounds_toArray, List.set_cons_zero, List.set_cons_succ]
      refine wpAnyH_take (i := 3) (v := ?t3v) (by simp only [List.getElem?_toArray, List.getElem?_cons_succ, List.getElem?_cons_zero] <;> rfl) (by kernel_rfl) (by kernel_rfl) (by kernel_rfl) (by exact fun _ _ _ h => h) (Or.inl ⟨by rfl, ?t3y⟩) hHeld ?t3r
      case t3y => intro w hSw; (try dsimp only at hSw); go_simp <;> rfl
      simp only [Act.put, List.setIfInBounds_toArray, List.set_cons_zero, List.set_cons_succ]
      refine wpAnyH_take (i := 4) (v := ?t4v) (by simp only [List.getElem?_toArray, List.getElem?_cons_succ, List.getElem?_cons_zero] <;> rfl) (by kernel_rfl) (by kernel_rfl) (by kernel_rfl) (by exact fun _ _ _ h => h) (Or.inl ⟨by rfl, ?t4y⟩) hHeld ?t4r
      case t4y => intro w hSw; (try dsimp only at hSw); go_simp <;> rfl
      simp only [Act.put, List.setIfInBounds_toArray, List.set_cons_zero, List.set_cons_succ]
      refine wpAnyH_take (i := 5) (v := ?t5v) (by simp only [List.getElem?_toArray, List.getElem?_cons_succ, List.getElem?_cons_zero] <;> rfl) (by kernel_rfl) (by kernel_rfl) (by kernel_rfl) (by exact fun _ _ _ h => h) (Or.inl ⟨by rfl, ?t5y⟩) hHeld ?t5r
      case t5y => intro w hSw; (try dsimp only at hSw); go_simp <;> rfl
      simp only [Act.put, List.setIfInBounds_toArray, List.set_cons_zero, List.set_cons_succ]
      refine wpAnyH_take (i := 6) (v := ?t6v) (by simp only [List.getElem?_toArray, List.getElem?_cons_succ, List.getElem?_cons_zero] <;> rfl) (by kernel_rfl) (by kernel_rfl) (by kernel_rfl) (by exact fun _ _ _ h => h) (Or.inl ⟨by rfl, ?t6y⟩) hHeld ?t6r
      case t6y => intro w hSw; (try dsimp only at hSw); go_simp <;> rfl
      simp only [Act.put, List.setIfInBounds_toArray, List.set_cons_zero, List.set_cons_succ]
      refine wpAnyH_take (i := 7) (v := ?t7v) (by simp only [List.getElem?_toArray, List.getElem?_cons_succ, List.getElem?_cons_zero] <;> rfl) (by kernel_rfl) (by kernel_rfl) (by kernel_rfl) (by exact fun _ _ _ h => h) (Or.inl ⟨by rfl, ?t7y⟩) hHeld ?t7r
      case t7y => intro w hSw; (try dsimp only at hSw); go_simp <;> rfl
      simp only [Act.put, List.setIfInBounds_toArray, List.set_cons_zero, List.set_cons_succ]
      refine wpAnyH_take (i := 8) (v := ?t8v) (by simp only [List.getElem?_toArray, List.getElem?_cons_succ, List.getElem?_cons_zero] <;> rfl) (by kernel_rfl) (by kernel_rfl) (by kernel_rfl) (by exact fun _ _ _ h => h) (Or.inl ⟨by rfl, ?t8y⟩) hHeld ?t8r
      case t8y => intro w hSw; (try dsimp only at hSw); go_simp <;> rfl
      simp only [Act.put, List.setIfInBounds_toArray, List.set_cons_zero, List.set_cons_succ]
      refine wpAnyH_take (i := 9) (v := ?t9v) (by simp only [List.getElem?_toArray, List.getElem?_cons_succ, List.getElem?_cons_zero] <;> rfl) (by kernel_rfl) (by kernel_rfl) (by kernel_rfl) (by exact fun _ _ _ h => h) (Or.inl ⟨by rfl, ?t9y⟩) hHeld ?t9r
      case t9y => intro w hSw; (try dsimp only at hSw); go_simp <;> rfl
      simp only [Act.put, List.setIfInBounds_toArray, List.set_cons_zero, List.set_cons_succ]
      refine wpAnyH_ready (rs := [10]) (by kernel_rfl) (by simp) ?_
      refine AllReadyH.cons (by simp only [List.getElem?_toArray, List.getElem?_cons_succ, List.getElem?_cons_zero] <;> rfl) (fun K hK => ?_) AllReadyH.nil
      go_simp
      refine (ysm _ KD).mono ?_
      rintro e W3 ⟨rfl, k3⟩
      go_wp2_with fail
      refine hK.out _ _ ⟨k3.cell z0 (fun f => f), k3.cell z1 (fun f => f), k3.cell z2 (fun f => f), k3.cell z3 (fun f => f), k3.cell z4 (fun f => f), k3.cell z5 (fun f => f), k3.cell z6 (fun f => f), k3.cell z7 (fun f => f)⟩ (fun hHeld => ?_)
      clear hK K
      refine wpAnyH_take (i := 11) (v := ?t10v) (by simp only [List.getElem?_toArray, List.getElem?_cons_succ, List.getElem?_cons_zero] <;> rfl) (by kernel_rfl) (by kernel_rfl) (by kernel_rfl) (by exact fun _ _ _ h => h) (Or.inl ⟨by rfl, ?t10y⟩) hHeld ?t10r
      case t10y => intro w hSw; (try dsimp only at hSw); go_simp <;> rfl
      simp only [Act.put, List.setIfInBounds_toArray, List.set_cons_zero, List.set_cons_succ]
      refine wpAnyH_done (by kernel_rfl) ?_ _
      clear hHeld
      have K3 := KD.trans k3
      clear KD k3 ysm z0 z1 z2 z3 z4 z5 z6 z7 x1 y1 c0 c1 c2 d0 d1 d2
      have HKW : Hid (Keep0 w W3) := HKk.out.trans K3
      cases BS with
      | true =>
        have HD : Hid (ossSame ((LP.map Po.x).drop (k + 1)) ((LQ.map Po.x).drop (k + 1)) = r) := HDt.out rfl
        have HXW : Hid (DAt W3 g (.string key) (.slice (some ⟨b, off, none⟩) LP.length cap)) := HXk.out.keep0 K3
        have HYW : Hid (DAt W3 (g + 1) (.string key) (.slice (some ⟨b', off', none⟩) LQ.length cap')) := HYk.out.keep0 K3
        clear K3 HDt HDf
        go_wp2
        go_roundw
        case rel => exact ⟨k + 1, by go_num, by omega, HD, HXW, HYW, HKW⟩
        case measure => simp [intOf]; omega
      | false =>
        have HD : Hid (false = r) := HDf.out rfl
        clear K3 HDt HDf
        go_wp2
        go_ret
        exact ⟨by first | (rw [← HD.out]; rfl) | rw [← HD.out], HKW.out⟩
    · have j3 : ¬ (k : Int) < LP.length := by omega
      have hd := HRk.out
      rw [List.drop_eq_nil_of_le (by rw [Hlp.out]; omega), List.drop_eq_nil_of_le (by rw [Hlq.out]; have := H2.out; omega)] at hd
      have HD : Hid (true = r) := hd
      clear hd HRk
      go_wp2
      go_ret
      exact ⟨by first | (rw [← HD.out]; rfl) | rw [← HD.out], HKk.out⟩
theorem olAlike_def (key key' : ByteArray) (LP LQ : List Po) : olAlike ⟨key, LP.map Po.x⟩ ⟨key', LQ.map Po.x⟩ = (decide (olCheck ⟨key, LP.map Po.x⟩ = 0) && (decide (olCheck ⟨key', LQ.map Po.x⟩ = 0) && (decide (key = key') && (decide (LP.length = LQ.length) && allOnce (LP.map Po.x) (LQ.map Po.x))))) := by
  unfold olAlike
  rw [show (⟨key, LP.map Po.x⟩ : Ol).l.length = LP.length from List.length_map .., show (⟨key', LQ.map Po.x⟩ : Ol).l.length = LQ.length from List.length_map ..]
theorem allOnce_drop {l m : List Os} {k : Nat} (h : k < l.length) : allOnce (l.drop k) m = (decide (often l[k] m = 1) && allOnce (l.drop (k + 1)) m) := by
  unfold allOnce
  rw [List.drop_eq_getElem_cons h, List.all_cons]
set_option maxRecDepth 100000 in
set_option maxHeartbeats 8000000 in
theorem ralike17 (w : World) (key : ByteArray) (hk : key.size ≤ maxLen) (ao : Option Addr) (cap : Nat) (LP : List Po) (hl : LP.length ≤ maxLen) (hf : ∀ p ∈ LP, FitsOs p.x) (hc : PosAt w ao LP) (key' : ByteArray) (hk' : key'.size ≤ maxLen) (ao' : Option Addr) (cap' : Nat) (LQ : List Po) (hl' : LQ.length ≤ maxLen) (hf' : ∀ p ∈ LQ, FitsOs p.x) (hc' : PosAt w ao' LQ) :
    Calls Tryz.prog 22 #[.agg #[.string key, .slice ao LP.length cap], .agg #[.string key', .slice ao' LQ.length cap']] w fun e w' => e = .returned (.bool (olAlike ⟨key, LP.map Po.x⟩ ⟨key', LQ.map Po.x⟩)) ∧ Keep0 w w' := by
  have i1 : (LP.length : Int) ≤ 9223372036854775807 := by unfold maxLen at hl; omega
  have i2 : (LQ.length : Int) ≤ 9223372036854775807 := by unfold maxLen at hl'; omega
  have kB : Keep0 w ((w.alloc (.cells #[.string key, .slice ao LP.length cap] 24)).alloc (.cells #[.string key', .slice ao' LQ.length cap'] 24)) := ((Keep.refl _ w).alloc _).alloc _
  have hX : DAt ((w.alloc (.cells #[.string key, .slice ao LP.length cap] 24)).alloc (.cells #[.string key', .slice ao' LQ.length cap'] 24)) w.heap.size (.string key) (.slice ao LP.length cap) := (DAt.new w 24 (.string key) (.slice ao LP.length cap)).keep0 ((Keep.refl _ _).alloc _)
  have hY : DAt ((w.alloc (.cells #[.string key, .slice ao LP.length cap] 24)).alloc (.cells #[.string key', .slice ao' LQ.length cap'] 24)) (w.heap.size + 1) (.string key') (.slice ao' LQ.length cap') := by
    have := DAt.new (w.alloc (.cells #[.string key, .slice ao LP.length cap] 24)) 24 (.string key') (.slice ao' LQ.length cap')
    rw [World.size_alloc] at this
    exact this
  have HC : Hid (PosAt w ao LP) := hc
  have HF : Hid (∀ p ∈ LP, FitsOs p.x) := hf
  have HC' : Hid (PosAt w ao' LQ) := hc'
  have HF' : Hid (∀ p ∈ LQ, FitsOs p.x) := hf'
  have Hlp : Hid ((LP.map Po.x).length = LP.length) := List.length_map ..
  have Hlq : Hid ((LQ.map Po.x).length = LQ.length) := List.length_map ..
  clear hc hf hc' hf'
  have yca := fun W (K : Keep0 w W) => rcheck17 W key hk ao cap LP hl HF.out (HC.out.keep0 K)
  have ycb := fun W (K : Keep0 w W) => rcheck17 W key' hk' ao' cap' LQ hl' HF'.out (HC'.out.keep0 K)
  rw [olAlike_def]
  by_cases h1 : olCheck ⟨key, LP.map Po.x⟩ = 0
  case neg =>
    have e1 : (olCheck ⟨key, LP.map Po.x⟩ != 0) = true := by simpa using h1
    rw [decide_eq_false h1, Bool.false_and]
    clear h1 ycb
    generalize olCheck ⟨key, LP.map Po.x⟩ = C at *
    obtain ⟨x0, x1, xf0, xf1⟩ := hX.cells
    obtain ⟨y0, y1, yf0, yf1⟩ := hY.cells
    go_enter Tryz.func22, Tryz.ntmps22
    go_wp2_with fail
    generalize ((w.alloc (.cells #[.string key, .slice ao LP.length cap] 24)).alloc (.cells #[.string key', .slice ao' LQ.length cap'] 24)) = W0 at *
    generalize w.heap.size = g at *
    refine (yca W0 kB).mono ?_
    rintro e w1 ⟨rfl, k1⟩
    have K1 := kB.trans k1
    replace x0 := k1.cell x0 (fun f => f)
    replace x1 := k1.cell x1 (fun f => f)
    replace y0 := k1.cell y0 (fun f => f)
    replace y1 := k1.cell y1 (fun f => f)
    have hX := hX.keep0 k1
    have hY := hY.keep0 k1
    clear yca k1 kB xf0 xf1 yf0 yf1
    go_wp2
    go_ret
    exact ⟨rfl, K1⟩
  rw [decide_eq_true h1, Bool.true_and]
  rw [h1] at yca
  by_cases h2 : olCheck ⟨key', LQ.map Po.x⟩ = 0
  case neg =>
    have e1 : (olCheck ⟨key', LQ.map Po.x⟩ != 0) = true := by simpa using h2
    rw [decide_eq_false h2, Bool.false_and]
    clear h1 h2
    generalize olCheck ⟨key', LQ.map Po.x⟩ = C at *
    obtain ⟨x0, x1, xf0, xf1⟩ := hX.cells
    obtain ⟨y0, y1, yf0, yf1⟩ := hY.cells
    go_enter Tryz.func22, Tryz.ntmps22
    go_wp2_with fail
    generalize ((w.alloc (.cells #[.string key, .slice ao LP.length cap] 24)).alloc (.cells #[.string key', .slice ao' LQ.length cap'] 24)) = W0 at *
    generalize w.heap.size = g at *
    refine (yca W0 kB).mono ?_
    rintro e w1 ⟨rfl, k1⟩
    have K1 := kB.trans k1
    replace x0 := k1.cell x0 (fun f => f)
    replace x1 := k1.cell x1 (fun f => f)
    replace y0 := k1.cell y0 (fun f => f)
    replace y1 := k1.cell y1 (fun f => f)
    have hX := hX.keep0 k1
    have hY := hY.keep0 k1
    clear yca k1 kB xf0 xf1 yf0 yf1
    go_wp2_with fail
    refine (ycb w1 K1).mono ?_
    rintro e w2 ⟨rfl, k2⟩
    have K2 := K1.trans k2
    replace x0 := k2.cell x0 (fun f => f)
    replace x1 := k2.cell x1 (fun f => f)
    replace y0 := k2.cell y0 (fun f => f)
    replace y1 := k2.cell y1 (fun f => f)
    have hX := hX.keep0 k2
    have hY := hY.keep0 k2
    clear ycb k2 K1
    go_wp2
    go_ret
    exact ⟨rfl, K2⟩
  rw [decide_eq_true h2, Bool.true_and]
  rw [h2] at ycb
  clear h1 h2
  by_cases h1 : key = key'
  case neg =>
    obtain ⟨n1, n2, n3⟩ := txt_ne h1
    rw [decide_eq_false h1, Bool.false_and]
    clear h1
    obtain ⟨x0, x1, xf0, xf1⟩ := hX.cells
    obtain ⟨y0, y1, yf0, yf1⟩ := hY.cells
    go_enter Tryz.func22, Tryz.ntmps22
    go_wp2_with fail
    generalize ((w.alloc (.cells #[.string key, .slice ao LP.length cap] 24)).alloc (.cells #[.string key', .slice ao' LQ.length cap'] 24)) = W0 at *
    generalize w.heap.size = g at *
    refine (yca W0 kB).mono ?_
    rintro e w1 ⟨rfl, k1⟩
    have K1 := kB.trans k1
    replace x0 := k1.cell x0 (fun f => f)
    replace x1 := k1.cell x1 (fun f => f)
    replace y0 := k1.cell y0 (fun f => f)
    replace y1 := k1.cell y1 (fun f => f)
    have hX := hX.keep0 k1
    have hY := hY.keep0 k1
    clear yca k1 kB xf0 xf1 yf0 yf1
    go_wp2_with fail
    refine (ycb w1 K1).mono ?_
    rintro e w2 ⟨rfl, k2⟩
    have K2 := K1.trans k2
    replace x0 := k2.cell x0 (fun f => f)
    replace x1 := k2.cell x1 (fun f => f)
    replace y0 := k2.cell y0 (fun f => f)
    replace y1 := k2.cell y1 (fun f => f)
    have hX := hX.keep0 k2
    have hY := hY.keep0 k2
    clear ycb k2 K1
    go_wp2
    go_ret
    exact ⟨rfl, K2⟩
  subst h1
  rw [decide_eq_true rfl, Bool.true_and]
  by_cases h2 : LP.length = LQ.length
  case neg =>
    rw [decide_eq_false h2, Bool.false_and]
    have n2 : ((LP.length : Int) != (LQ.length : Int)) = true := by simp; omega
    have n3 : ¬ (LP.length : Int) = (LQ.length : Int) := by omega
    clear h2
    obtain ⟨x0, x1, xf0, xf1⟩ := hX.cells
    obtain ⟨y0, y1, yf0, yf1⟩ := hY.cells
    go_enter Tryz.func22, Tryz.ntmps22
    go_wp2_with fail
    generalize ((w.alloc (.cells #[.string key, .slice ao LP.length cap] 24)).alloc (.cells #[.string key, .slice ao' LQ.length cap'] 24)) = W0 at *
    generalize w.heap.size = g at *
    refine (yca W0 kB).mono ?_
    rintro e w1 ⟨rfl, k1⟩
    have K1 := kB.trans k1
    replace x0 := k1.cell x0 (fun f => f)
    replace x1 := k1.cell x1 (fun f => f)
    replace y0 := k1.cell y0 (fun f => f)
    replace y1 := k1.cell y1 (fun f => f)
    have hX := hX.keep0 k1
    have hY := hY.keep0 k1
    clear yca k1 kB xf0 xf1 yf0 yf1
    go_wp2_with fail
    refine (ycb w1 K1).mono ?_
    rintro e w2 ⟨rfl, k2⟩
    have K2 := K1.trans k2
    replace x0 := k2.cell x0 (fun f => f)
    replace x1 := k2.cell x1 (fun f => f)
    replace y0 := k2.cell y0 (fun f => f)
    replace y1 := k2.cell y1 (fun f => f)
    have hX := hX.keep0 k2
    have hY := hY.keep0 k2
    clear ycb k2 K1
    go_wp2
    go_ret
    exact ⟨rfl, K2⟩
  have n2 : ((LP.length : Int) != (LQ.length : Int)) = false := by simp; omega
  have n3 : (LP.length : Int) = (LQ.length : Int) := by omega
  rw [decide_eq_true h2, Bool.true_and]
  obtain ⟨r, hr⟩ : ∃ r, allOnce (LP.map Po.x) (LQ.map Po.x) = r := ⟨_, rfl⟩
  rw [hr]
  have HR : Hid (allOnce ((LP.map Po.x).drop 0) (LQ.map Po.x) = r) := by show _ = _; rw [List.drop_zero]; exact hr
  have H2 : Hid (LP.length = LQ.length) := h2
  clear hr h2
  obtain ⟨x0, x1, xf0, xf1⟩ := hX.cells
  obtain ⟨y0, y1, yf0, yf1⟩ := hY.cells
  go_enter Tryz.func22, Tryz.ntmps22
  go_wp2_with fail
  generalize ((w.alloc (.cells #[.string key, .slice ao LP.length cap] 24)).alloc (.cells #[.string key, .slice ao' LQ.length cap'] 24)) = W0 at *
  generalize w.heap.size = g at *
  refine (yca W0 kB).mono ?_
  rintro e w1 ⟨rfl, k1⟩
  have K1 := kB.trans k1
  replace x0 := k1.cell x0 (fun f => f)
  replace x1 := k1.cell x1 (fun f => f)
  replace y0 := k1.cell y0 (fun f => f)
  replace y1 := k1.cell y1 (fun f => f)
  have hX := hX.keep0 k1
  have hY := hY.keep0 k1
  clear yca k1 kB xf0 xf1 yf0 yf1
  go_wp2_with fail
  refine (ycb w1 K1).mono ?_
  rintro e w2 ⟨rfl, k2⟩
  have K2 := K1.trans k2
  replace x0 := k2.cell x0 (fun f => f)
  replace x1 := k2.cell x1 (fun f => f)
  replace y0 := k2.cell y0 (fun f => f)
  replace y1 := k2.cell y1 (fun f => f)
  have hX := hX.keep0 k2
  have hY := hY.keep0 k2
  clear ycb k2 K1
  go_wp2_with fail
  have HX0 : Hid (DAt w2 g (.string key) (.slice ao LP.length cap)) := hX
  have HY0 : Hid (DAt w2 (g + 1) (.string key) (.slice ao' LQ.length cap')) := hY
  have HK0 : Hid (Keep0 w w2) := K2
  clear x0 x1 y0 y1 hX hY K2 n2 n3
  go_loopw [5] (fun i wr => ∃ (k : Nat), i = .int .i64 (k : Int) ∧ k ≤ LP.length ∧ Hid (allOnce ((LP.map Po.x).drop k) (LQ.map Po.x) = r) ∧ Hid (DAt wr g (.string key) (.slice ao LP.length cap)) ∧ Hid (DAt wr (g + 1) (.string key) (.slice ao' LQ.length cap')) ∧ Hid (Keep0 w wr)) (fun i _ => LP.length - (intOf i).toNat)
  case atStart => exact ⟨0, rfl, Nat.zero_le _, HR, HX0, HY0, HK0⟩
  case round =>
    obtain ⟨i, rfl, hi, HRi, HXi, HYi, HKi⟩ := hrel
    clear HR HX0 HY0 HK0
    obtain ⟨wo, ewo⟩ : ∃ z : World, z = wr := ⟨wr, rfl⟩
    subst ewo
    obtain ⟨x0, x1, xf0, xf1⟩ := HXi.out.cells
    by_cases hlt : i < LP.length
    · have j3 : (i : Int) < LP.length := by omega
      have hd := HRi.out
      rw [allOnce_drop (by rw [Hlp.out]; exact hlt), List.getElem_map] at hd
      have HD : Hid ((decide (often LP[i].x (LQ.map Po.x) = 1) && allOnce ((LP.map Po.x).drop (i + 1)) (LQ.map Po.x)) = r) := hd
      have HO0 : Hid (often LP[i].x ((LQ.map Po.x).take 0) = 0) := rfl
      clear hd HRi
      go_wp2_with fail
      clear x0 x1 xf0 xf1
      go_loopw [6, 7] (fun nv kv wr => ∃ (k n : Nat), nv = .int .i64 (n : Int) ∧ kv = .int .i64 (k : Int) ∧ k ≤ LQ.length ∧ n ≤ k ∧ Hid (often LP[i].x ((LQ.map Po.x).take k) = n) ∧ Hid (DAt wr g (.string key) (.slice ao LP.length cap)) ∧ Hid (DAt wr (g + 1) (.string key) (.slice ao' LQ.length cap')) ∧ Hid (Keep0 w wr)) (fun _ kv _ => LQ.length - (intOf kv).toNat)
      case atStart => exact ⟨0, 0, rfl, rfl, Nat.zero_le _, Nat.le_refl _, HO0, HXi, HYi, HKi⟩
      case round =>
        obtain ⟨k, n, rfl, rfl, hk2, hn, HOk, HXk, HYk, HKk⟩ := hrel
        clear HXi HYi HKi HO0
        obtain ⟨x0, x1, xf0, xf1⟩ := HXk.out.cells
        obtain ⟨y0, y1, yf0, yf1⟩ := HYk.out.cells
        by_cases hlk : k < LQ.length
        · have j4 : (k : Int) < LQ.length := by omega
          obtain ⟨b, off, eao, s1, s2⟩ := (HC.out.keep0 HKk.out).at_ i hlt
          subst eao
          obtain ⟨b', off', eao', s3, s4⟩ := (HC'.out.keep0 HKk.out).at_ k hlk
          subst eao'
          have hfi := HF.out _ (List.getElem_mem hlt)
          have hfk := HF'.out _ (List.getElem_mem hlk)
          obtain ⟨c0, c1, c2⟩ := s1
          obtain ⟨d0, d1, d2⟩ := s3
          have HS2 : Hid (EnsAt wr LP[i].vo LP[i].x.c) := s2
          have HS4 : Hid (EnsAt wr LQ[k].vo LQ[k].x.c) := s4
          have ysm := fun W (K : Keep0 wr W) => rone17 W LP[i] LQ[k] hfi hfk (HS2.out.keep0 K) (HS4.out.keep0 K)
          have ht := often_take (x := LP[i].x) (m := LQ.map Po.x) (k := k) (by rw [Hlq.out]; exact hlk)
          rw [HOk.out, List.getElem_map] at ht
          clear s2 s4 hfi hfk HS2 HS4 HOk x0 y0 xf0 xf1 yf0 yf1
          have HOt : Hid (osSame LP[i].x LQ[k].x = true → often LP[i].x ((LQ.map Po.x).take (k + 1)) = n + 1) := fun hs => by rw [hs, if_pos rfl] at ht; exact ht
          have HOf : Hid (osSame LP[i].x LQ[k].x = false → often LP[i].x ((LQ.map Po.x).take (k + 1)) = n) := fun hs => by rw [hs, if_neg (by decide), Nat.add_zero] at ht; exact ht
          clear ht
          generalize osSame LP[i].x LQ[k].x = BS at *
          generalize LP[i] = P at *
          generalize LQ[k] = Q at *
          go_wp2_with fail
          have KD : Keep0 wr wr.drew := (Keep.refl _ wr).drew
          have z0 : wr.drew.cell? ⟨g, 1, none⟩ = some (.slice (some ⟨b, off, none⟩) LP.length cap) := KD.cell x1 (fun f => f)
          have z1 : wr.drew.cell? ⟨g + 1, 1, none⟩ = some (.slice (some ⟨b', off', none⟩) LQ.length cap') := KD.cell y1 (fun f => f)
          have z2 : wr.drew.cell? ⟨b, off + i * 3, none⟩ = some (.slice P.vo P.x.c.length P.vc) := KD.cell c0 (fun f => f)
          have z3 : wr.drew.cell? ⟨b, off + i * 3 + 1, none⟩ = some (.bool P.x.d) := KD.cell c1 (fun f => f)
          have z4 : wr.drew.cell? ⟨b, off + i * 3 + 2, none⟩ = some (.string P.x.v) := KD.cell c2 (fun f => f)
          have z5 : wr.drew.cell? ⟨b', off' + k * 3, none⟩ = some (.slice Q.vo Q.x.c.length Q.vc) := KD.cell d0 (fun f => f)
          have z6 : wr.drew.cell? ⟨b', off' + k * 3 + 1, none⟩ = some (.bool Q.x.d) := KD.cell d1 (fun f => f)
          have z7 : wr.drew.cell? ⟨b', off' + k * 3 + 2, none⟩ = some (.string Q.x.v) := KD.cell d2 (fun f => f)
          refine wp_region_held_drew (S := (fun W => W.cell? ⟨g, 1, none⟩ = some (.slice (some ⟨b, off, none⟩) LP.length cap) ∧ W.cell? ⟨g + 1, 1, none⟩ = some (.slice (some ⟨b', off', none⟩) LQ.length cap') ∧ W.cell? ⟨b, off + i * 3, none⟩ = some (.slice P.vo P.x.c.length P.vc) ∧ W.cell? ⟨b, off + i * 3 + 1, none⟩ = some (.bool P.x.d) ∧ W.cell? ⟨b, off + i * 3 + 2, none⟩ = some (.string P.x.v) ∧ W.cell? ⟨b', off' + k * 3, none⟩ = some (.slice Q.vo Q.x.c.length Q.vc) ∧ W.cell? ⟨b', off' + k * 3 + 1, none⟩ = some (.bool Q.x.d) ∧ W.cell? ⟨b', off' + k * 3 + 2, none⟩ = some (.string Q.x.v))) (by kernel_rfl) ⟨z0, z1, z2, z3, z4, z5, z6, z7⟩ (fun hHeld => ?_)
          refine wpAnyH_take (i := 0) (v := ?v0v) (by simp only [List.getElem?_toArray, List.getElem?_cons_zero] <;> rfl) (by kernel_rfl) (by kernel_rfl) (by kernel_rfl) (by exact fun _ _ _ h => h) (Or.inl ⟨by rfl, ?v0y⟩) hHeld ?v0r
          case v0y => intro w hSw; (try dsimp only at hSw); go_simp <;> rfl
          simp only [Act.put, List.setIfInBounds_toArray, List.set_cons_zero, List.set_cons_succ]
          refine wpAnyH_take (i := 1) (v := ?v1v) (by simp only [List.getElem?_toArray, List.getElem?_cons_succ, List.getElem?_cons_zero] <;> rfl) (by kernel_rfl) (by kernel_rfl) (by kernel_rfl) (by exact fun _ _ _ h => h) (Or.inl ⟨by rfl, ?v1y⟩) hHeld ?v1r
          case v1y => intro w hSw; (try dsimp only at hSw); go_simp <;> rfl
          simp only [Act.put, List.setIfInBounds_toArray, List.set_cons_zero, List.set_cons_succ]
          refine wpAnyH_take (i := 2) (v := ?v2v) (by simp only [List.getElem?_toArray, List.getElem?_cons_succ, List.getElem?_cons_zero] <;> rfl) (by kernel_rfl) (by kernel_rfl) (by kernel_rfl) (by exact fun _ _ _ h => h) (Or.inl ⟨by rfl, ?v2y⟩) hHeld ?v2r
          case v2y => intro w hSw; (try dsimp only at hSw); go_simp <;> rfl
          simp only [Act.put, List.setIfInBounds_toArray, List.set_cons_zero, List.set_cons_succ]
          refine wpAnyH_take (i := 3) (v := ?v3v) (by simp only [List.getElem?_toArray, List.getElem?_cons_succ, List.getElem?_cons_zero] <;> rfl) (by kernel_rfl) (by kernel_rfl) (by kernel_rfl) (by exact fun _ _ _ h => h) (Or.inl ⟨by rfl, ?v3y⟩) hHeld ?v3r
          case v3y => intro w hSw; (try dsimp only at hSw); go_simp <;> rfl
          simp only [Act.put, List.setIfInBounds_toArray, List.set_cons_zero, List.set_cons_succ]
          refine wpAnyH_take (i := 4) (v := ?v4v) (by simp only [List.getElem?_toArray, List.getElem?_cons_succ, List.getElem?_cons_zero] <;> rfl) (by kernel_rfl) (by kernel_rfl) (by kernel_rfl) (by exact fun _ _ _ h => h) (Or.inl ⟨by rfl, ?v4y⟩) hHeld ?v4r
          case v4y => intro w hSw; (try dsimp only at hSw); go_simp <;> rfl
          simp only [Act.put, List.setIfInBounds_toArray, List.set_cons_zero, List.set_cons_succ]
          refine wpAnyH_take (i := 5) (v := ?v5v) (by simp only [List.getElem?_toArray, List.getElem?_cons_succ, List.getElem?_cons_zero] <;> rfl) (by kernel_rfl) (by kernel_rfl) (by kernel_rfl) (by exact fun _ _ _ h => h) (Or.inl ⟨by rfl, ?v5y⟩) hHeld ?v5r
          case v5y => intro w hSw; (try dsimp only at hSw); go_simp <;> rfl
          simp only [Act.put, List.setIfInBounds_toArray, List.set_cons_zero, List.set_cons_succ]
          refine wpAnyH_take (i := 6) (v := ?v6v) (by simp only [List.getElem?_toArray, List.getElem?_cons_succ, List.getElem?_cons_zero] <;> rfl) (by kernel_rfl) (by kernel_rfl) (by kernel_rfl) (by exact fun _ _ _ h => h) (Or.inl ⟨by rfl, ?v6y⟩) hHeld ?v6r
          case v6y => intro w hSw; (try dsimp only at hSw); go_simp <;> rfl
          simp only [Act.put, List.setIfInBounds_toArray, List.set_cons_zero, List.set_cons_succ]
          refine wpAnyH_take (i := 7) (v := ?v7v) (by simp only [List.getElem?_toArray, List.getElem?_cons_succ, List.getElem?_cons_zero] <;> rfl) (by kernel_rfl) (by kernel_rfl) (by kernel_rfl) (by exact fun _ _ _ h => h) (Or.inl ⟨by rfl, ?v7y⟩) hHeld ?v7r
          case v7y => intro w hSw; (try dsimp only at hSw); go_simp <;> rfl
          simp only [Act.put, List.setIfInBounds_toArray, List.set_cons_zero, List.set_cons_succ]
          refine wpAnyH_take (i := 8) (v := ?v8v) (by simp only [List.getElem?_toArray, List.getElem?_cons_succ, List.getElem?_cons_zero] <;> rfl) (by kernel_rfl) (by kernel_rfl) (by kernel_rfl) (by exact fun _ _ _ h => h) (Or.inl ⟨by rfl, ?v8y⟩) hHeld ?v8r
          case v8y => intro w hSw; (try dsimp only at hSw); go_simp <;> rfl
          simp only [Act.put, List.setIfInBounds_toArray, List.set_cons_zero, List.set_cons_succ]
          refine wpAnyH_take (i := 9) (v := ?v9v) (by simp only [List.getElem?_toArray, List.getElem?_cons_succ, List.getElem?_cons_zero] <;> rfl) (by kernel_rfl) (by kernel_rfl) (by kernel_rfl) (by exact fun _ _ _ h => h) (Or.inl ⟨by rfl, ?v9y⟩) hHeld ?v9r
          case v9y => intro w hSw; (try dsimp only at hSw); go_simp <;> rfl
          simp only [Act.put, List.setIfInBounds_toArray, List.set_cons_zero, List.set_cons_succ]
          refine wpAnyH_ready (rs := [10]) (by kernel_rfl) (by simp) ?_
          refine AllReadyH.cons (by simp only [List.getElem?_toArray, List.getElem?_cons_succ, List.getElem?_cons_zero] <;> rfl) (fun K hK => ?_) AllReadyH.nil
          go_simp
          refine (ysm _ KD).mono ?_
          rintro e W3 ⟨rfl, k3⟩
          go_wp2_with fail
          refine hK.out _ _ ⟨k3.cell z0 (fun f => f), k3.cell z1 (fun f => f), k3.cell z2 (fun f => f), k3.cell z3 (fun f => f), k3.cell z4 (fun f => f), k3.cell z5 (fun f => f), k3.cell z6 (fun f => f), k3.cell z7 (fun f => f)⟩ (fun hHeld => ?_)
          clear hK K
          refine wpAnyH_done (by kernel_rfl) ?_ _
          clear hHeld
          have K3 := KD.trans k3
          clear KD k3 ysm z0 z1 z2 z3 z4 z5 z6 z7 x1 y1 c0 c1 c2 d0 d1 d2
          have HKW : Hid (Keep0 w W3) := HKk.out.trans K3
          have HXW : Hid (DAt W3 g (.string key) (.slice (some ⟨b, off, none⟩) LP.length cap)) := HXk.out.keep0 K3
          have HYW : Hid (DAt W3 (g + 1) (.string key) (.slice (some ⟨b', off', none⟩) LQ.length cap')) := HYk.out.keep0 K3
          clear K3
          cases BS with
          | true =>
            have HO2 := HOt.out rfl
            replace HO2 : Hid (often P.x ((LQ.map Po.x).take (k + 1)) = n + 1) := HO2
            go_wp2
            go_roundw
            case rel => exact ⟨k + 1, n + 1, by go_num, by go_num, by omega, by omega, HO2, HXW, HYW, HKW⟩
            case measure => simp [intOf]; omega
          | false =>
            have HO2 := HOf.out rfl
            replace HO2 : Hid (often P.x ((LQ.map Po.x).take (k + 1)) = n) := HO2
            go_wp2
            go_roundw
            case rel => exact ⟨k + 1, n, by go_num, by go_num, by omega, by omega, HO2, HXW, HYW, HKW⟩
            case measure => simp [intOf]; omega
        · have j4 : ¬ (k : Int) < LQ.length := by omega
          have ho := HOk.out
          rw [List.take_of_length_le (by rw [Hlq.out]; omega)] at ho
          have hd := HD.out
          rw [ho] at hd
          clear HOk HD ho x0 x1 xf0 xf1
          by_cases hn1 : n = 1
          · subst hn1
            rw [decide_eq_true rfl, Bool.true_and] at hd
            have HD2 : Hid (allOnce ((LP.map Po.x).drop (i + 1)) (LQ.map Po.x) = r) := hd
            clear hd
            go_wp2
            go_roundw
            case rel => exact ⟨i + 1, by go_num, by omega, HD2, HXk, HYk, HKk⟩
            case measure => simp [intOf]; omega
          · rw [decide_eq_false hn1, Bool.false_and] at hd
            have HD2 : Hid (false = r) := hd
            have m1 : ((n : Int) != 1) = true := by simp; omega
            have m2 : ¬ (n : Int) = 1 := by omega
            clear hd hn1
            go_wp2
            go_ret
            exact ⟨by first | (rw [← HD2.out]; rfl) | rw [← HD2.out], HKk.out⟩
    · have j3 : ¬ (i : Int) < LP.length := by omega
      have hd := HRi.out
      rw [List.drop_eq_nil_of_le (by rw [Hlp.out]; omega)] at hd
      have HD : Hid (true = r) := hd
      clear hd HRi
      go_wp2
      go_ret
      exact ⟨by first | (rw [← HD.out]; rfl) | rw [← HD.out], HKi.out⟩
end Go.Proofs.YtoefibkhlhmlfaaGreat
