/-
  What this seat's claims lean on of the texts RefOld2, RefDcode2, VecB.
  Conditions: as each theorem states.
-/
import Derived.WalkKit
import Derived.ProofKit
import Derived.Below
import Derived.Deep.Draws
import Derived.Deep.RegionHeld
import Derived.Test.YtoefibkhlhmlfaaGreatChecked
import Derived.OpenShut
import Derived.ShutString
import Derived.WalkSpells
import Derived.WalkLawsBesides
import Derived.Deep.QuietTactic
import Derived.BigQuiet
import Derived.Laws.Bits64b
import Derived.PlainAid
import Derived.Lib.AppendStr
import Derived.Deep.AppendLies
import Derived.Laws.IdiomStrings
import Derived.Laws.BytesArg
import Derived.Deep.RegionWith
import Derived.Laws.AppendOwn
import Derived.Deep.DeepAppendWide
import Derived.Deep.Upon
import Derived.Maps.AppendAt
import Derived.Deep.Slices
import Derived.Test.YtoefibkhlhmlfaaGreatZ16
import Derived.Laws.Rows
import Derived.Test.YtoefibkhlhmlfaaGreatZ17
import Derived.Test.YtoefibkhlhmlfaaGreatZ11
namespace Go.Proofs.YtoefibkhlhmlfaaGreat
open Go.RowKit
def osGreat (x : Os) : Bool := vGreat x.c || decide (200 < x.v.size)
def olGreat (o : Ol) : Bool := decide (200 < o.key.size) || (decide (20 < o.l.length) || o.l.any osGreat)
theorem olGreat_no {o : Ol} (h : olGreat o = false) : o.key.size ≤ 200 ∧ o.l.length ≤ 20 ∧ ∀ x ∈ o.l, vGreat x.c = false ∧ x.v.size ≤ 200 := by
  unfold olGreat at h
  rw [Bool.or_eq_false_iff, Bool.or_eq_false_iff] at h
  have h1 := of_decide_eq_false h.1
  have h2 := of_decide_eq_false h.2.1
  refine ⟨by omega, by omega, fun x hx => ?_⟩
  have h3 := List.any_eq_false.1 h.2.2 x hx
  unfold osGreat at h3
  rw [Bool.not_eq_true, Bool.or_eq_false_iff] at h3
  have := of_decide_eq_false h3.2
  exact ⟨h3.1, by omega⟩
theorem mSt_os : ∀ (l seen : List Os), mSt osNext seen l = seen ++ l
  | [], seen => by rw [List.append_nil]; rfl
  | x :: l, seen => by
    show mSt osNext (osNext seen x) l = _
    rw [mSt_os l (osNext seen x)]
    unfold osNext
    rw [List.append_assoc]
    rfl
theorem olGo_drop {l : List Os} {k : Nat} (h : k < l.length) : mGo osOne osNext (l.take k) (l.drop k) = if osOne (l.take k) l[k] = 0 then mGo osOne osNext (l.take (k + 1)) (l.drop (k + 1)) else osOne (l.take k) l[k] := by
  have := mGo_drop (tst := osOne) (nxt := osNext) (st := []) h
  rw [mSt_os, mSt_os, List.nil_append, List.nil_append] at this
  exact this
set_option maxRecDepth 100000 in
set_option maxHeartbeats 8000000 in
theorem rgreat17 (w : World) (key : ByteArray) (hk : key.size ≤ maxLen) (ao : Option Addr) (cap : Nat) (LP : List Po) (hl : LP.length ≤ maxLen) (hf : ∀ p ∈ LP, FitsOs p.x) (hc : PosAt w ao LP) :
    Calls Tryz.prog 7 #[.agg #[.string key, .slice ao LP.length cap]] w fun e w' => e = .returned (.bool (olGreat ⟨key, LP.map Po.x⟩)) ∧ Keep0 w w' := by
  have i0 : (key.size : Int) ≤ 9223372036854775807 := by unfold maxLen at hk; omega
  have i1 : (LP.length : Int) ≤ 9223372036854775807 := by unfold maxLen at hl; omega
  have kA : Keep0 w (w.alloc (.cells #[.string key, .slice ao LP.length cap] 24)) := (Keep.refl _ w).alloc _
  have hX := DAt.new w 24 (.string key) (.slice ao LP.length cap)
  have HC : Hid (PosAt w ao LP) := hc
  have HF : Hid (∀ p ∈ LP, FitsOs p.x) := hf
  clear hc hf
  have hg : olGreat ⟨key, LP.map Po.x⟩ = (decide (200 < key.size) || (decide (20 < LP.length) || (LP.map Po.x).any osGreat)) := by
    unfold olGreat
    rw [show (⟨key, LP.map Po.x⟩ : Ol).l.length = LP.length from List.length_map ..]
  rw [hg]
  clear hg
  by_cases h1 : 200 < key.size
  · have j1 : (200 : Int) < key.size := by omega
    rw [decide_eq_true h1]
    obtain ⟨x0, x1, xf0, xf1⟩ := hX.cells
    clear h1 hX
    go_enter Tryz.func7, Tryz.ntmps7
    go_wp2
    go_ret
    exact ⟨rfl, kA⟩
  have j1 : ¬ (200 : Int) < key.size := by omega
  rw [decide_eq_false h1, Bool.false_or]
  by_cases h2 : 20 < LP.length
  · have j2 : (20 : Int) < LP.length := by omega
    rw [decide_eq_true h2]
    obtain ⟨x0, x1, xf0, xf1⟩ := hX.cells
    clear h1 h2 hX
    go_enter Tryz.func7, Tryz.ntmps7
    go_wp2
    go_ret
    exact ⟨rfl, kA⟩
  have j2 : ¬ (20 : Int) < LP.length := by omega
  rw [decide_eq_false h2, Bool.false_or]
  obtain ⟨r, hr⟩ : ∃ r, (LP.map Po.x).any osGreat = r := ⟨_, rfl⟩
  rw [hr]
  have HR : Hid (((LP.drop 0).map Po.x).any osGreat = r) := by show _ = _; rw [List.drop_zero]; exact hr
  clear hr h1 h2
  obtain ⟨x0, x1, xf0, xf1⟩ := hX.cells
  go_enter Tryz.func7, Tryz.ntmps7
  go_wp2_with fail
  generalize (w.alloc (.cells #[.string key, .slice ao LP.length cap] 24)) = W0 at *
  generalize w.heap.size = g at *
  have HX0 : Hid (DAt W0 g (.string key) (.slice ao LP.length cap)) := hX
  have HK0 : Hid (Keep0 w W0) := kA
  clear x0 x1 xf0 xf1 hX kA
  go_loopw [3] (fun i wr => ∃ (k : Nat), i = .int .i64 (k : Int) ∧ k ≤ LP.length ∧ Hid (((LP.drop k).map Po.x).any osGreat = r) ∧ Hid (DAt wr g (.string key) (.slice ao LP.length cap)) ∧ Hid (Keep0 w wr)) (fun i _ => LP.length - (intOf i).toNat)
  case atStart => exact ⟨0, rfl, Nat.zero_le _, HR, HX0, HK0⟩
  case round =>
    obtain ⟨k, rfl, hk2, HRk, HXk, HKk⟩ := hrel
    clear HR HX0 HK0
    obtain ⟨x0, x1, xf0, xf1⟩ := HXk.out.cells
    by_cases hlt : k < LP.length
    · have j3 : (k : Int) < LP.length := by omega
      obtain ⟨b, off, eao, s1, s2⟩ := (HC.out.keep0 HKk.out).at_ k hlt
      subst eao
      have hfk := HF.out _ (List.getElem_mem hlt)
      obtain ⟨c0, c1, c2⟩ := s1
      have yg := rgreat10 wr LP[k].vo LP[k].vc LP[k].x.c hfk.vec s2
      have hd := HRk.out
      rw [List.drop_eq_getElem_cons hlt, List.map_cons, List.any_cons] at hd
      have hv : (LP[k].x.v.size : Int) ≤ 9223372036854775807 := by have := hfk.val; unfold maxLen at this; omega
      unfold osGreat at hd
      clear s2 hfk HRk
      cases hg : vGreat LP[k].x.c with
      | true =>
        rw [hg, Bool.true_or, Bool.true_or] at hd
        rw [hg] at yg
        have HD : Hid (true = r) := hd
        clear hd hg
        generalize LP[k] = P at *
        go_wp2_with fail
        refine yg.mono ?_
        rintro e w1 ⟨rfl, rfl⟩
        clear yg
        go_wp2
        go_ret
        exact ⟨by first | (rw [← HD.out]; rfl) | rw [← HD.out], HKk.out⟩
      | false =>
        rw [hg, Bool.false_or] at hd
        rw [hg] at yg
        by_cases h3 : 200 < LP[k].x.v.size
        · have j4 : (200 : Int) < LP[k].x.v.size := by omega
          rw [decide_eq_true h3, Bool.true_or] at hd
          have HD : Hid (true = r) := hd
          clear hd hg h3
          generalize LP[k] = P at *
          go_wp2_with fail
          refine yg.mono ?_
          rintro e w1 ⟨rfl, rfl⟩
          clear yg
          go_wp2
          go_ret
          exact ⟨by first | (rw [← HD.out]; rfl) | rw [← HD.out], HKk.out⟩
        · have j4 : ¬ (200 : Int) < LP[k].x.v.size := by omega
          rw [decide_eq_false h3, Bool.false_or] at hd
          have HD : Hid (((LP.drop (k + 1)).map Po.x).any osGreat = r) := hd
          clear hd hg h3
          generalize LP[k] = P at *
          go_wp2_with fail
          refine yg.mono ?_
          rintro e w1 ⟨rfl, rfl⟩
          clear yg
          go_wp2
          go_roundw
          case rel => exact ⟨k + 1, by go_num, by omega, HD, HXk, HKk⟩
          case measure => simp [intOf]; omega
    · have j3 : ¬ (k : Int) < LP.length := by omega
      have hd := HRk.out
      rw [List.drop_eq_nil_of_le (by omega)] at hd
      have HD : Hid (false = r) := hd
      clear hd HRk
      go_wp2
      go_ret
      exact ⟨by first | (rw [← HD.out]; rfl) | rw [← HD.out], HKk.out⟩
set_option maxRecDepth 100000 in
set_option maxHeartbeats 8000000 in
theorem rcheck17 (w : World) (key : ByteArray) (hk : key.size ≤ maxLen) (ao : Option Addr) (cap : Nat) (LP : List Po) (hl : LP.length ≤ maxLen) (hf : ∀ p ∈ LP, FitsOs p.x) (hc : PosAt w ao LP) :
    Calls Tryz.prog 17 #[.agg #[.string key, .slice ao LP.length cap]] w fun e w' => e = .returned (.int .i64 (olCheck ⟨key, LP.map Po.x⟩)) ∧ Keep0 w w' := by
  have i0 : (key.size : Int) ≤ 9223372036854775807 := by unfold maxLen at hk; omega
  have i1 : (LP.length : Int) ≤ 9223372036854775807 := by unfold maxLen at hl; omega
  have kA : Keep0 w (w.alloc (.cells #[.string key, .slice ao LP.length cap] 24)) := (Keep.refl _ w).alloc _
  have hX := DAt.new w 24 (.string key) (.slice ao LP.length cap)
  have HC : Hid (PosAt w ao LP) := hc
  have HF : Hid (∀ p ∈ LP, FitsOs p.x) := hf
  clear hc hf
  have hg : olCheck ⟨key, LP.map Po.x⟩ = if outS key LP.length = 0 then mGo osOne osNext [] (LP.map Po.x) else outS key LP.length := by
    unfold olCheck
    rw [show (⟨key, LP.map Po.x⟩ : Ol).l.length = LP.length from List.length_map ..]
  rw [hg]
  clear hg
  by_cases h1 : 128 < key.size
  · have j1 : (128 : Int) < key.size := by omega
    rw [show outS key LP.length = 3 from if_pos h1]
    rw [if_neg (show ¬ (3 : Int) = 0 by decide)]
    obtain ⟨x0, x1, xf0, xf1⟩ := hX.cells
    clear hX h1
    go_enter Tryz.func17, Tryz.ntmps17
    go_wp2
    go_ret
    exact ⟨rfl, kA⟩
  have j1 : ¬ (128 : Int) < key.size := by omega
  by_cases h2 : key.size = 0
  · have j2 : (key.size : Int) = 0 := by omega
    rw [show outS key LP.length = 14 from (if_neg h1).trans (if_pos h2)]
    rw [if_neg (show ¬ (14 : Int) = 0 by decide)]
    obtain ⟨x0, x1, xf0, xf1⟩ := hX.cells
    clear hX h2
    go_enter Tryz.func17, Tryz.ntmps17
    go_wp2
    go_ret
    exact ⟨rfl, kA⟩
  have j2 : ((key.size : Int) == 0) = false := beq_eq_false_iff_ne.2 (by omega)
  have j2' : ¬ (key.size : Int) = 0 := by omega
  by_cases h3 : 16 < LP.length
  · have j3 : (16 : Int) < LP.length := by omega
    rw [show outS key LP.length = 3 from (if_neg h1).trans ((if_neg h2).trans (if_pos h3))]
    rw [if_neg (show ¬ (3 : Int) = 0 by decide)]
    obtain ⟨x0, x1, xf0, xf1⟩ := hX.cells
    clear hX h3
    go_enter Tryz.func17, Tryz.ntmps17
    go_wp2
    go_ret
    exact ⟨rfl, kA⟩
  have j3 : ¬ (16 : Int) < LP.length := by omega
  by_cases h4 : LP.length = 0
  · have j4 : (LP.length : Int) = 0 := by omega
    rw [show outS key LP.length = 7 from (if_neg h1).trans ((if_neg h2).trans ((if_neg h3).trans (if_pos h4)))]
    rw [if_neg (show ¬ (7 : Int) = 0 by decide)]
    obtain ⟨x0, x1, xf0, xf1⟩ := hX.cells
    clear hX h4
    go_enter Tryz.func17, Tryz.ntmps17
    go_wp2
    go_ret
    exact ⟨rfl, kA⟩
  have j4 : ((LP.length : Int) == 0) = false := beq_eq_false_iff_ne.2 (by omega)
  have j4' : ¬ (LP.length : Int) = 0 := by omega
  have ho : outS key LP.length = 0 := (if_neg h1).trans ((if_neg h2).trans ((if_neg h3).trans (if_neg h4)))
  rw [if_pos ho]
  obtain ⟨r, hr⟩ : ∃ r, mGo osOne osNext [] (LP.map Po.x) = r := ⟨_, rfl⟩
  rw [hr]
  have HR : Hid (mGo osOne osNext ((LP.map Po.x).take 0) ((LP.map Po.x).drop 0) = r) := by show _ = _; rw [List.drop_zero, List.take_zero]; exact hr
  have Hlen : Hid ((LP.map Po.x).length = LP.length) := List.length_map ..
  clear hr h1 h2 h3 h4 ho
  obtain ⟨x0, x1, xf0, xf1⟩ := hX.cells
  go_enter Tryz.func17, Tryz.ntmps17
  go_wp2_with fail
  generalize (w.alloc (.cells #[.string key, .slice ao LP.length cap] 24)) = W0 at *
  generalize w.heap.size = g at *
  have HX0 : Hid (DAt W0 g (.string key) (.slice ao LP.length cap)) := hX
  have HK0 : Hid (Keep0 w W0) := kA
  clear x0 x1 xf0 xf1 hX kA
  go_loopw [3] (fun v wr => ∃ (i : Nat), v = .int .i64 (i : Int) ∧ i ≤ LP.length ∧ Hid (mGo osOne osNext ((LP.map Po.x).take i) ((LP.map Po.x).drop i) = r) ∧ Hid (DAt wr g (.string key) (.slice ao LP.length cap)) ∧ Hid (Keep0 w wr)) (fun v _ => LP.length - (intOf v).toNat)
  case atStart => exact ⟨0, rfl, Nat.zero_le _, HR, HX0, HK0⟩
  case round =>
    obtain ⟨i, rfl, hi, HRi, HXi, HKi⟩ := hrel
    clear HR HX0 HK0
    obtain ⟨x0, x1, xf0, xf1⟩ := HXi.out.cells
    by_cases hlt : i < LP.length
    · have j5 : (i : Int) < LP.length := by omega
      obtain ⟨b, off, eao, s1, s2⟩ := (HC.out.keep0 HKi.out).at_ i hlt
      subst eao
      have hfi := HF.out _ (List.getElem_mem hlt)
      obtain ⟨c0, c1, c2⟩ := s1
      have yc := rcheck10 wr LP[i].vo LP[i].vc LP[i].x.c hfi.vec s2
      have hv : (LP[i].x.v.size : Int) ≤ 9223372036854775807 := by have := hfi.val; unfold maxLen at this; omega
      have hd := HRi.out
      rw [olGo_drop (by rw [Hlen.out]; exact hlt), List.getElem_map] at hd
      clear s2 hfi HRi
      by_cases h1 : vCheck LP[i].x.c = 0
      case neg =>
        have e1 : osOne ((LP.map Po.x).take i) LP[i].x = vCheck LP[i].x.c := by
          have : osCheck LP[i].x = vCheck LP[i].x.c := if_neg h1
          unfold osOne
          rw [this, if_neg h1]
        rw [e1, if_neg h1] at hd
        have HD : Hid (vCheck LP[i].x.c = r) := hd
        have e0 : (vCheck LP[i].x.c != 0) = true := by simpa using h1
        clear hd h1 e1
        generalize vCheck LP[i].x.c = C at *
        generalize LP[i] = P at *
        go_wp2_with fail
        refine yc.mono ?_
        rintro e w1 ⟨rfl, h1⟩
        have K1 := HKi.out.trans (keepN h1)
        clear yc h1
        go_wp2
        go_ret
        exact ⟨by first | (rw [← HD.out]; rfl) | rw [← HD.out], K1⟩
      rw [h1] at yc
      by_cases h2 : 32768 < LP[i].x.v.size
      · have e1 : osOne ((LP.map Po.x).take i) LP[i].x = 3 := by
          have : osCheck LP[i].x = 3 := by unfold osCheck; rw [if_pos h1, if_pos h2]
          unfold osOne
          rw [this, if_neg (by decide)]
        rw [e1, if_neg (by decide)] at hd
        have HD : Hid (3 = r) := hd
        have j6 : (32768 : Int) < LP[i].x.v.size := by omega
        clear hd h1 e1 h2
        generalize LP[i] = P at *
        go_wp2_with fail
        refine yc.mono ?_
        rintro e w1 ⟨rfl, h1⟩
        have k1 := keepN h1
        have K1 := HKi.out.trans k1
        replace x0 := k1.cell x0 (fun f => f)
        replace x1 := k1.cell x1 (fun f => f)
        replace c2 := k1.cell c2 (fun f => f)
        clear yc h1 k1
        go_wp2
        go_ret
        exact ⟨by first | (rw [← HD.out]; rfl) | rw [← HD.out], K1⟩
      have j6 : ¬ (32768 : Int) < LP[i].x.v.size := by omega
      have hck : osCheck LP[i].x = 0 := osCheck_zero.2 ⟨h1, by omega⟩
      have e1 : osOne ((LP.map Po.x).take i) LP[i].x = osTest ((LP.map Po.x).take i) LP[i].x := if_pos hck
      rw [e1] at hd
      have HD : Hid ((if osTest ((LP.map Po.x).take i) LP[i].x = 0 then mGo osOne osNext ((LP.map Po.x).take (i + 1)) ((LP.map Po.x).drop (i + 1)) else osTest ((LP.map Po.x).take i) LP[i].x) = r) := hd
      clear hd h1 e1 h2 hck
      obtain ⟨wo, ewo⟩ : ∃ z : World, z = wr := ⟨wr, rfl⟩
      subst ewo
      have hil : i ≤ 16 := by omega
      go_wp2_with fail
      refine yc.mono ?_
      rintro e w1 ⟨rfl, h1⟩
      have k1 := keepN h1
      have HK1 : Hid (Keep0 w w1) := HKi.out.trans k1
      have HX1 : Hid (DAt w1 g (.string key) (.slice (some ⟨b, off, none⟩) LP.length cap)) := HXi.out.keep0 k1
      replace x0 := k1.cell x0 (fun f => f)
      replace x1 := k1.cell x1 (fun f => f)
      replace c0 := k1.cell c0 (fun f => f)
      replace c2 := k1.cell c2 (fun f => f)
      clear yc h1 k1 HKi HXi c1 xf0 xf1
      go_wp2_with fail
      clear x0 x1 c0 c2
      go_loopw [5] (fun v wr => ∃ (k : Nat), v = .int .i64 (k : Int) ∧ k ≤ i ∧ Hid (∀ q (_ : q < LP.length) (_ : i < LP.length), q < k → LP[q].x.c ≠ LP[i].x.c) ∧ Hid (DAt wr g (.string key) (.slice (some ⟨b, off, none⟩) LP.length cap)) ∧ Hid (Keep0 w wr)) (fun v _ => i - (intOf v).toNat)
      case atStart => exact ⟨0, rfl, Nat.zero_le _, (fun _ _ _ h => absurd h (Nat.not_lt_zero _)), HX1, HK1⟩
      case round =>
        obtain ⟨k, rfl, hki, HQ, HXk, HKk⟩ := hrel
        clear HX1 HK1
        obtain ⟨x0, x1, xf0, xf1⟩ := HXk.out.cells
        by_cases hkl : k < i
        · have j7 : (k : Int) < i := by omega
          have j8 : (k : Int) < LP.length := by omega
          have hkL : k < LP.length := by omega
          obtain ⟨b1, o1, e1, s1, s2⟩ := (HC.out.keep0 HKk.out).at_ i hlt
          cases e1
          obtain ⟨b2, o2, e2, s3, s4⟩ := (HC.out.keep0 HKk.out).at_ k hkL
          cases e2
          obtain ⟨c0, c1, c2⟩ := s1
          obtain ⟨d0, d1, d2⟩ := s3
          have hfi := HF.out _ (List.getElem_mem hlt)
          have hfk := HF.out _ (List.getElem_mem hkL)
          have HS2 : Hid (EnsAt wr LP[i].vo LP[i].x.c) := s2
          have HS4 : Hid (EnsAt wr LP[k].vo LP[k].x.c) := s4
          have ysm := fun W (K : Keep0 wr W) => rsame10 W LP[k].vo LP[i].vo LP[k].vc LP[i].vc LP[k].x.c LP[i].x.c hfk.vec.1 hfi.vec.1 (HS4.out.keep0 K) (HS2.out.keep0 K)
          have HVt : Hid (vSame LP[k].x.c LP[i].x.c = true → 6 = r) := by
            intro hs
            have h := HD.out
            have ht : osTest ((LP.map Po.x).take i) LP[i].x = 6 := by
              refine if_pos (seenIn_iff.2 ⟨LP[k].x, ?_, vSame_iff.1 hs⟩)
              refine List.mem_iff_getElem.2 ⟨k, by rw [List.length_take, Hlen.out]; omega, ?_⟩
              rw [List.getElem_take, List.getElem_map]
            rw [ht, if_neg (by decide)] at h
            exact h
          have HVf : Hid (vSame LP[k].x.c LP[i].x.c = false → ∀ q (_ : q < LP.length) (_ : i < LP.length), q < k + 1 → LP[q].x.c ≠ LP[i].x.c) := by
            intro hs q h1 h2 h3
            by_cases e : q = k
            · subst e
              exact fun e => by rw [vSame_iff.2 e] at hs; cases hs
            · exact HQ.out q h1 h2 (by omega)
          clear s2 s4 hfi hfk HS2 HS4 c1 c2 d1 d2 xf0 xf1 x0 HQ
          generalize vSame LP[k].x.c LP[i].x.c = BS at *
          generalize LP[i] = P at *
          generalize LP[k] = Q at *
          go_wp2_with fail
          have KD : Keep0 wr wr.drew := (Keep.refl _ wr).drew
          have z0 : wr.drew.cell? ⟨g, 1, none⟩ = some (.slice (some ⟨b, off, none⟩) LP.length cap) := KD.cell x1 (fun f => f)
          have z1 : wr.drew.cell? ⟨b, off + k * 3, none⟩ = some (.slice Q.vo Q.x.c.length Q.vc) := KD.cell d0 (fun f => f)
          have z2 : wr.drew.cell? ⟨b, off + i * 3, none⟩ = some (.slice P.vo P.x.c.length P.vc) := KD.cell c0 (fun f => f)
          refine wp_region_held_drew (S := (fun W => W.cell? ⟨g, 1, none⟩ = some (.slice (some ⟨b, off, none⟩) LP.length cap) ∧ W.cell? ⟨b, off + k * 3, none⟩ = some (.slice Q.vo Q.x.c.length Q.vc) ∧ W.cell? ⟨b, off + i * 3, none⟩ = some (.slice P.vo P.x.c.length P.vc))) (by kernel_rfl) ⟨z0, z1, z2⟩ (fun hHeld => ?_)
          refine wpAnyH_take (i := 0) (v := ?c0v) (by simp only [List.getElem?_toArray, List.getElem?_cons_zero] <;> rfl) (by kernel_rfl) (by kernel_rfl) (by kernel_rfl) (by exact fun _ _ _ h => h) (Or.inl ⟨by rfl, ?c0y⟩) hHeld ?c0r
          case c0y => intro w hSw; (try dsimp only at hSw); go_simp <;> rfl
          simp only [Act.put, List.setIfInBounds_toArray, List.set_cons_zero, List.set_cons_succ]
          refine wpAnyH_take (i := 1) (v := ?c1v) (by simp only [List.getElem?_toArray, List.getElem?_cons_succ, List.getElem?_cons_zero] <;> rfl) (by kernel_rfl) (by kernel_rfl) (by kernel_rfl) (by exact fun _ _ _ h => h) (Or.inl ⟨by rfl, ?c1y⟩) hHeld ?c1r
          case c1y => intro w hSw; (try dsimp only at hSw); go_simp <;> rfl
          simp only [Act.put, List.setIfInBounds_toArray, List.set_cons_zero, List.set_cons_succ]
          refine wpAnyH_take (i := 2) (v := ?c2v) (by simp only [List.getElem?_toArray, List.getElem?_cons_succ, List.getElem?_cons_zero] <;> rfl) (by kernel_rfl) (by kernel_rfl) (by kernel_rfl) (by exact fun _ _ _ h => h) (Or.inl ⟨by rfl, ?c2y⟩) hHeld ?c2r
          case c2y => intro w hSw; (try dsimp only at hSw); go_simp <;> rfl
          simp only [Act.put, List.setIfInBounds_toArray, List.set_cons_zero, List.set_cons_succ]
          refine wpAnyH_take (i := 3) (v := ?c3v) (by simp only [List.getElem?_toArray, List.getElem?_cons_succ, List.getElem?_cons_zero] <;> rfl) (by kernel_rfl) (by kernel_rfl) (by kernel_rfl) (by exact fun _ _ _ h => h) (Or.inl ⟨by rfl, ?c3y⟩) hHeld ?c3r
          case c3y => intro w hSw; (try dsimp only at hSw); go_simp <;> rfl
          simp only [Act.put, List.setIfInBounds_toArray, List.set_cons_zero, List.set_cons_succ]
          refine wpAnyH_take (i := 4) (v := ?c4v) (by simp only [List.getElem?_toArray, List.getElem?_cons_succ, List.getElem?_cons_zero] <;> rfl) (by kernel_rfl) (by kernel_rfl) (by kernel_rfl) (by exact fun _ _ _ h => h) (Or.inl ⟨by rfl, ?c4y⟩) hHeld ?c4r
          case c4y => intro w hSw; (try dsimp only at hSw); go_simp <;> rfl
          simp only [Act.put, List.setIfInBounds_toArray, List.set_cons_zero, List.set_cons_succ]
          refine wpAnyH_take (i := 5) (v := ?c5v) (by simp only [List.getElem?_toArray, List.getElem?_cons_succ, List.getElem?_cons_zero] <;> rfl) (by kernel_rfl) (by kernel_rfl) (by kernel_rfl) (by exact fun _ _ _ h => h) (Or.inl ⟨by rfl, ?c5y⟩) hHeld ?c5r
          case c5y => intro w hSw; (try dsimp only at hSw); go_simp <;> rfl
          simp only [Act.put, List.setIfInBounds_toArray, List.set_cons_zero, List.set_cons_succ]
          refine wpAnyH_take (i := 6) (v := ?c6v) (by simp only [List.getElem?_toArray, List.getElem?_cons_succ, List.getElem?_cons_zero] <;> rfl) (by kernel_rfl) (by kernel_rfl) (by kernel_rfl) (by exact fun _ _ _ h => h) (Or.inl ⟨by rfl, ?c6y⟩) hHeld ?c6r
          case c6y => intro w hSw; (try dsimp only at hSw); go_simp <;> rfl
          simp only [Act.put, List.setIfInBounds_toArray, List.set_cons_zero, List.set_cons_succ]
          refine wpAnyH_take (i := 7) (v := ?c7v) (by simp only [List.getElem?_toArray, List.getElem?_cons_succ, List.getElem?_cons_zero] <;> rfl) (by kernel_rfl) (by kernel_rfl) (by kernel_rfl) (by exact fun _ _ _ h => h) (Or.inl ⟨by rfl, ?c7y⟩) hHeld ?c7r
          case c7y => intro w hSw; (try dsimp only at hSw); go_simp <;> rfl
          simp only [Act.put, List.setIfInBounds_toArray, List.set_cons_zero, List.set_cons_succ]
          refine wpAnyH_take (i := 8) (v := ?c8v) (by simp only [List.getElem?_toArray, List.getElem?_cons_succ, List.getElem?_cons_zero] <;> rfl) (by kernel_rfl) (by kernel_rfl) (by kernel_rfl) (by exact fun _ _ _ h => h) (Or.inl ⟨by rfl, ?c8y⟩) hHeld ?c8r
          case c8y => intro w hSw; (try dsimp only at hSw); go_simp <;> rfl
          simp only [Act.put, List.setIfInBounds_toArray, List.set_cons_zero, List.set_cons_succ]
          refine wpAnyH_take (i := 9) (v := ?c9v) (by simp only [List.getElem?_toArray, List.getElem?_cons_succ, List.getElem?_cons_zero] <;> rfl) (by kernel_rfl) (by kernel_rfl) (by kernel_rfl) (by exact fun _ _ _ h => h) (Or.inl ⟨by rfl, ?c9y⟩) hHeld ?c9r
          case c9y => intro w hSw; (try dsimp only at hSw); go_simp <;> rfl
          simp only [Act.put, List.setIfInBounds_toArray, List.set_cons_zero, List.set_cons_succ]
          refine wpAnyH_take (i := 10) (v := ?c10v) (by simp only [List.getElem?_toArray, List.getElem?_cons_succ, List.getElem?_cons_zero] <;> rfl) (by kernel_rfl) (by kernel_rfl) (by kernel_rfl) (by exact fun _ _ _ h => h) (Or.inl ⟨by rfl, ?c10y⟩) hHeld ?c10r
          case c10y => intro w hSw; (try dsimp only at hSw); go_simp <;> rfl
          simp only [Act.put, List.setIfInBounds_toArray, List.set_cons_zero, List.set_cons_succ]
          refine wpAnyH_take (i := 11) (v := ?c11v) (by simp only [List.getElem?_toArray, List.getElem?_cons_succ, List.getElem?_cons_zero] <;> rfl) (by kernel_rfl) (by kernel_rfl) (by kernel_rfl) (by exact fun _ _ _ h => h) (Or.inl ⟨by rfl, ?c11y⟩) hHeld ?c11r
          case c11y => intro w hSw; (try dsimp only at hSw); go_simp <;> rfl
          simp only [Act.put, List.setIfInBounds_toArray, List.set_cons_zero, List.set_cons_succ]
          refine wpAnyH_ready (rs := [12]) (by kernel_rfl) (by simp) ?_
          refine AllReadyH.cons (by simp only [List.getElem?_toArray, List.getElem?_cons_succ, List.getElem?_cons_zero] <;> rfl) (fun K hK => ?_) AllReadyH.nil
          go_simp
          refine (ysm _ KD).mono ?_
          rintro e W3 ⟨rfl, h3⟩
          have k3 := keepN h3
          go_wp2_with fail
          refine hK.out _ _ ⟨k3.cell z0 (fun f => f), k3.cell z1 (fun f => f), k3.cell z2 (fun f => f)⟩ (fun hHeld => ?_)
          clear hK K
          refine wpAnyH_done (by kernel_rfl) ?_ _
          clear hHeld
          have K3 := KD.trans k3
          clear KD k3 h3 ysm z0 z1 z2
          have HKW : Hid (Keep0 w W3) := HKk.out.trans K3
          have HXW : Hid (DAt W3 g (.string key) (.slice (some ⟨b, off, none⟩) LP.length cap)) := HXk.out.keep0 K3
          clear K3 x1 d0 c0
          cases BS with
          | true =>
            have HV : Hid (6 = r) := HVt.out rfl
            clear HVt HVf
            go_wp2
            go_ret
            exact ⟨by rw [← HV.out]; rfl, HKW.out⟩
          | false =>
            have HQ2 : Hid (∀ q (_ : q < LP.length) (_ : i < LP.length), q < k + 1 → LP[q].x.c ≠ LP[i].x.c) := HVf.out rfl
            clear HVt HVf
            go_wp2
            go_roundw
            case rel => exact ⟨k + 1, by go_num, by omega, HQ2, HXW, HKW⟩
            case measure => simp [intOf]; omega
        · have j7 : ¬ (k : Int) < i := by omega
          have HR2 : Hid (mGo osOne osNext ((LP.map Po.x).take (i + 1)) ((LP.map Po.x).drop (i + 1)) = r) := by
            have h := HD.out
            have ht : osTest ((LP.map Po.x).take i) LP[i].x = 0 := by
              refine osTest_zero.2 (fun y hy => ?_)
              obtain ⟨q, hq, rfl⟩ := List.mem_iff_getElem.1 hy
              have hq' : q < i := by rw [List.length_take] at hq; omega
              rw [List.getElem_take, List.getElem_map]
              exact HQ.out q (by omega) hlt (by omega)
            rw [ht, if_pos rfl] at h
            exact h
          clear HQ HD
          go_wp2
          go_roundw
          case rel => exact ⟨i + 1, by go_num, by omega, HR2, HXk, HKk⟩
          case measure => simp [intOf]; omega
    · have j5 : ¬ (i : Int) < LP.length := by omega
      have hd := HRi.out
      rw [List.drop_eq_nil_of_le (by rw [Hlen.out]; omega)] at hd
      have HD : Hid (0 = r) := hd
      clear hd HRi
      go_wp2
      go_ret
      exact ⟨by first | (rw [← HD.out]; rfl) | rw [← HD.out], HKi.out⟩
end Go.Proofs.YtoefibkhlhmlfaaGreat
namespace Go.Proofs.YtoefibkhlhmlfaaGreat
open Go.RowKit
section
variable {s : ByteArray} {a : Int}
theorem clk_rest (h : (rVec s a).2.2 = 0) : rClk s a = (if (rRest (rVec s a).1 s (rVec s a).2.1).2.2 = 0 then ((⟨(rVec s a).1, (rRest (rVec s a).1 s (rVec s a).2.1).1.1, (rRest (rVec s a).1 s (rVec s a).2.1).1.2⟩ : Ck), (rRest (rVec s a).1 s (rVec s a).2.1).2) else (zCk, (rRest (rVec s a).1 s (rVec s a).2.1).2)) := by
  show rMap (fun q : List En × (Bool × En) => (⟨q.1, q.2.1, q.2.2⟩ : Ck)) (rSeq ([], (false, zEn)) rVec rRest) s a = _
  unfold rMap
  by_cases h1 : (rRest (rVec s a).1 s (rVec s a).2.1).2.2 = 0
  · rw [rSeq_yes h h1, if_pos h1]
  · rw [rSeq_mid h h1, if_neg h1]
    rfl
theorem clk_1 (h : (rVec s a).2.2 ≠ 0) : rClk s a = (zCk, (rVec s a).2) := by
  show rMap (fun q : List En × (Bool × En) => (⟨q.1, q.2.1, q.2.2⟩ : Ck)) (rSeq ([], (false, zEn)) rVec rRest) s a = _
  unfold rMap
  rw [rSeq_no h]
  rfl
variable {V : List En} {b : Int}
theorem clk_2 (h : rVec s a = (V, b, 0)) (h1 : gErr s b 0 ≠ 0) : rClk s a = (zCk, cAt s b 0 1, gErr s b 0) := by
  have e : rRest V s b = ((false, zEn), cAt s b 0 1, gErr s b 0) := rSeq_no (A := rFlag) h1
  rw [clk_rest (by rw [h]), h]
  show (if (rRest V s b).2.2 = 0 then _ else (zCk, (rRest V s b).2)) = _
  rw [e, if_neg h1]
theorem clk_3 (h : rVec s a = (V, b, 0)) (h1 : gErr s b 0 = 0) (h2 : gSet s b 0 = false) : rClk s a = (⟨V, false, zEn⟩, cAt s b 0 1, 0) := by
  have e0 : rFlag s b = (false, cAt s b 0 1, 0) := by unfold rFlag; rw [h1, h2]
  have e : rRest V s b = ((false, zEn), cAt s b 0 1, 0) := by
    unfold rRest
    rw [rSeq_yes (by rw [e0]) (by rw [e0]; rfl), e0]
    rfl
  rw [clk_rest (by rw [h]), h]
  show (if (rRest V s b).2.2 = 0 then _ else _) = _
  rw [e]
  rfl
theorem clk_dot (h : rVec s a = (V, b, 0)) (h1 : gErr s b 0 = 0) (h2 : gSet s b 0 = true) : rClk s a = if (rDot V s (cAt s b 0 1)).2.2 = 0 then (⟨V, true, (rDot V s (cAt s b 0 1)).1⟩, (rDot V s (cAt s b 0 1)).2) else (zCk, (rDot V s (cAt s b 0 1)).2) := by
  have e0 : rFlag s b = (true, cAt s b 0 1, 0) := by unfold rFlag; rw [h1, h2]
  rw [clk_rest (by rw [h]), h]
  show (if (rRest V s b).2.2 = 0 then ((⟨V, (rRest V s b).1.1, (rRest V s b).1.2⟩ : Ck), (rRest V s b).2) else (zCk, (rRest V s b).2)) = _
  by_cases hd : (rDot V s (cAt s b 0 1)).2.2 = 0
  · have e : rRest V s b = ((true, (rDot V s (cAt s b 0 1)).1), (rDot V s (cAt s b 0 1)).2) := by
      unfold rRest
      rw [rSeq_yes (by rw [e0]) (by rw [e0]; exact hd), e0]
      rfl
    rw [e, if_pos hd]
  · have e : rRest V s b = ((false, zEn), (rDot V s (cAt s b 0 1)).2) := by
      unfold rRest
      rw [rSeq_mid (by rw [e0]) (by rw [e0]; exact hd), e0]
      rfl
    rw [e, if_neg hd, if_neg hd]
variable {c : Int}
theorem dot_bad (h : (rEnt none s c).2.2 ≠ 0) : (rDot V s c).2 = (rEnt none s c).2 := by unfold rDot; rw [rTest_no h]
theorem dot_15' (h : (rEnt none s c).2.2 = 0) (h1 : (rEnt none s c).1.n ≤ vCount V (rEnt none s c).1.a) : (rDot V s c).2 = ((rEnt none s c).2.1, 15) := by
  have e : dTest V (rEnt none s c).1 = 15 := if_pos h1
  unfold rDot
  rw [rTest_bad h (by rw [e]; decide), e]
theorem dot_yes (h : (rEnt none s c).2.2 = 0) (h1 : ¬ (rEnt none s c).1.n ≤ vCount V (rEnt none s c).1.a) : rDot V s c = rEnt none s c := by
  have e : dTest V (rEnt none s c).1 = 0 := if_neg h1
  unfold rDot
  rw [rTest_yes h e]
end
def RTakeK (r : Ck × Int × Int) (s : ByteArray) (b : Nat) (w : World) (e : Ending) (w' : World) : Prop := ∃ ao cap, e = .returned (.agg #[.slice ao r.1.c.length cap, .bool r.1.d, .string r.1.x.a, .int .u64 (r.1.x.n : Int)]) ∧ Cur w' b s r.2.1 r.2.2 ∧ EnsAt w' ao r.1.c ∧ (∀ g off m, ao = some ⟨g, off, m⟩ → w.heap.size ≤ g) ∧ Keep1 b w w'
theorem RTakeK.bare {r : Ck × Int × Int} {s : ByteArray} {b : Nat} {w w' : World} {e : Ending} {A E : Int} (hr : r = (zCk, A, E)) (h : e = .returned (.agg #[.slice none 0 0, .bool false, .string ⟨#[]⟩, .int .u64 0])) (h1 : Cur w' b s A E) (h4 : Keep1 b w w') : RTakeK r s b w e w' := by
  subst hr
  exact ⟨none, 0, h, h1, ens_nil _ _, (fun _ _ _ e => by cases e), h4⟩
theorem RTakeK.mk {r : Ck × Int × Int} {s : ByteArray} {b : Nat} {w w' : World} {e : Ending} {A E : Int} {V : List En} {d : Bool} {x : ByteArray} {n : Nat} {ao : Option Addr} {cap : Nat} (hr : r = (⟨V, d, ⟨x, n⟩⟩, A, E)) (h : e = .returned (.agg #[.slice ao V.length cap, .bool d, .string x, .int .u64 (n : Int)])) (h1 : Cur w' b s A E) (h2 : EnsAt w' ao V) (h3 : ∀ g off m, ao = some ⟨g, off, m⟩ → w.heap.size ≤ g) (h4 : Keep1 b w w') : RTakeK r s b w e w' := by
  subst hr
  exact ⟨ao, cap, h, h1, h2, h3, h4⟩
end Go.Proofs.YtoefibkhlhmlfaaGreat
namespace Go.Proofs.YtoefibkhlhmlfaaGreat
open Go.RowKit
set_option maxRecDepth 100000 in
theorem check10 (w : World) (ao : Option Addr) (cap : Nat) (l : List En) (ok : Ok10 l) (hc : EnsAt w ao l) :
    Calls Tryz.prog 95 #[.slice ao l.length cap] w fun e w' => e = .returned (.int .i64 (vCheck l)) ∧ Keep0 w w' := by
  have hl := ok.1
  have hl' : (l.length : Int) ≤ 9223372036854775807 := by omega
  by_cases h64 : 64 < l.length
  · have i0 : (64 : Int) < l.length := by omega
    have e : vCheck l = 3 := if_pos h64
    rw [e]
    go_enter Tryz.func95, Tryz.ntmps95
    go_wp2
    go_ret
    exact ⟨rfl, Keep.refl _ _⟩
  · have i0 : ¬ (64 : Int) < l.length := by omega
    have e : vCheck l = cGo (prv l 0) (l.drop 0) := if_neg h64
    obtain ⟨r, hr⟩ : ∃ r, vCheck l = r := ⟨_, rfl⟩
    rw [hr]
    rw [e] at hr
    have HR : Hid (cGo (prv l 0) (l.drop 0) = r) := hr
    have HC : Hid (EnsAt w ao l) := hc
    have HF : Hid (Ok10 l) := ok
    clear hr e hc ok h64
    go_enter Tryz.func95, Tryz.ntmps95
    go_wp2_with fail
    go_loopw [10] (fun i wr => ∃ (k : Nat), i = .int .i64 (k : Int) ∧ k ≤ l.length ∧ Hid (cGo (prv l k) (l.drop k) = r) ∧ Keep0 w wr) (fun i _ => l.length - (intOf i).toNat)
    case atStart => exact ⟨0, rfl, by omega, HR, Keep.refl _ _⟩
    case round =>
      obtain ⟨k, rfl, hk, HK, hK⟩ := hrel
      by_cases hlt : k < l.length
      · have i1 : (k : Int) < l.length := by omega
        have y := checkAt10 wr ao cap l HF.out (HC.out.keep0 hK) k hlt
        have hd := HK.out
        rw [go_drop hlt] at hd
        by_cases h0 : cOne (prv l k) l[k] = 0
        · rw [if_pos h0] at hd
          rw [h0] at y
          have HD : Hid (cGo (prv l (k + 1)) (l.drop (k + 1)) = r) := hd
          clear hd HK h0
          go_wp2_with fail
          refine y.mono ?_
          rintro e w1 ⟨rfl, k1⟩
          have K1 := hK.trans k1
          clear y k1 hK
          go_wp2
          go_roundw
          case rel => exact ⟨k + 1, by go_num, by omega, HD, K1⟩
          case measure => simp [intOf]; omega
        · rw [if_neg h0] at hd
          rw [hd] at y
          have e0 : (r != 0) = true := by rw [← hd]; simpa using h0
          have e1 : ¬ r = 0 := by rw [← hd]; exact h0
          clear hd HK h0 HR
          go_wp2_with fail
          refine y.mono ?_
          rintro e w1 ⟨rfl, k1⟩
          have K1 := hK.trans k1
          clear y k1 hK
          go_wp2
          go_ret
          exact ⟨rfl, K1⟩
      · have i1 : ¬ (k : Int) < l.length := by omega
        have hd := HK.out
        rw [List.drop_eq_nil_of_le (by omega)] at hd
        have HD : Hid ((0 : Int) = r) := hd
        clear hd HK
        go_wp2
        go_ret
        exact ⟨by rw [← HD.out]; rfl, hK⟩
set_option maxRecDepth 100000 in
theorem count10 (w : World) (ao : Option Addr) (cap : Nat) (l : List En) (ok : Ok10 l) (hc : EnsAt w ao l) (s : ByteArray) :
    Calls Tryz.prog 170 #[.slice ao l.length cap, .string s] w fun e w' => e = .returned (.int .u64 (vCount l s : Int)) ∧ Keep0 w w' := by
  have HC : Hid (EnsAt w ao l) := hc
  have hl := ok.1
  have hl' : (l.length : Int) ≤ 9223372036854775807 := by omega
  obtain ⟨r, hr⟩ : ∃ r, vCount l s = r := ⟨_, rfl⟩
  rw [hr]
  have HR : Hid (vCount (l.drop 0) s = r) := hr
  clear hc hr ok
  go_enter Tryz.func170, Tryz.ntmps170
  go_wp2_with fail
  go_loopw [9] (fun i wr => ∃ (k : Nat), i = .int .i64 (k : Int) ∧ k ≤ l.length ∧ Hid (vCount (l.drop k) s = r) ∧ Keep0 w wr) (fun i _ => l.length - (intOf i).toNat)
  case atStart => exact ⟨0, rfl, by omega, HR, Keep.refl _ _⟩
  case round =>
    obtain ⟨k, rfl, hk, HK, hK⟩ := hrel
    by_cases hlt : k < l.length
    · have i1 : (k : Int) < l.length := by omega
      obtain ⟨b, off, rfl, p0, p1⟩ := HC.out k hlt
      have x0 := hK.cell p0 (fun f => f)
      have x1 := hK.cell p1 (fun f => f)
      clear p0 p1
      have hd := HK.out
      rw [count_drop hlt] at hd
      have kA : ∀ o, Keep0 w (wr.alloc o) := fun o => hK.alloc o
      by_cases h1 : l[k].a = s
      · rw [if_pos h1] at hd
        have HD : Hid (l[k].n = r) := hd
        rw [h1] at x0
        clear hd HK h1
        generalize l[k].n = N at *
        go_wp2
        go_ret
        exact ⟨by rw [HD.out]; rfl, kA _⟩
      · rw [if_neg h1] at hd
        have HD : Hid (vCount (l.drop (k + 1)) s = r) := hd
        obtain ⟨e1, e2, e3⟩ := txt_ne h1
        clear hd HK
        generalize (l[k].n : Int) = N at *
        generalize l[k].a = A at *
        go_wp2
        go_roundw
        case rel => exact ⟨k + 1, by go_num, by omega, HD, kA _⟩
        case measure => simp [intOf]; omega
    · have i1 : ¬ (k : Int) < l.length := by omega
      have hd := HK.out
      rw [List.drop_eq_nil_of_le (by omega), count_nil] at hd
      have HD : Hid (0 = r) := hd
      clear hd HK
      go_wp2
      go_ret
      exact ⟨by rw [← HD.out]; rfl, hK⟩
end Go.Proofs.YtoefibkhlhmlfaaGreat
