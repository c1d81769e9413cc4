/-
  What this seat's claims lean on of the texts PcPen, RefVec3, QMem, RefPairs.
  Conditions: as each theorem states.
-/
import Derived.WalkKit
import Derived.ProofKit
import Derived.Below
import Derived.Deep.Draws
import Derived.Deep.RegionHeld
import Derived.Test.YtoefibkhlhmlfaaGreatChecked
import Derived.OpenShut
import Derived.ShutString
import Derived.WalkSpells
import Derived.WalkLawsBesides
import Derived.Deep.QuietTactic
import Derived.BigQuiet
import Derived.Laws.Bits64b
import Derived.PlainAid
import Derived.Lib.AppendStr
import Derived.Deep.AppendLies
import Derived.Laws.IdiomStrings
import Derived.Laws.BytesArg
import Derived.Deep.RegionWith
import Derived.Test.YtoefibkhlhmlfaaGreatZ9
import Derived.Laws.AppendOwn
import Derived.Deep.DeepAppendWide
import Derived.Deep.Upon
import Derived.Test.YtoefibkhlhmlfaaGreatZ10
import Derived.Laws.Rows
import Derived.Test.YtoefibkhlhmlfaaGreatZ8
namespace Go.Proofs.YtoefibkhlhmlfaaGreat
open Go.RowKit
theorem pPair_err {M : Int} {t : ByteArray} {x : Int} (h : x ≠ 0) (y : Pr) : pPair M (t, x) y = (t, x) := by
  unfold pPair
  rw [wPut_err h, wPut_err h]
theorem pPairs_err {M : Int} {t : ByteArray} {x : Int} (h : x ≠ 0) : ∀ l, pPairs M (t, x) l = (t, x)
  | [] => rfl
  | y :: l => by
    show pPairs M (pPair M (t, x) y) l = _
    rw [pPair_err h]
    exact pPairs_err h l
theorem pPrs_err {M : Int} {t : ByteArray} {x : Int} (h : x ≠ 0) (l : List Pr) : pPrs M (t, x) l = (t, x) := by
  by_cases h0 : qCheck l = 0
  · rw [pPrs_yes h0, pOne_err h, pPairs_err h]
  · rw [pPrs_no h0]
    show (t, pFail x (qCheck l)) = _
    unfold pFail
    rw [if_neg h]
theorem pPair_size (M : Int) (q : ByteArray × Int) {x : Pr} (h : x.n.size ≤ 32) (hv : x.v.size ≤ 32768) : (pPair M q x).1.size ≤ q.1.size + 32820 := by
  have h1 := wPut_size M 32768 (wPut M 32 q x.n) x.v (by omega)
  have h2 := wPut_size M 32 q x.n (by omega)
  unfold pPair
  omega
theorem pPairs_size (M : Int) : ∀ (l : List Pr) (q : ByteArray × Int), (∀ x ∈ l, x.n.size ≤ 32 ∧ x.v.size ≤ 32768) → (pPairs M q l).1.size ≤ q.1.size + 32820 * l.length
  | [], _, _ => by show _ ≤ _ + 32820 * 0; exact Nat.le_refl _
  | x :: l, q, h => by
    have h1 := pPair_size M q (h x List.mem_cons_self).1 (h x List.mem_cons_self).2
    have h2 := pPairs_size M l (pPair M q x) (fun y hy => h y (List.mem_cons_of_mem _ hy))
    show (pPairs M (pPair M q x) l).1.size ≤ _
    rw [List.length_cons]
    omega
end Go.Proofs.YtoefibkhlhmlfaaGreat
namespace Go.Proofs.YtoefibkhlhmlfaaGreat
open Go.RowKit
def REns (l : List En) (w : World) (e : Ending) (w' : World) : Prop := ∃ ao cap, e = .returned (.slice ao l.length cap) ∧ EnsAt w' ao l ∧ (∀ g off m, ao = some ⟨g, off, m⟩ → w.heap.size ≤ g) ∧ Keep0 w w'
theorem REns.mk {l : List En} {w w' : World} {e : Ending} {ao : Option Addr} {cap : Nat} (h : e = .returned (.slice ao l.length cap)) (h1 : EnsAt w' ao l) (h2 : ∀ g off m, ao = some ⟨g, off, m⟩ → w.heap.size ≤ g) (h3 : Keep0 w w') : REns l w e w' := ⟨ao, cap, h, h1, h2, h3⟩
end Go.Proofs.YtoefibkhlhmlfaaGreat
namespace Go.Proofs.YtoefibkhlhmlfaaGreat
open Go.RowKit
theorem retCk {fn : Func} {p : Tmp} (h : fn.results = #[.cell p 58]) (tmps : Array Value) (w : World) (g : Nat) {v0 v1 v2 v3 : Value}
    (hp : tmps.getD p undef = .pointer (some ⟨g, 0, none⟩)) (hg : QAt w g v0 v1 v2 v3) : (results fn tmps).run Tryz.prog w = .ok (.agg #[v0, v1, v2, v3]) w := by
  obtain ⟨ty, hk⟩ := hg.blk
  exact results_cell_row h tmps w g ty _ _ _ hp hk Tryz.underlying58 rfl (by kernel_rfl)
end Go.Proofs.YtoefibkhlhmlfaaGreat
namespace Go.Proofs.YtoefibkhlhmlfaaGreat
open Go.RowKit
def FitsP (l : List Pr) : Prop := l.length ≤ maxLen ∧ ∀ x ∈ l, x.n.size ≤ maxLen ∧ x.v.size ≤ maxLen
def CapP (l : List Pr) (cap : Nat) : Prop := l.length ≤ cap ∧ cap ≤ maxLen
def qSame : List Pr → List Pr → Bool
  | [], [] => true
  | x :: l, y :: m => if x.n = y.n ∧ x.v = y.v then qSame l m else false
  | _, _ => false
theorem qSame_iff : ∀ {l m : List Pr}, qSame l m = true ↔ l = m
  | [], [] => ⟨fun _ => rfl, fun _ => rfl⟩
  | [], _ :: _ => ⟨fun h => (by cases h), fun h => (by cases h)⟩
  | _ :: _, [] => ⟨fun h => (by cases h), fun h => (by cases h)⟩
  | x :: l, y :: m => by
    rw [qSame]
    by_cases h : x.n = y.n ∧ x.v = y.v
    · rw [if_pos h, qSame_iff, Pr.eq h.1 h.2]
      exact ⟨fun e => by rw [e], fun e => by cases e; rfl⟩
    · rw [if_neg h]
      exact ⟨fun e => (by cases e), fun e => absurd (by cases e; exact ⟨rfl, rfl⟩) h⟩
theorem qSame_len {l m : List Pr} (h : l.length ≠ m.length) : qSame l m = false := by
  cases hb : qSame l m with
  | false => rfl
  | true => exact absurd (by rw [qSame_iff.1 hb]) h
def big1 (x : Pr) : Bool := decide (100 < x.n.size) || decide (100 < x.v.size)
def qGreat (l : List Pr) : Bool := decide (20 < l.length) || l.any big1
theorem greatq_no {l : List Pr} (h : qGreat l = false) : l.length ≤ 20 ∧ ∀ x ∈ l, x.n.size ≤ 100 ∧ x.v.size ≤ 100 := by
  unfold qGreat at h
  rw [Bool.or_eq_false_iff] at h
  have h1 := of_decide_eq_false h.1
  refine ⟨by omega, fun x hx => ?_⟩
  have h2 : big1 x = false := by simpa using List.any_eq_false.1 h.2 x hx
  unfold big1 at h2
  rw [Bool.or_eq_false_iff] at h2
  have h3 := of_decide_eq_false h2.1
  have h4 := of_decide_eq_false h2.2
  omega
theorem greatq_drop {l : List Pr} {k : Nat} (hk : k < l.length) : (l.drop k).any big1 = (big1 l[k] || (l.drop (k + 1)).any big1) := by
  rw [List.drop_eq_getElem_cons hk, List.any_cons]
theorem big1_n {x : Pr} (h : 100 < x.n.size) : big1 x = true := by unfold big1; rw [decide_eq_true h, Bool.true_or]
theorem big1_v {x : Pr} (h : 100 < x.v.size) : big1 x = true := by unfold big1; rw [decide_eq_true h, Bool.or_true]
theorem big1_no {x : Pr} (h : ¬ 100 < x.n.size) (h2 : ¬ 100 < x.v.size) : big1 x = false := by unfold big1; rw [decide_eq_false h, decide_eq_false h2]; rfl
set_option maxRecDepth 100000 in
theorem rgreat14 (w : World) (ao : Option Addr) (cap : Nat) (l : List Pr) (hf : FitsP l) (hc : PrsAt w ao l) :
    Calls Tryz.prog 57 #[.slice ao l.length cap] w fun e w' => e = .returned (.bool (qGreat l)) ∧ w = w' := by
  have HC : Hid (PrsAt w ao l) := hc
  have HF : Hid (∀ x ∈ l, x.n.size ≤ maxLen ∧ x.v.size ≤ maxLen) := hf.2
  have hl' : (l.length : Int) ≤ 9223372036854775807 := by have := hf.1; unfold maxLen at this; omega
  clear hc hf
  obtain ⟨r, hr⟩ : ∃ r, qGreat l = r := ⟨_, rfl⟩
  rw [hr]
  unfold qGreat at hr
  by_cases h100 : l.length ≤ 20
  · have i0 : ¬ (20 : Int) < l.length := by omega
    rw [decide_eq_false (by omega), Bool.false_or] at hr
    have HR : Hid ((l.drop 0).any big1 = r) := hr
    clear hr
    go_enter Tryz.func57, Tryz.ntmps57
    go_wp2_with fail
    go_loopw [3] (fun i wr => ∃ (k : Nat), i = .int .i64 (k : Int) ∧ k ≤ l.length ∧ Hid ((l.drop k).any big1 = r) ∧ wr = w) (fun i _ => l.length - (intOf i).toNat)
    case atStart => exact ⟨0, rfl, by omega, HR, rfl⟩
    case round =>
      obtain ⟨k, rfl, hk, HK, rfl⟩ := hrel
      by_cases hlt : k < l.length
      · have i1 : (k : Int) < l.length := by omega
        obtain ⟨b, off, rfl, x0, x1⟩ := HC.out k hlt
        have hm := HF.out l[k] (List.getElem_mem hlt)
        have i2 : (l[k].n.size : Int) ≤ 9223372036854775807 := by unfold maxLen at hm; omega
        have i2v : (l[k].v.size : Int) ≤ 9223372036854775807 := by unfold maxLen at hm; omega
        have hd := HK.out
        rw [greatq_drop hlt] at hd
        by_cases h1 : 100 < l[k].n.size
        · rw [big1_n h1, Bool.true_or] at hd
          have HD : Hid (true = r) := hd
          have i3 : (100 : Int) < l[k].n.size := by omega
          clear hm h1 x1 hd HK i2v
          generalize l[k].n = A at *
          go_wp2
          go_ret
          exact ⟨by rw [← HD.out]; rfl, rfl⟩
        by_cases h2 : 100 < l[k].v.size
        · rw [big1_v h2, Bool.true_or] at hd
          have HD : Hid (true = r) := hd
          have i3 : ¬ (100 : Int) < l[k].n.size := by omega
          have i4 : (100 : Int) < l[k].v.size := by omega
          clear hm h1 h2 hd HK
          generalize l[k].n = A at *
          generalize l[k].v = B at *
          go_wp2
          go_ret
          exact ⟨by rw [← HD.out]; rfl, rfl⟩
        · rw [big1_no h1 h2, Bool.false_or] at hd
          have HD : Hid ((l.drop (k + 1)).any big1 = r) := hd
          have i3 : ¬ (100 : Int) < l[k].n.size := by omega
          have i4 : ¬ (100 : Int) < l[k].v.size := by omega
          clear hm h1 h2 hd HK
          generalize l[k].n = A at *
          generalize l[k].v = B at *
          go_wp2
          go_roundw
          case rel => exact ⟨k + 1, by go_num, by omega, HD, by first | rfl | trivial⟩
          case measure => simp [intOf]; omega
      · have i1 : ¬ (k : Int) < l.length := by omega
        have hd := HK.out
        rw [List.drop_eq_nil_of_le (by omega), List.any_nil] at hd
        have HD : Hid (false = r) := hd
        clear hd HK
        go_wp2
        go_ret
        exact ⟨by rw [← HD.out]; rfl, rfl⟩
  · have i0 : (20 : Int) < l.length := by omega
    rw [decide_eq_true (by omega), Bool.true_or] at hr
    have HD : Hid (true = r) := hr
    clear hr
    go_enter Tryz.func57, Tryz.ntmps57
    go_wp2
    go_ret
    exact ⟨by rw [← HD.out]; rfl, rfl⟩
theorem sameq_drop {l m : List Pr} {k : Nat} (hk : k < l.length) (hm : k < m.length) : qSame (l.drop k) (m.drop k) = if l[k].n = m[k].n ∧ l[k].v = m[k].v then qSame (l.drop (k + 1)) (m.drop (k + 1)) else false := by
  rw [List.drop_eq_getElem_cons hk, List.drop_eq_getElem_cons hm, qSame]
set_option maxRecDepth 100000 in
theorem rsame14 (w : World) (ao bo : Option Addr) (ca cb : Nat) (l m : List Pr) (hl : l.length ≤ maxLen) (hm : m.length ≤ maxLen) (ha : PrsAt w ao l) (hb : PrsAt w bo m) :
    Calls Tryz.prog 67 #[.slice ao l.length ca, .slice bo m.length cb] w fun e w' => e = .returned (.bool (qSame l m)) ∧ ∃ n, w' = w.drewN n := by
  have HA : Hid (PrsAt w ao l) := ha
  have HB : Hid (PrsAt w bo m) := hb
  have hl' : (l.length : Int) ≤ 9223372036854775807 := by unfold maxLen at hl; omega
  have hm' : (m.length : Int) ≤ 9223372036854775807 := by unfold maxLen at hm; omega
  clear ha hb
  by_cases he : l.length = m.length
  · obtain ⟨r, hr⟩ : ∃ r, qSame l m = r := ⟨_, rfl⟩
    rw [hr]
    have HR : Hid (qSame (l.drop 0) (m.drop 0) = r) := hr
    have HE : Hid (l.length = m.length) := he
    have i0 : ((l.length : Int) != (m.length : Int)) = false := by simp [he]
    clear hr he
    go_enter Tryz.func67, Tryz.ntmps67
    go_wp2_with fail
    go_loopw [5] (fun i wr => ∃ (k : Nat), i = .int .i64 (k : Int) ∧ k ≤ l.length ∧ Hid (qSame (l.drop k) (m.drop k) = r) ∧ ∃ n, wr = w.drewN n) (fun i _ => l.length - (intOf i).toNat)
    case atStart => exact ⟨0, rfl, by omega, HR, 0, rfl⟩
    case round =>
      obtain ⟨k, rfl, hk, HK, hWr⟩ := hrel
      have kr := keepN hWr
      have HW : Hid (∃ n, wr = w.drewN n) := hWr
      have he := HE.out
      clear hWr
      by_cases hlt : k < l.length
      · have i1 : (k : Int) < l.length := by omega
        have i2 : (k : Int) < m.length := by omega
        have hkm : k < m.length := by omega
        obtain ⟨b1, o1, rfl, p0, p1⟩ := HA.out k hlt
        obtain ⟨b2, o2, rfl, q0, q1⟩ := HB.out k hkm
        have x0 := kr.cell p0 (fun f => f)
        have x1 := kr.cell p1 (fun f => f)
        have y0 := kr.cell q0 (fun f => f)
        have y1 := kr.cell q1 (fun f => f)
        clear p0 p1 q0 q1
        have hd := HK.out
        rw [sameq_drop hlt hkm] at hd
        by_cases h1 : l[k].n = m[k].n
        · by_cases h2 : l[k].v = m[k].v
          · rw [if_pos ⟨h1, h2⟩] at hd
            have HD : Hid (qSame (l.drop (k + 1)) (m.drop (k + 1)) = r) := hd
            rw [← h1] at y0
            rw [← h2] at y1
            generalize l[k].n = A at *
            generalize l[k].v = N at *
            clear hd HK kr he h1 h2 HA HB
            go_wp2_with fail
            go_quiet (fail)
            go_wp2
            go_roundw
            case rel => exact ⟨k + 1, by go_num, by omega, HD, drewN_on HW.out _⟩
            case measure => simp [intOf]; omega
          · rw [if_neg (fun h => h2 h.2)] at hd
            have HD : Hid (false = r) := hd
            rw [← h1] at y0
            obtain ⟨e2, e3, e4⟩ := txt_ne h2
            generalize l[k].n = A at *
            generalize l[k].v = N at *
            generalize m[k].v = M at *
            clear hd HK kr he h1 HA HB
            go_wp2_with fail
            go_quiet (fail)
            go_wp2
            go_ret
            exact ⟨by rw [← HD.out]; rfl, drewN_on HW.out _⟩
        · rw [if_neg (fun h => h1 h.1)] at hd
          have HD : Hid (false = r) := hd
          obtain ⟨e2, e3, e4⟩ := txt_ne h1
          generalize l[k].n = A at *
          generalize m[k].n = A2 at *
          generalize l[k].v = N at *
          generalize m[k].v = M at *
          clear hd HK kr he HA HB
          go_wp2_with fail
          go_quiet (fail)
          go_wp2
          go_ret
          exact ⟨by rw [← HD.out]; rfl, drewN_on HW.out _⟩
      · have i1 : ¬ (k : Int) < l.length := by omega
        have hd := HK.out
        rw [List.drop_eq_nil_of_le (by omega), List.drop_eq_nil_of_le (by omega)] at hd
        have HD : Hid (true = r) := hd
        clear hd HK kr he
        go_wp2
        go_ret
        exact ⟨by rw [← HD.out]; rfl, HW.out⟩
  · rw [qSame_len he]
    have i0 : ((l.length : Int) != (m.length : Int)) = true := by simp; omega
    go_enter Tryz.func67, Tryz.ntmps67
    go_wp2
    go_ret
    exact ⟨rfl, 0, rfl⟩
def prq (l : List Pr) : Nat → Option ByteArray
  | 0 => none
  | k + 1 => (l[k]?).map (·.n)
theorem prq_succ {l : List Pr} {k : Nat} (h : k < l.length) : prq l (k + 1) = some l[k].n := by
  show (l[k]?).map (·.n) = _
  rw [List.getElem?_eq_getElem h]
  rfl
theorem goq_drop {l : List Pr} {k : Nat} (hk : k < l.length) : qGo (prq l k) (l.drop k) = if qOne (prq l k) l[k] = 0 then qGo (prq l (k + 1)) (l.drop (k + 1)) else qOne (prq l k) l[k] := by
  rw [List.drop_eq_getElem_cons hk, qGo, prq_succ hk]
theorem qOne_a {p : Option ByteArray} {x : Pr} (h : 32 < x.n.size) : qOne p x = 3 := if_pos h
theorem qOne_b {p : Option ByteArray} {x : Pr} (h : x.n.size = 0) : qOne p x = 14 := by unfold qOne; rw [if_neg (by omega), if_pos h]
theorem qOne_c {p : Option ByteArray} {x : Pr} (h1 : ¬ 32 < x.n.size) (h2 : x.n.size ≠ 0) (h3 : falls p x.n = true) : qOne p x = 6 := by unfold qOne; rw [if_neg h1, if_neg h2, if_pos h3]
theorem qOne_d {p : Option ByteArray} {x : Pr} (h1 : ¬ 32 < x.n.size) (h2 : x.n.size ≠ 0) (h3 : falls p x.n = false) (h4 : 32768 < x.v.size) : qOne p x = 3 := by unfold qOne; rw [if_neg h1, if_neg h2, h3, if_neg (by decide), if_pos h4]
theorem qOne_e {p : Option ByteArray} {x : Pr} (h1 : ¬ 32 < x.n.size) (h2 : x.n.size ≠ 0) (h3 : falls p x.n = false) (h4 : ¬ 32768 < x.v.size) : qOne p x = 0 := by unfold qOne; rw [if_neg h1, if_neg h2, h3, if_neg (by decide), if_neg h4]
set_option maxRecDepth 100000 in
set_option maxHeartbeats 4000000 in
theorem rcheck14 (w : World) (ao : Option Addr) (cap : Nat) (l : List Pr) (hf : FitsP l) (hc : PrsAt w ao l) :
    Calls Tryz.prog 83 #[.slice ao l.length cap] w fun e w' => e = .returned (.int .i64 (qCheck l)) ∧ ∃ n, w' = w.drewN n := by
  have HC : Hid (PrsAt w ao l) := hc
  have HF : Hid (∀ x ∈ l, x.n.size ≤ maxLen ∧ x.v.size ≤ maxLen) := hf.2
  have hl' : (l.length : Int) ≤ 9223372036854775807 := by have := hf.1; unfold maxLen at this; omega
  clear hc hf
  by_cases h8 : 8 < l.length
  · have i0 : (8 : Int) < l.length := by omega
    have e : qCheck l = 3 := if_pos h8
    rw [e]
    go_enter Tryz.func83, Tryz.ntmps83
    go_wp2
    go_ret
    exact ⟨rfl, 0, rfl⟩
  · have i0 : ¬ (8 : Int) < l.length := by omega
    have e : qCheck l = qGo (prq l 0) (l.drop 0) := if_neg h8
    obtain ⟨r, hr⟩ : ∃ r, qCheck l = r := ⟨_, rfl⟩
    rw [hr]
    rw [e] at hr
    have HR : Hid (qGo (prq l 0) (l.drop 0) = r) := hr
    clear hr e
    go_enter Tryz.func83, Tryz.ntmps83
    go_wp2_with fail
    go_loopw [3] (fun i wr => ∃ (k : Nat), i = .int .i64 (k : Int) ∧ k ≤ l.length ∧ Hid (qGo (prq l k) (l.drop k) = r) ∧ ∃ n, wr = w.drewN n) (fun i _ => l.length - (intOf i).toNat)
    case atStart => exact ⟨0, rfl, by omega, HR, 0, rfl⟩
    case round =>
      obtain ⟨k, rfl, hk, HK, hWr⟩ := hrel
      have kr := keepN hWr
      have HW : Hid (∃ n, wr = w.drewN n) := hWr
      clear hWr
      by_cases hlt : k < l.length
      · have i1 : (k : Int) < l.length := by omega
        obtain ⟨b, off, rfl, p0, p1⟩ := HC.out k hlt
        have x0 := kr.cell p0 (fun f => f)
        have x1 := kr.cell p1 (fun f => f)
        clear p0 p1
        have hm := (HF.out l[k] (List.getElem_mem hlt)).1
        have i2v : (l[k].v.size : Int) ≤ 9223372036854775807 := by have := (HF.out l[k] (List.getElem_mem hlt)).2; unfold maxLen at this; omega
        have i2 : (l[k].n.size : Int) ≤ 9223372036854775807 := by unfold maxLen at hm; omega
        have hd := HK.out
        rw [goq_drop hlt] at hd
        by_cases h1 : 32 < l[k].n.size
        · rw [qOne_a h1, if_neg (by decide)] at hd
          have HD : Hid ((3 : Int) = r) := hd
          have i3 : (32 : Int) < l[k].n.size := by omega
          clear hd HK kr hm h1 x1 i2v
          generalize l[k].n = A at *
          go_wp2
          go_ret
          exact ⟨by rw [← HD.out]; rfl, HW.out⟩
        by_cases h2 : l[k].n.size = 0
        · rw [qOne_b h2, if_neg (by decide)] at hd
          have HD : Hid ((14 : Int) = r) := hd
          have i3 : ¬ (32 : Int) < l[k].n.size := by omega
          have i4 : (l[k].n.size : Int) = 0 := by omega
          clear hd HK kr hm h1 x1 i2v
          generalize l[k].n = A at *
          go_wp2
          go_ret
          exact ⟨by rw [← HD.out]; rfl, HW.out⟩
        have i3 : ¬ (32 : Int) < l[k].n.size := by omega
        have i4 : ((l[k].n.size : Int) == 0) = false := beq_eq_false_iff_ne.2 (by omega)
        have i5 : ¬ (l[k].n.size : Int) = 0 := by omega
        cases k with
        | zero =>
          have hp : falls (prq l 0) l[0].n = false := rfl
          have v0 : wr.cell? ⟨b, off, none⟩ = some (.string l[0].n) := x0
          have v1 : wr.cell? ⟨b, off + 1, none⟩ = some (.string l[0].v) := x1
          clear x0 x1
          have HZ : Hid (qGo (prq l 1) (l.drop 1) = r ∨ (32768 < l[0].v.size ∧ (3 : Int) = r)) := by
            by_cases h4 : 32768 < l[0].v.size
            · rw [qOne_d h1 h2 hp h4, if_neg (by decide)] at hd
              exact Or.inr ⟨h4, hd⟩
            · rw [qOne_e h1 h2 hp h4, if_pos rfl] at hd
              exact Or.inl hd
          have HN : Hid (¬ 32768 < l[0].v.size → qGo (prq l 1) (l.drop 1) = r) := fun h => HZ.out.elim (fun e => e) (fun e => absurd e.1 h)
          have HN' : Hid (32768 < l[0].v.size → (3 : Int) = r) := by
            intro h4
            rw [qOne_d h1 h2 hp h4, if_neg (by decide)] at hd
            exact hd
          clear hd HK kr hm h1 h2 hp HZ HC HF HR
          by_cases h4 : 32768 < l[0].v.size
          · have HD : Hid ((3 : Int) = r) := HN'.out h4
            have i6 : (32768 : Int) < l[0].v.size := by omega
            clear HN HN' h4
            generalize l[0].n = A at *
            go_wp2_with fail
            go_quiet (fail)
            go_wp2
            go_ret
            exact ⟨by rw [← HD.out]; rfl, drewN_on HW.out _⟩
          · have i6 : ¬ (32768 : Int) < l[0].v.size := by omega
            have i7 : (l[0].v.size : Int) ≤ 9223372036854775807 := by omega
            have HD : Hid (qGo (prq l 1) (l.drop 1) = r) := HN.out h4
            clear HN HN' h4
            generalize l[0].n = A at *
            generalize l[0].v = N at *
            go_wp2_with fail
            go_quiet (fail)
            go_wp2
            go_roundw
            case rel => exact ⟨1, by go_num, by omega, HD, drewN_on HW.out _⟩
            case measure => simp [intOf]; omega
        | succ j =>
          have hj : j < l.length := by omega
          obtain ⟨b', off', e', p0, _⟩ := HC.out j hj
          cases e'
          have y0 := kr.cell p0 (fun f => f)
          clear p0
          have hmj := (HF.out l[j] (List.getElem_mem hj)).1
          have HQ : Hid (∀ n, Calls Tryz.prog 50 #[.string l[j].n, .string l[j + 1].n] (wr.drewN n) fun e w' => e = .returned (.bool (bl l[j].n l[j + 1].n)) ∧ ∃ m, w' = wr.drewN m) := fun n => rbelow_q wr n l[j].n l[j + 1].n hmj hm
          have hp : falls (prq l (j + 1)) l[j + 1].n = !bl l[j].n l[j + 1].n := by rw [prq_succ hj, falls_some]
          obtain ⟨q, hq⟩ : ∃ q : Nat, j + 1 = q := ⟨_, rfl⟩
          have i6 : (q : Int) - 1 = (j : Int) := by omega
          have i7 : IntKind.i64.wrap (j : Int) = (j : Int) := by rw [IntKind.wrap_i64]; omega
          have i8 : decide (0 < q) = true := decide_eq_true (by omega)
          have i8' : 0 < q := by omega
          have i9 : (j : Int) < l.length := by omega
          cases hB : bl l[j].n l[j + 1].n with
          | false =>
            rw [hB] at hp HQ
            rw [qOne_c h1 h2 hp, if_neg (by decide)] at hd
            have HD : Hid ((6 : Int) = r) := hd
            clear hd HK kr hm h1 h2 hp HC HF HR hB hmj x1 i2v
            subst hq
            have yq := HQ.out
            clear HQ
            generalize l[j + 1].n = A at *
            generalize l[j].n = A' at *
            generalize hq : j + 1 = q at *
            go_wp2_with fail
            go_quiet ((go_at_call 50; exact yq _))
            go_wp2
            go_ret
            exact ⟨by rw [← HD.out]; rfl, drewN_on HW.out _⟩
          | true =>
            rw [hB] at hp HQ
            have HN : Hid (¬ 32768 < l[j + 1].v.size → qGo (prq l (j + 2)) (l.drop (j + 2)) = r) := by
              intro h4
              rw [qOne_e h1 h2 hp h4, if_pos rfl] at hd
              exact hd
            have HN' : Hid (32768 < l[j + 1].v.size → (3 : Int) = r) := by
              intro h4
              rw [qOne_d h1 h2 hp h4, if_neg (by decide)] at hd
              exact hd
            have yq := HQ.out
            clear hd HK kr hm h1 h2 hp HC HF HR hB hmj HQ
            subst hq
            by_cases h4 : 32768 < l[j + 1].v.size
            · have HD : Hid ((3 : Int) = r) := HN'.out h4
              have i10 : (32768 : Int) < l[j + 1].v.size := by omega
              clear HN HN' h4
              generalize l[j + 1].n = A at *
              generalize l[j].n = A' at *
              generalize hq : j + 1 = q at *
              go_wp2_with fail
              go_quiet ((go_at_call 50; exact yq _))
              go_wp2
              go_ret
              exact ⟨by rw [← HD.out]; rfl, drewN_on HW.out _⟩
            · have i10 : ¬ (32768 : Int) < l[j + 1].v.size := by omega
              have i11 : (l[j + 1].v.size : Int) ≤ 9223372036854775807 := by omega
              have HD : Hid (qGo (prq l (j + 2)) (l.drop (j + 2)) = r) := HN.out h4
              clear HN HN' h4
              generalize l[j + 1].n = A at *
              generalize l[j].n = A' at *
              generalize l[j + 1].v = N at *
              have HQ2 : Hid (qGo (prq l (j + 1 + 1)) (l.drop (j + 1 + 1)) = r) := HD
              clear HD
              generalize hq : j + 1 = q at *
              go_wp2_with fail
              go_quiet ((go_at_call 50; exact yq _))
              go_wp2
              go_roundw
              case rel => exact ⟨q + 1, by go_num, by omega, HQ2, drewN_on HW.out _⟩
              case measure => simp [intOf]; omega
      · have i1 : ¬ (k : Int) < l.length := by omega
        have hd := HK.out
        rw [List.drop_eq_nil_of_le (by omega), qGo] at hd
        have HD : Hid ((0 : Int) = r) := hd
        clear hd HK kr
        go_wp2
        go_ret
        exact ⟨by rw [← HD.out]; rfl, HW.out⟩
end Go.Proofs.YtoefibkhlhmlfaaGreat
