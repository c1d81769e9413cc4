/-
  What this seat's claims lean on of the texts RefVec, QBlk.
  Conditions: as each theorem states.
-/
import Derived.WalkKit
import Derived.ProofKit
import Derived.Below
import Derived.Deep.Draws
import Derived.Deep.RegionHeld
import Derived.Test.YtmllchembkpdkaaChecked
import Derived.OpenShut
import Derived.ShutString
import Derived.WalkSpells
import Derived.WalkLawsBesides
import Derived.Deep.QuietTactic
import Derived.BigQuiet
import Derived.Laws.Bits64b
import Derived.PlainAid
import Derived.Lib.AppendStr
import Derived.Deep.AppendLies
import Derived.Laws.IdiomStrings
import Derived.Laws.BytesArg
import Derived.Deep.RegionWith
import Derived.Laws.AppendOwn
import Derived.Deep.DeepAppendWide
import Derived.Deep.Upon
import Derived.Test.YtmllchembkpdkaaZ11
import Derived.Test.YtmllchembkpdkaaZ5
import Derived.Laws.Rows
namespace Go.Proofs.Ytmllchembkpdkaa
open Go.RowKit
def Fits (l : List En) : Prop := l.length ≤ maxLen ∧ ∀ x ∈ l, x.a.size ≤ maxLen ∧ x.n < 18446744073709551616
def vSame : List En → List En → Bool
  | [], [] => true
  | x :: l, y :: m => if x.a = y.a ∧ x.n = y.n then vSame l m else false
  | _, _ => false
theorem vSame_iff : ∀ {l m : List En}, vSame l m = true ↔ l = m
  | [], [] => ⟨fun _ => rfl, fun _ => rfl⟩
  | [], _ :: _ => ⟨fun h => (by cases h), fun h => (by cases h)⟩
  | _ :: _, [] => ⟨fun h => (by cases h), fun h => (by cases h)⟩
  | x :: l, y :: m => by
    rw [vSame]
    by_cases h : x.a = y.a ∧ x.n = y.n
    · rw [if_pos h, vSame_iff, En.eq h.1 h.2]
      exact ⟨fun e => by rw [e], fun e => by cases e; rfl⟩
    · rw [if_neg h]
      exact ⟨fun e => (by cases e), fun e => absurd (by cases e; exact ⟨rfl, rfl⟩) h⟩
theorem vSame_len {l m : List En} (h : l.length ≠ m.length) : vSame l m = false := by
  cases hb : vSame l m with
  | false => rfl
  | true => exact absurd (by rw [vSame_iff.1 hb]) h
theorem txt_ne {a b : ByteArray} (h : a ≠ b) : (a.toList == b.toList) = false ∧ (a.data.toList == b.data.toList) = false ∧ ¬ a = b := by
  have e : a.data.toList ≠ b.data.toList := fun e => h (ByteArray.ext (Array.toList_inj.1 e))
  refine ⟨?_, beq_eq_false_iff_ne.2 e, h⟩
  rw [ByteArray.toList_eq, ByteArray.toList_eq]
  exact beq_eq_false_iff_ne.2 e
def vGreat (l : List En) : Bool := decide (100 < l.length) || l.any (fun x => decide (100 < x.a.size))
theorem great_no {l : List En} (h : vGreat l = false) : l.length ≤ 100 ∧ ∀ x ∈ l, x.a.size ≤ 100 := by
  unfold vGreat at h
  rw [Bool.or_eq_false_iff] at h
  have h1 := of_decide_eq_false h.1
  refine ⟨by omega, fun x hx => ?_⟩
  have h2 := List.any_eq_false.1 h.2 x hx
  have h3 : ¬ 100 < x.a.size := fun e => h2 (decide_eq_true e)
  omega
theorem great_drop {l : List En} {k : Nat} (hk : k < l.length) : (l.drop k).any (fun x => decide (100 < x.a.size)) = (decide (100 < l[k].a.size) || (l.drop (k + 1)).any (fun x => decide (100 < x.a.size))) := by
  rw [List.drop_eq_getElem_cons hk, List.any_cons]
set_option maxRecDepth 100000 in
theorem rgreat10 (w : World) (ao : Option Addr) (cap : Nat) (l : List En) (hf : Fits l) (hc : EnsAt w ao l) :
    Calls Try.prog 19 #[.slice ao l.length cap] w fun e w' => e = .returned (.bool (vGreat l)) ∧ w = w' := by
  have HC : Hid (EnsAt w ao l) := hc
  have HF : Hid (∀ x ∈ l, x.a.size ≤ maxLen ∧ x.n < 18446744073709551616) := hf.2
  have hl' : (l.length : Int) ≤ 9223372036854775807 := by have := hf.1; unfold maxLen at this; omega
  clear hc hf
  obtain ⟨r, hr⟩ : ∃ r, vGreat l = r := ⟨_, rfl⟩
  rw [hr]
  unfold vGreat at hr
  by_cases h100 : l.length ≤ 100
  · have i0 : ¬ (100 : Int) < l.length := by omega
    rw [decide_eq_false (by omega), Bool.false_or] at hr
    have HR : Hid ((l.drop 0).any (fun x => decide (100 < x.a.size)) = r) := hr
    clear hr
    go_enter Try.func19, Try.ntmps19
    go_wp2_with fail
    go_loopw [3] (fun i wr => ∃ (k : Nat), i = .int .i64 (k : Int) ∧ k ≤ l.length ∧ Hid ((l.drop k).any (fun x => decide (100 < x.a.size)) = r) ∧ wr = w) (fun i _ => l.length - (intOf i).toNat)
    case atStart => exact ⟨0, rfl, by omega, HR, rfl⟩
    case round =>
      obtain ⟨k, rfl, hk, HK, rfl⟩ := hrel
      by_cases hlt : k < l.length
      · have i1 : (k : Int) < l.length := by omega
        obtain ⟨b, off, rfl, x0, x1⟩ := HC.out k hlt
        have hm := (HF.out l[k] (List.getElem_mem hlt)).1
        have i2 : (l[k].a.size : Int) ≤ 9223372036854775807 := by unfold maxLen at hm; omega
        have hd := HK.out
        rw [great_drop hlt] at hd
        by_cases h1 : l[k].a.size ≤ 100
        · rw [decide_eq_false (by omega), Bool.false_or] at hd
          have HD : Hid ((l.drop (k + 1)).any (fun x => decide (100 < x.a.size)) = r) := hd
          have i3 : ¬ (100 : Int) < l[k].a.size := by omega
          clear hm h1 x1 hd HK
          generalize l[k].a = A at *
          go_wp2
          go_roundw
          case rel => exact ⟨k + 1, by go_num, by omega, HD, by first | rfl | trivial⟩
          case measure => simp [intOf]; omega
        · rw [decide_eq_true (by omega), Bool.true_or] at hd
          have HD : Hid (true = r) := hd
          have i3 : (100 : Int) < l[k].a.size := by omega
          clear hm h1 x1 hd HK
          generalize l[k].a = A at *
          go_wp2
          go_ret
          exact ⟨by rw [← HD.out]; rfl, rfl⟩
      · have i1 : ¬ (k : Int) < l.length := by omega
        have hd := HK.out
        rw [List.drop_eq_nil_of_le (by omega), List.any_nil] at hd
        have HD : Hid (false = r) := hd
        clear hd HK
        go_wp2
        go_ret
        exact ⟨by rw [← HD.out]; rfl, rfl⟩
  · have i0 : (100 : Int) < l.length := by omega
    rw [decide_eq_true (by omega), Bool.true_or] at hr
    have HD : Hid (true = r) := hr
    clear hr
    go_enter Try.func19, Try.ntmps19
    go_wp2
    go_ret
    exact ⟨by rw [← HD.out]; rfl, rfl⟩
theorem same_drop {l m : List En} {k : Nat} (hk : k < l.length) (hm : k < m.length) : vSame (l.drop k) (m.drop k) = if l[k].a = m[k].a ∧ l[k].n = m[k].n then vSame (l.drop (k + 1)) (m.drop (k + 1)) else false := by
  rw [List.drop_eq_getElem_cons hk, List.drop_eq_getElem_cons hm, vSame]
set_option maxRecDepth 100000 in
theorem rsame10 (w : World) (ao bo : Option Addr) (ca cb : Nat) (l m : List En) (hl : l.length ≤ maxLen) (hm : m.length ≤ maxLen) (ha : EnsAt w ao l) (hb : EnsAt w bo m) :
    Calls Try.prog 35 #[.slice ao l.length ca, .slice bo m.length cb] w fun e w' => e = .returned (.bool (vSame l m)) ∧ ∃ n, w' = w.drewN n := by
  have HA : Hid (EnsAt w ao l) := ha
  have HB : Hid (EnsAt w bo m) := hb
  have hl' : (l.length : Int) ≤ 9223372036854775807 := by unfold maxLen at hl; omega
  have hm' : (m.length : Int) ≤ 9223372036854775807 := by unfold maxLen at hm; omega
  clear ha hb
  by_cases he : l.length = m.length
  · obtain ⟨r, hr⟩ : ∃ r, vSame l m = r := ⟨_, rfl⟩
    rw [hr]
    have HR : Hid (vSame (l.drop 0) (m.drop 0) = r) := hr
    have HE : Hid (l.length = m.length) := he
    have i0 : ((l.length : Int) != (m.length : Int)) = false := by simp [he]
    clear hr he
    go_enter Try.func35, Try.ntmps35
    go_wp2_with fail
    go_loopw [5] (fun i wr => ∃ (k : Nat), i = .int .i64 (k : Int) ∧ k ≤ l.length ∧ Hid (vSame (l.drop k) (m.drop k) = r) ∧ ∃ n, wr = w.drewN n) (fun i _ => l.length - (intOf i).toNat)
    case atStart => exact ⟨0, rfl, by omega, HR, 0, rfl⟩
    case round =>
      obtain ⟨k, rfl, hk, HK, hWr⟩ := hrel
      have kr := keepN hWr
      have HW : Hid (∃ n, wr = w.drewN n) := hWr
      have he := HE.out
      clear hWr
      by_cases hlt : k < l.length
      · have i1 : (k : Int) < l.length := by omega
        have i2 : (k : Int) < m.length := by omega
        have hkm : k < m.length := by omega
        obtain ⟨b1, o1, rfl, p0, p1⟩ := HA.out k hlt
        obtain ⟨b2, o2, rfl, q0, q1⟩ := HB.out k hkm
        have x0 := kr.cell p0 (fun f => f)
        have x1 := kr.cell p1 (fun f => f)
        have y0 := kr.cell q0 (fun f => f)
        have y1 := kr.cell q1 (fun f => f)
        clear p0 p1 q0 q1
        have hd := HK.out
        rw [same_drop hlt hkm] at hd
        by_cases h1 : l[k].a = m[k].a
        · by_cases h2 : l[k].n = m[k].n
          · rw [if_pos ⟨h1, h2⟩] at hd
            have HD : Hid (vSame (l.drop (k + 1)) (m.drop (k + 1)) = r) := hd
            rw [← h1] at y0
            rw [← h2] at y1
            generalize l[k].a = A at *
            generalize l[k].n = N at *
            clear hd HK kr he h1 h2 HA HB
            go_wp2_with fail
            go_quiet (fail)
            go_wp2
            go_roundw
            case rel => exact ⟨k + 1, by go_num, by omega, HD, drewN_on HW.out _⟩
            case measure => simp [intOf]; omega
          · rw [if_neg (fun h => h2 h.2)] at hd
            have HD : Hid (false = r) := hd
            rw [← h1] at y0
            have e2 : ((l[k].n : Int) == (m[k].n : Int)) = false := by simp; omega
            have e3 : ¬ ((l[k].n : Int) = (m[k].n : Int)) := by omega
            generalize l[k].a = A at *
            generalize (l[k].n : Int) = N at *
            generalize (m[k].n : Int) = M at *
            clear hd HK kr he h1 h2 HA HB
            go_wp2_with fail
            go_quiet (fail)
            go_wp2
            go_ret
            exact ⟨by rw [← HD.out]; rfl, drewN_on HW.out _⟩
        · rw [if_neg (fun h => h1 h.1)] at hd
          have HD : Hid (false = r) := hd
          obtain ⟨e2, e3, e4⟩ := txt_ne h1
          generalize l[k].a = A at *
          generalize m[k].a = A2 at *
          generalize (l[k].n : Int) = N at *
          generalize (m[k].n : Int) = M at *
          clear hd HK kr he HA HB
          go_wp2_with fail
          go_quiet (fail)
          go_wp2
          go_ret
          exact ⟨by rw [← HD.out]; rfl, drewN_on HW.out _⟩
      · have i1 : ¬ (k : Int) < l.length := by omega
        have hd := HK.out
        rw [List.drop_eq_nil_of_le (by omega), List.drop_eq_nil_of_le (by omega)] at hd
        have HD : Hid (true = r) := hd
        clear hd HK kr he
        go_wp2
        go_ret
        exact ⟨by rw [← HD.out]; rfl, HW.out⟩
  · rw [vSame_len he]
    have i0 : ((l.length : Int) != (m.length : Int)) = true := by simp; omega
    go_enter Try.func35, Try.ntmps35
    go_wp2
    go_ret
    exact ⟨rfl, 0, rfl⟩
end Go.Proofs.Ytmllchembkpdkaa
namespace Go.Proofs.Ytmllchembkpdkaa
open Go.RowKit
structure QAt (w : World) (g : Nat) (v0 v1 v2 v3 : Value) : Prop where
  blk : ∃ ty, w.heap[g]? = some (.cells #[v0, v1, v2, v3] ty)
section
variable {w : World} {g : Nat} {v0 v1 v2 v3 : Value}
theorem QAt.lt (h : QAt w g v0 v1 v2 v3) : g < w.heap.size := by
  obtain ⟨ty, hk⟩ := h.blk
  exact (Array.getElem?_eq_some_iff.mp hk).1
theorem QAt.cells (h : QAt w g v0 v1 v2 v3) : w.cell? ⟨g, 0, none⟩ = some v0 ∧ w.cell? ⟨g, 1, none⟩ = some v1 ∧ w.cell? ⟨g, 2, none⟩ = some v2 ∧ w.cell? ⟨g, 3, none⟩ = some v3 ∧ w.frozen? ⟨g, 0, none⟩ = false ∧ w.frozen? ⟨g, 1, none⟩ = false ∧ w.frozen? ⟨g, 2, none⟩ = false ∧ w.frozen? ⟨g, 3, none⟩ = false := by
  obtain ⟨ty, hk⟩ := h.blk
  simp [World.cell?, World.frozen?, hk]
theorem QAt.keep {R : Nat → Prop} {w' : World} (h : QAt w g v0 v1 v2 v3) (K : Keep R w w') (hn : ¬ R g) : QAt w' g v0 v1 v2 v3 := by
  obtain ⟨ty, hk⟩ := h.blk
  exact ⟨ty, by rw [K.block g h.lt hn]; exact hk⟩
theorem QAt.keep0 {w' : World} (h : QAt w g v0 v1 v2 v3) (K : Keep0 w w') : QAt w' g v0 v1 v2 v3 := h.keep K (fun f => f)
theorem QAt.new (w : World) (ty : TypeId) (v0 v1 v2 v3 : Value) : QAt (w.alloc (.cells #[v0, v1, v2, v3] ty)) w.heap.size v0 v1 v2 v3 := ⟨ty, (MapKept.heap_alloc w _).1⟩
theorem QAt.set0 (h : QAt w g v0 v1 v2 v3) (u : Value) : QAt (w.setCell ⟨g, 0, none⟩ u) g u v1 v2 v3 := by
  obtain ⟨ty, hk⟩ := h.blk
  exact ⟨ty, by rw [heap_setCell_at hk]; rfl⟩
theorem QAt.set1 (h : QAt w g v0 v1 v2 v3) (u : Value) : QAt (w.setCell ⟨g, 1, none⟩ u) g v0 u v2 v3 := by
  obtain ⟨ty, hk⟩ := h.blk
  exact ⟨ty, by rw [heap_setCell_at hk]; rfl⟩
theorem QAt.set2 (h : QAt w g v0 v1 v2 v3) (u : Value) : QAt (w.setCell ⟨g, 2, none⟩ u) g v0 v1 u v3 := by
  obtain ⟨ty, hk⟩ := h.blk
  exact ⟨ty, by rw [heap_setCell_at hk]; rfl⟩
theorem QAt.set3 (h : QAt w g v0 v1 v2 v3) (u : Value) : QAt (w.setCell ⟨g, 3, none⟩ u) g v0 v1 v2 u := by
  obtain ⟨ty, hk⟩ := h.blk
  exact ⟨ty, by rw [heap_setCell_at hk]; rfl⟩
theorem QAt.put (h : QAt w g v0 v1 v2 v3) (u0 u1 u2 u3 : Value) : QAt ((((w.setCell ⟨g, 0, none⟩ u0).setCell ⟨g, 1, none⟩ u1).setCell ⟨g, 2, none⟩ u2).setCell ⟨g, 3, none⟩ u3) g u0 u1 u2 u3 := (((h.set0 u0).set1 u1).set2 u2).set3 u3
end
theorem set_keep1 (w : World) (g i : Nat) (u : Value) : Keep1 g w (w.setCell ⟨g, i, none⟩ u) := (Keep.refl _ w).set1 _ _
end Go.Proofs.Ytmllchembkpdkaa
