/-
  What this seat's claims lean on of the texts VecA, Law11, RefDcode2.
  Conditions: as each theorem states.
-/
import Derived.Test.YtmllchembkpdkaaChecked
import Derived.WalkKit
import Derived.ProofKit
import Derived.Below
import Derived.Deep.Draws
import Derived.Deep.RegionHeld
import Derived.OpenShut
import Derived.ShutString
import Derived.WalkSpells
import Derived.WalkLawsBesides
import Derived.Deep.QuietTactic
import Derived.BigQuiet
import Derived.Deep.Slices
import Derived.Laws.Bits64b
import Derived.PlainAid
import Derived.Lib.AppendStr
import Derived.Deep.AppendLies
import Derived.Laws.IdiomStrings
import Derived.Laws.BytesArg
import Derived.Deep.RegionWith
import Derived.Laws.AppendOwn
import Derived.Deep.DeepAppendWide
import Derived.Deep.Upon
import Derived.Test.YtmllchembkpdkaaZ27
import Derived.Test.YtmllchembkpdkaaZ5
import Derived.Test.YtmllchembkpdkaaZ24
import Derived.Test.YtmllchembkpdkaaZ2
import Derived.Laws.Rows
import Derived.Test.YtmllchembkpdkaaZ16
import Derived.Test.YtmllchembkpdkaaZ18
import Derived.Test.YtmllchembkpdkaaZ17
import Derived.Test.YtmllchembkpdkaaZ15
namespace Go.Proofs.Ytmllchembkpdkaa
open Go.RowKit
theorem texts_two10 (w : World) (t : TypeId) (a b : ByteArray) : TextsIn (w.alloc (.cells #[.string a, .string b] t)) (some ⟨w.heap.size, 0, none⟩) [a, b] := by
  intro i hi
  have hi : i = 0 ∨ i = 1 := by simp at hi; omega
  rcases hi with rfl | rfl
  · exact ⟨w.heap.size, 0, rfl, cell_alloc w t rfl⟩
  · exact ⟨w.heap.size, 0, rfl, cell_alloc w t rfl⟩
theorem rise_yes {a b : ByteArray} (h : bl a b = true) : rise [a, b] = -1 := by
  show (if bl a b = true then riseAt (1 + 1) [b] else 1) = -1
  rw [if_pos h]
  rfl
theorem rise_no {a b : ByteArray} (h : bl a b = false) : rise [a, b] = 1 := by
  show (if bl a b = true then riseAt (1 + 1) [b] else 1) = 1
  rw [h]
  rfl
theorem empty_no {a : ByteArray} (h : a.size ≠ 0) : a.toList.isEmpty = false := by
  rw [ByteArray.toList_eq]
  cases hb : a.data.toList with
  | nil => exact absurd (by show a.data.size = 0; rw [← Array.length_toList, hb]; rfl) h
  | cons x l => rfl
theorem empty_eq {a : ByteArray} (h : a.size = 0) : a = ⟨#[]⟩ := ByteArray.ext (Array.eq_empty_of_size_eq_zero h)
set_option maxRecDepth 100000 in
set_option maxHeartbeats 4000000 in
theorem checkAt10 (w : World) (ao : Option Addr) (cap : Nat) (l : List En) (ok : Ok10 l) (hc : EnsAt w ao l) (k : Nat) (hk : k < l.length) :
    Calls Try.prog 79 #[.slice ao l.length cap, .int .i64 (k : Int)] w fun e w' => e = .returned (.int .i64 (cOne (prv l k) l[k])) ∧ Keep0 w w' := by
  have hl := ok.1
  have hm := (ok.2 l[k] (List.getElem_mem hk)).1
  have hl' : (l.length : Int) ≤ 9223372036854775807 := by omega
  have i1 : (k : Int) < l.length := by omega
  have i2 : (l[k].a.size : Int) ≤ 9223372036854775807 := by unfold maxLen at hm; omega
  obtain ⟨b, off, rfl, x0, x1⟩ := hc k hk
  by_cases h1 : 32 < l[k].a.size
  · rw [cOne_a h1]
    have i3 : (32 : Int) < l[k].a.size := by omega
    clear hm h1 x1 ok
    generalize l[k].a = A at *
    go_enter Try.func79, Try.ntmps79
    go_wp2
    go_ret
    exact ⟨rfl, Keep.refl _ _⟩
  have i3 : ¬ (32 : Int) < l[k].a.size := by omega
  by_cases h2 : l[k].a.size = 0
  · rw [cOne_b h2]
    rw [empty_eq h2] at x0
    clear hm h1 x1 ok i2 i3 h2
    go_enter Try.func79, Try.ntmps79
    go_wp2
    go_ret
    exact ⟨rfl, Keep.refl _ _⟩
  have e1 := empty_no h2
  cases k with
  | zero =>
    have hp : falls (prv l 0) l[0].a = false := rfl
    have v0 : w.cell? ⟨b, off, none⟩ = some (.string l[0].a) := x0
    have v1 : w.cell? ⟨b, off + 1, none⟩ = some (.int .u64 (l[0].n : Int)) := x1
    by_cases h4 : l[0].n = 0
    · rw [cOne_d h1 h2 hp h4]
      have i6 : (l[0].n : Int) = 0 := by omega
      rw [i6] at v1
      clear hm h1 x1 x0 ok i6 hp h2 h4
      generalize l[0].a = A at *
      go_enter Try.func79, Try.ntmps79
      go_wp2
      go_ret
      exact ⟨rfl, Keep.refl _ _⟩
    · rw [cOne_e h1 h2 hp h4]
      have i6 : ((l[0].n : Int) == 0) = false := beq_eq_false_iff_ne.2 (by omega)
      have i7 : ¬ (l[0].n : Int) = 0 := by omega
      clear hm h1 x1 x0 ok hp h2 h4
      generalize (l[0].n : Int) = N at *
      generalize l[0].a = A at *
      go_enter Try.func79, Try.ntmps79
      go_wp2
      go_ret
      exact ⟨rfl, Keep.refl _ _⟩
  | succ j =>
    have hj : j < l.length := by omega
    obtain ⟨b', off', e', p0, _⟩ := hc j hj
    cases e'
    have hp : falls (prv l (j + 1)) l[j + 1].a = !bl l[j].a l[j + 1].a := by rw [prv_succ hj, falls_some]
    have yr := rising6_any _ _ 2 [l[j].a, l[j + 1].a] (by show 2 ≤ maxLen; unfold maxLen; omega) (texts_two10 w 9 l[j].a l[j + 1].a)
    have kA : Keep0 w (w.alloc (.cells #[.string l[j].a, .string l[j + 1].a] 9)) := (Keep.refl _ w).alloc _
    have z1 := kA.cell x1 (fun f => f)
    have i9 : (j : Int) < l.length := by omega
    have el : [l[j].a, l[j + 1].a].length = 2 := rfl
    rw [el] at yr
    clear el
    have hQ : ∃ q : Nat, j + 1 = q := ⟨_, rfl⟩
    have i7 : IntKind.i64.wrap (j : Int) = (j : Int) := by rw [IntKind.wrap_i64]; omega
    cases hB : bl l[j].a l[j + 1].a with
    | false =>
      rw [hB] at hp
      rw [cOne_c h1 h2 hp]
      rw [rise_no hB] at yr
      clear hm h1 h2 hp hB ok hc x1 z1 i2
      generalize l[j + 1].a = A at *
      generalize l[j].a = A' at *
      obtain ⟨q, hq⟩ := hQ
      have i6 : (q : Int) - 1 = (j : Int) := by omega
      have i8 : decide (0 < q) = true := decide_eq_true (by omega)
      have i8' : 0 < q := by omega
      rw [hq] at i1 x0 hk ⊢
      clear hq
      go_enter Try.func79, Try.ntmps79
      go_wp2_with fail
      refine yr.mono ?_
      rintro e w1 ⟨rfl, hw1⟩
      have K1 := kA.trans (keepN hw1)
      clear yr kA hw1
      go_wp2
      go_ret
      exact ⟨rfl, K1⟩
    | true =>
      rw [hB] at hp
      rw [rise_yes hB] at yr
      by_cases h4 : l[j + 1].n = 0
      · rw [cOne_d h1 h2 hp h4]
        have i6 : (l[j + 1].n : Int) = 0 := by omega
        rw [i6] at z1
        clear hm h1 h2 hp hB ok hc x1 i2 i6 h4
        generalize l[j + 1].a = A at *
        generalize l[j].a = A' at *
        obtain ⟨q, hq⟩ := hQ
        have i6 : (q : Int) - 1 = (j : Int) := by omega
        have i8 : decide (0 < q) = true := decide_eq_true (by omega)
        have i8' : 0 < q := by omega
        rw [hq] at i1 x0 hk z1 ⊢
        clear hq
        go_enter Try.func79, Try.ntmps79
        go_wp2_with fail
        refine yr.mono ?_
        rintro e w1 ⟨rfl, hw1⟩
        have k1 := keepN hw1
        have z1 := k1.cell z1 (fun f => f)
        have K1 := kA.trans k1
        clear yr kA hw1 k1 x0 p0
        go_wp2
        go_ret
        exact ⟨rfl, K1⟩
      · rw [cOne_e h1 h2 hp h4]
        have i10 : ((l[j + 1].n : Int) == 0) = false := beq_eq_false_iff_ne.2 (by omega)
        have i11 : ¬ (l[j + 1].n : Int) = 0 := by omega
        clear hm h1 h2 hp hB ok hc x1 i2 h4
        generalize (l[j + 1].n : Int) = N at *
        generalize l[j + 1].a = A at *
        generalize l[j].a = A' at *
        obtain ⟨q, hq⟩ := hQ
        have i6 : (q : Int) - 1 = (j : Int) := by omega
        have i8 : decide (0 < q) = true := decide_eq_true (by omega)
        have i8' : 0 < q := by omega
        rw [hq] at i1 x0 hk z1 ⊢
        clear hq
        go_enter Try.func79, Try.ntmps79
        go_wp2_with fail
        refine yr.mono ?_
        rintro e w1 ⟨rfl, hw1⟩
        have k1 := keepN hw1
        have z1 := k1.cell z1 (fun f => f)
        have K1 := kA.trans k1
        clear yr kA hw1 k1 x0 p0
        go_wp2
        go_ret
        exact ⟨rfl, K1⟩
end Go.Proofs.Ytmllchembkpdkaa
namespace Go.Proofs.Ytmllchembkpdkaa
open Go.RowKit
def Ok11 (l : List En) : Prop := l.length ≤ 10000 ∧ ∀ x ∈ l, x.a.size ≤ maxLen ∧ U64 x.n
theorem Ok11.fits {l : List En} (h : Ok11 l) : Fits l := ⟨by have := h.1; unfold maxLen; omega, h.2⟩
end Go.Proofs.Ytmllchembkpdkaa
namespace Go.Proofs.Ytmllchembkpdkaa
open Go.RowKit
section
variable {s : ByteArray} {a : Int}
variable {V : List En} {b : Int}
variable {c : Int}
end
def RTakeK (r : Ck × Int × Int) (s : ByteArray) (b : Nat) (w : World) (e : Ending) (w' : World) : Prop := ∃ ao cap, e = .returned (.agg #[.slice ao r.1.c.length cap, .bool r.1.d, .string r.1.x.a, .int .u64 (r.1.x.n : Int)]) ∧ Cur w' b s r.2.1 r.2.2 ∧ EnsAt w' ao r.1.c ∧ (∀ g off m, ao = some ⟨g, off, m⟩ → w.heap.size ≤ g) ∧ Keep1 b w w'
theorem RTakeK.bare {r : Ck × Int × Int} {s : ByteArray} {b : Nat} {w w' : World} {e : Ending} {A E : Int} (hr : r = (zCk, A, E)) (h : e = .returned (.agg #[.slice none 0 0, .bool false, .string ⟨#[]⟩, .int .u64 0])) (h1 : Cur w' b s A E) (h4 : Keep1 b w w') : RTakeK r s b w e w' := by
  subst hr
  exact ⟨none, 0, h, h1, ens_nil _ _, (fun _ _ _ e => by cases e), h4⟩
theorem RTakeK.mk {r : Ck × Int × Int} {s : ByteArray} {b : Nat} {w w' : World} {e : Ending} {A E : Int} {V : List En} {d : Bool} {x : ByteArray} {n : Nat} {ao : Option Addr} {cap : Nat} (hr : r = (⟨V, d, ⟨x, n⟩⟩, A, E)) (h : e = .returned (.agg #[.slice ao V.length cap, .bool d, .string x, .int .u64 (n : Int)])) (h1 : Cur w' b s A E) (h2 : EnsAt w' ao V) (h3 : ∀ g off m, ao = some ⟨g, off, m⟩ → w.heap.size ≤ g) (h4 : Keep1 b w w') : RTakeK r s b w e w' := by
  subst hr
  exact ⟨ao, cap, h, h1, h2, h3, h4⟩
end Go.Proofs.Ytmllchembkpdkaa
