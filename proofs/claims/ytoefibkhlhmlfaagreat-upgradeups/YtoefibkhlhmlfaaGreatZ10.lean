/-
  What this seat's claims lean on of the texts DMem, RefVec2, DotMem, PairMem.
  Conditions: as each theorem states.
-/
import Derived.WalkKit
import Derived.ProofKit
import Derived.Below
import Derived.Deep.Draws
import Derived.Deep.RegionHeld
import Derived.Test.YtoefibkhlhmlfaaGreatChecked
import Derived.OpenShut
import Derived.ShutString
import Derived.WalkSpells
import Derived.WalkLawsBesides
import Derived.Deep.QuietTactic
import Derived.BigQuiet
import Derived.Laws.Bits64b
import Derived.PlainAid
import Derived.Lib.AppendStr
import Derived.Deep.AppendLies
import Derived.Laws.IdiomStrings
import Derived.Laws.BytesArg
import Derived.Deep.RegionWith
import Derived.Laws.AppendOwn
import Derived.Deep.DeepAppendWide
import Derived.Deep.Upon
import Derived.Test.YtoefibkhlhmlfaaGreatZ8
import Derived.Test.YtoefibkhlhmlfaaGreatZ7
namespace Go.Proofs.YtoefibkhlhmlfaaGreat
open Go.RowKit
structure DAt (w : World) (g : Nat) (v0 v1 : Value) : Prop where
  blk : ∃ ty, w.heap[g]? = some (.cells #[v0, v1] ty)
section
variable {w : World} {g : Nat} {v0 v1 : Value}
theorem DAt.lt (h : DAt w g v0 v1) : g < w.heap.size := by
  obtain ⟨ty, hk⟩ := h.blk
  exact (Array.getElem?_eq_some_iff.mp hk).1
theorem DAt.cells (h : DAt w g v0 v1) : w.cell? ⟨g, 0, none⟩ = some v0 ∧ w.cell? ⟨g, 1, none⟩ = some v1 ∧ w.frozen? ⟨g, 0, none⟩ = false ∧ w.frozen? ⟨g, 1, none⟩ = false := by
  obtain ⟨ty, hk⟩ := h.blk
  simp [World.cell?, World.frozen?, hk]
theorem DAt.keep {R : Nat → Prop} {w' : World} (h : DAt w g v0 v1) (K : Keep R w w') (hn : ¬ R g) : DAt w' g v0 v1 := by
  obtain ⟨ty, hk⟩ := h.blk
  exact ⟨ty, by rw [K.block g h.lt hn]; exact hk⟩
theorem DAt.keep0 {w' : World} (h : DAt w g v0 v1) (K : Keep0 w w') : DAt w' g v0 v1 := h.keep K (fun f => f)
theorem DAt.new (w : World) (ty : TypeId) (v0 v1 : Value) : DAt (w.alloc (.cells #[v0, v1] ty)) w.heap.size v0 v1 := ⟨ty, (MapKept.heap_alloc w _).1⟩
theorem DAt.set0 (h : DAt w g v0 v1) (u : Value) : DAt (w.setCell ⟨g, 0, none⟩ u) g u v1 := by
  obtain ⟨ty, hk⟩ := h.blk
  exact ⟨ty, by rw [heap_setCell_at hk]; rfl⟩
theorem DAt.set1 (h : DAt w g v0 v1) (u : Value) : DAt (w.setCell ⟨g, 1, none⟩ u) g v0 u := by
  obtain ⟨ty, hk⟩ := h.blk
  exact ⟨ty, by rw [heap_setCell_at hk]; rfl⟩
theorem DAt.put (h : DAt w g v0 v1) (u0 u1 : Value) : DAt ((w.setCell ⟨g, 0, none⟩ u0).setCell ⟨g, 1, none⟩ u1) g u0 u1 := (h.set0 u0).set1 u1
end
theorem put2_keep (w : World) (g : Nat) (u0 u1 : Value) : Keep1 g w ((w.setCell ⟨g, 0, none⟩ u0).setCell ⟨g, 1, none⟩ u1) := ((Keep.refl _ w).set1 _ _).set1 _ _
end Go.Proofs.YtoefibkhlhmlfaaGreat
namespace Go.Proofs.YtoefibkhlhmlfaaGreat
open Go.RowKit
def prv (l : List En) : Nat → Option ByteArray
  | 0 => none
  | k + 1 => (l[k]?).map (·.a)
theorem prv_zero (l : List En) : prv l 0 = none := rfl
theorem prv_succ {l : List En} {k : Nat} (h : k < l.length) : prv l (k + 1) = some l[k].a := by
  show (l[k]?).map (·.a) = _
  rw [List.getElem?_eq_getElem h]
  rfl
theorem go_drop {l : List En} {k : Nat} (hk : k < l.length) : cGo (prv l k) (l.drop k) = if cOne (prv l k) l[k] = 0 then cGo (prv l (k + 1)) (l.drop (k + 1)) else cOne (prv l k) l[k] := by
  rw [List.drop_eq_getElem_cons hk, cGo, prv_succ hk]
theorem cOne_a {p : Option ByteArray} {x : En} (h : 32 < x.a.size) : cOne p x = 3 := if_pos h
theorem cOne_b {p : Option ByteArray} {x : En} (h : x.a.size = 0) : cOne p x = 14 := by unfold cOne; rw [if_neg (by omega), if_pos h]
theorem cOne_c {p : Option ByteArray} {x : En} (h1 : ¬ 32 < x.a.size) (h2 : x.a.size ≠ 0) (h3 : falls p x.a = true) : cOne p x = 6 := by unfold cOne; rw [if_neg h1, if_neg h2, if_pos h3]
theorem cOne_d {p : Option ByteArray} {x : En} (h1 : ¬ 32 < x.a.size) (h2 : x.a.size ≠ 0) (h3 : falls p x.a = false) (h4 : x.n = 0) : cOne p x = 7 := by unfold cOne; rw [if_neg h1, if_neg h2, h3, if_neg (by decide), if_pos h4]
theorem cOne_e {p : Option ByteArray} {x : En} (h1 : ¬ 32 < x.a.size) (h2 : x.a.size ≠ 0) (h3 : falls p x.a = false) (h4 : x.n ≠ 0) : cOne p x = 0 := by unfold cOne; rw [if_neg h1, if_neg h2, h3, if_neg (by decide), if_neg h4]
set_option maxRecDepth 100000 in
set_option maxHeartbeats 4000000 in
theorem rcheck10 (w : World) (ao : Option Addr) (cap : Nat) (l : List En) (hf : Fits l) (hc : EnsAt w ao l) :
    Calls Tryz.prog 40 #[.slice ao l.length cap] w fun e w' => e = .returned (.int .i64 (vCheck l)) ∧ ∃ n, w' = w.drewN n := by
  have HC : Hid (EnsAt w ao l) := hc
  have HF : Hid (∀ x ∈ l, x.a.size ≤ maxLen ∧ x.n < 18446744073709551616) := hf.2
  have hl' : (l.length : Int) ≤ 9223372036854775807 := by have := hf.1; unfold maxLen at this; omega
  clear hc hf
  by_cases h64 : 64 < l.length
  · have i0 : (64 : Int) < l.length := by omega
    have e : vCheck l = 3 := if_pos h64
    rw [e]
    go_enter Tryz.func40, Tryz.ntmps40
    go_wp2
    go_ret
    exact ⟨rfl, 0, rfl⟩
  · have i0 : ¬ (64 : Int) < l.length := by omega
    have e : vCheck l = cGo (prv l 0) (l.drop 0) := if_neg h64
    obtain ⟨r, hr⟩ : ∃ r, vCheck l = r := ⟨_, rfl⟩
    rw [hr]
    rw [e] at hr
    have HR : Hid (cGo (prv l 0) (l.drop 0) = r) := hr
    clear hr e
    go_enter Tryz.func40, Tryz.ntmps40
    go_wp2_with fail
    go_loopw [3] (fun i wr => ∃ (k : Nat), i = .int .i64 (k : Int) ∧ k ≤ l.length ∧ Hid (cGo (prv l k) (l.drop k) = r) ∧ ∃ n, wr = w.drewN n) (fun i _ => l.length - (intOf i).toNat)
    case atStart => exact ⟨0, rfl, by omega, HR, 0, rfl⟩
    case round =>
      obtain ⟨k, rfl, hk, HK, hWr⟩ := hrel
      have kr := keepN hWr
      have HW : Hid (∃ n, wr = w.drewN n) := hWr
      clear hWr
      by_cases hlt : k < l.length
      · have i1 : (k : Int) < l.length := by omega
        obtain ⟨b, off, rfl, p0, p1⟩ := HC.out k hlt
        have x0 := kr.cell p0 (fun f => f)
        have x1 := kr.cell p1 (fun f => f)
        clear p0 p1
        have hm := (HF.out l[k] (List.getElem_mem hlt)).1
        have i2 : (l[k].a.size : Int) ≤ 9223372036854775807 := by unfold maxLen at hm; omega
        have hd := HK.out
        rw [go_drop hlt] at hd
        by_cases h1 : 32 < l[k].a.size
        · rw [cOne_a h1, if_neg (by decide)] at hd
          have HD : Hid ((3 : Int) = r) := hd
          have i3 : (32 : Int) < l[k].a.size := by omega
          clear hd HK kr hm h1 x1
          generalize l[k].a = A at *
          go_wp2
          go_ret
          exact ⟨by rw [← HD.out]; rfl, HW.out⟩
        by_cases h2 : l[k].a.size = 0
        · rw [cOne_b h2, if_neg (by decide)] at hd
          have HD : Hid ((14 : Int) = r) := hd
          have i3 : ¬ (32 : Int) < l[k].a.size := by omega
          have i4 : (l[k].a.size : Int) = 0 := by omega
          clear hd HK kr hm h1 x1
          generalize l[k].a = A at *
          go_wp2
          go_ret
          exact ⟨by rw [← HD.out]; rfl, HW.out⟩
        have i3 : ¬ (32 : Int) < l[k].a.size := by omega
        have i4 : ((l[k].a.size : Int) == 0) = false := beq_eq_false_iff_ne.2 (by omega)
        have i5 : ¬ (l[k].a.size : Int) = 0 := by omega
        cases k with
        | zero =>
          have hp : falls (prv l 0) l[0].a = false := rfl
          have v0 : wr.cell? ⟨b, off, none⟩ = some (.string l[0].a) := x0
          have v1 : wr.cell? ⟨b, off + 1, none⟩ = some (.int .u64 (l[0].n : Int)) := x1
          clear x0 x1
          have HZ : Hid (cGo (prv l 1) (l.drop 1) = r ∨ (l[0].n = 0 ∧ (7 : Int) = r)) := by
            by_cases h4 : l[0].n = 0
            · rw [cOne_d h1 h2 hp h4, if_neg (by decide)] at hd
              exact Or.inr ⟨h4, hd⟩
            · rw [cOne_e h1 h2 hp h4, if_pos rfl] at hd
              exact Or.inl hd
          have HN : Hid (l[0].n ≠ 0 → cGo (prv l 1) (l.drop 1) = r) := fun h => HZ.out.elim (fun e => e) (fun e => absurd e.1 h)
          have HN' : Hid (l[0].n = 0 → (7 : Int) = r) := by
            intro h4
            rw [cOne_d h1 h2 hp h4, if_neg (by decide)] at hd
            exact hd
          clear hd HK kr hm h1 h2 hp HZ HC HF HR
          by_cases h4 : l[0].n = 0
          · have HD : Hid ((7 : Int) = r) := HN'.out h4
            have i6 : (l[0].n : Int) = 0 := by omega
            rw [i6] at v1
            clear HN HN' h4 i6
            generalize l[0].a = A at *
            go_wp2_with fail
            go_quiet (fail)
            go_wp2
            go_ret
            exact ⟨by rw [← HD.out]; rfl, drewN_on HW.out _⟩
          · have i6 : ((l[0].n : Int) == 0) = false := beq_eq_false_iff_ne.2 (by omega)
            have i7 : ¬ (l[0].n : Int) = 0 := by omega
            have HD : Hid (cGo (prv l 1) (l.drop 1) = r) := HN.out h4
            clear HN HN' h4
            generalize l[0].a = A at *
            generalize (l[0].n : Int) = N at *
            go_wp2_with fail
            go_quiet (fail)
            go_wp2
            go_roundw
            case rel => exact ⟨1, by go_num, by omega, HD, drewN_on HW.out _⟩
            case measure => simp [intOf]; omega
        | succ j =>
          have hj : j < l.length := by omega
          obtain ⟨b', off', e', p0, _⟩ := HC.out j hj
          cases e'
          have y0 := kr.cell p0 (fun f => f)
          clear p0
          have hmj := (HF.out l[j] (List.getElem_mem hj)).1
          have HQ : Hid (∀ n, Calls Tryz.prog 50 #[.string l[j].a, .string l[j + 1].a] (wr.drewN n) fun e w' => e = .returned (.bool (bl l[j].a l[j + 1].a)) ∧ ∃ m, w' = wr.drewN m) := fun n => rbelow_q wr n l[j].a l[j + 1].a hmj hm
          have hp : falls (prv l (j + 1)) l[j + 1].a = !bl l[j].a l[j + 1].a := by rw [prv_succ hj, falls_some]
          obtain ⟨q, hq⟩ : ∃ q : Nat, j + 1 = q := ⟨_, rfl⟩
          have i6 : (q : Int) - 1 = (j : Int) := by omega
          have i7 : IntKind.i64.wrap (j : Int) = (j : Int) := by rw [IntKind.wrap_i64]; omega
          have i8 : decide (0 < q) = true := decide_eq_true (by omega)
          have i8' : 0 < q := by omega
          have i9 : (j : Int) < l.length := by omega
          cases hB : bl l[j].a l[j + 1].a with
          | false =>
            rw [hB] at hp HQ
            rw [cOne_c h1 h2 hp, if_neg (by decide)] at hd
            have HD : Hid ((6 : Int) = r) := hd
            clear hd HK kr hm h1 h2 hp HC HF HR hB hmj x1
            subst hq
            have yq := HQ.out
            clear HQ
            generalize l[j + 1].a = A at *
            generalize l[j].a = A' at *
            generalize hq : j + 1 = q at *
            go_wp2_with fail
            go_quiet ((go_at_call 50; exact yq _))
            go_wp2
            go_ret
            exact ⟨by rw [← HD.out]; rfl, drewN_on HW.out _⟩
          | true =>
            rw [hB] at hp HQ
            have HN : Hid (l[j + 1].n ≠ 0 → cGo (prv l (j + 2)) (l.drop (j + 2)) = r) := by
              intro h4
              rw [cOne_e h1 h2 hp h4, if_pos rfl] at hd
              exact hd
            have HN' : Hid (l[j + 1].n = 0 → (7 : Int) = r) := by
              intro h4
              rw [cOne_d h1 h2 hp h4, if_neg (by decide)] at hd
              exact hd
            have yq := HQ.out
            clear hd HK kr hm h1 h2 hp HC HF HR hB hmj HQ
            subst hq
            by_cases h4 : l[j + 1].n = 0
            · have HD : Hid ((7 : Int) = r) := HN'.out h4
              have i10 : (l[j + 1].n : Int) = 0 := by omega
              rw [i10] at x1
              clear HN HN' h4 i10
              generalize l[j + 1].a = A at *
              generalize l[j].a = A' at *
              generalize hq : j + 1 = q at *
              go_wp2_with fail
              go_quiet ((go_at_call 50; exact yq _))
              go_wp2
              go_ret
              exact ⟨by rw [← HD.out]; rfl, drewN_on HW.out _⟩
            · have i10 : ((l[j + 1].n : Int) == 0) = false := beq_eq_false_iff_ne.2 (by omega)
              have i11 : ¬ (l[j + 1].n : Int) = 0 := by omega
              have HD : Hid (cGo (prv l (j + 2)) (l.drop (j + 2)) = r) := HN.out h4
              clear HN HN' h4
              generalize l[j + 1].a = A at *
              generalize l[j].a = A' at *
              generalize (l[j + 1].n : Int) = N at *
              have HQ2 : Hid (cGo (prv l (j + 1 + 1)) (l.drop (j + 1 + 1)) = r) := HD
              clear HD
              generalize hq : j + 1 = q at *
              go_wp2_with fail
              go_quiet ((go_at_call 50; exact yq _))
              go_wp2
              go_roundw
              case rel => exact ⟨q + 1, by go_num, by omega, HQ2, drewN_on HW.out _⟩
              case measure => simp [intOf]; omega
      · have i1 : ¬ (k : Int) < l.length := by omega
        have hd := HK.out
        rw [List.drop_eq_nil_of_le (by omega), cGo] at hd
        have HD : Hid ((0 : Int) = r) := hd
        clear hd HK kr
        go_wp2
        go_ret
        exact ⟨by rw [← HD.out]; rfl, HW.out⟩
end Go.Proofs.YtoefibkhlhmlfaaGreat
namespace Go.Proofs.YtoefibkhlhmlfaaGreat
open Go.RowKit
def Ck.cells (k : Ck) (ao : Option Addr) (cap : Nat) : List Value := [.slice ao k.c.length cap, .bool k.d, .string k.x.a, .int .u64 (k.x.n : Int)]
structure FitsK (k : Ck) : Prop where
  vec : Fits k.c
  dot : k.x.a.size ≤ maxLen
  num : k.x.n < 18446744073709551616
def ClkAt (w : World) (b off : Nat) (k : Ck) (ao : Option Addr) (cap : Nat) : Prop := w.cell? ⟨b, off, none⟩ = some (.slice ao k.c.length cap) ∧ w.cell? ⟨b, off + 1, none⟩ = some (.bool k.d) ∧ w.cell? ⟨b, off + 2, none⟩ = some (.string k.x.a) ∧ w.cell? ⟨b, off + 3, none⟩ = some (.int .u64 (k.x.n : Int))
theorem ClkAt.keep0 {w w' : World} {b off : Nat} {k : Ck} {ao : Option Addr} {cap : Nat} (h : ClkAt w b off k ao cap) (K : Keep0 w w') : ClkAt w' b off k ao cap :=
  ⟨K.cell h.1 (fun f => f), K.cell h.2.1 (fun f => f), K.cell h.2.2.1 (fun f => f), K.cell h.2.2.2 (fun f => f)⟩
theorem clk_new (w : World) (t : TypeId) (k : Ck) (ao : Option Addr) (cap : Nat) : ClkAt (w.alloc (.cells #[.slice ao k.c.length cap, .bool k.d, .string k.x.a, .int .u64 (k.x.n : Int)] t)) w.heap.size 0 k ao cap :=
  ⟨cell_alloc w t rfl, cell_alloc w t rfl, cell_alloc w t rfl, cell_alloc w t rfl⟩
def ClksAt (w : World) (ao : Option Addr) (l : List Ck) : Prop := ∀ i (_ : i < l.length), ∃ b off vo c, ao = some ⟨b, off, none⟩ ∧ ClkAt w b (off + i * 4) l[i] vo c ∧ EnsAt w vo l[i].c
theorem ClksAt.keep0 {w w' : World} {ao : Option Addr} {l : List Ck} (h : ClksAt w ao l) (K : Keep0 w w') : ClksAt w' ao l := by
  intro i hi
  obtain ⟨b, off, vo, c, e, h1, h2⟩ := h i hi
  exact ⟨b, off, vo, c, e, h1.keep0 K, h2.keep0 K⟩
theorem empty_ne12 {a : ByteArray} (h : a.size ≠ 0) : a.toList.isEmpty = false := by
  rw [ByteArray.toList_eq]
  cases hb : a.data.toList with
  | nil => exact absurd (by show a.data.size = 0; rw [← Array.length_toList, hb]; rfl) h
  | cons x l => rfl
theorem empty_eq12 {a : ByteArray} (h : a.size = 0) : a = ⟨#[]⟩ := ByteArray.ext (Array.eq_empty_of_size_eq_zero h)
theorem check_bad {k : Ck} (h : vCheck k.c ≠ 0) : kCheck k = vCheck k.c := if_neg h
theorem check_dot {k : Ck} (h : vCheck k.c = 0) : kCheck k = kDot k := if_pos h
theorem dot_p0 {k : Ck} (hd : k.d = false) (h : k.x.a.size = 0) (h1 : k.x.n = 0) : kDot k = 0 := by unfold kDot; rw [hd, if_neg (by decide), if_pos ⟨h, h1⟩]
theorem dot_p1 {k : Ck} (hd : k.d = false) (h : ¬ (k.x.a.size = 0 ∧ k.x.n = 0)) : kDot k = 1 := by unfold kDot; rw [hd, if_neg (by decide), if_neg h]
theorem dot_3 {k : Ck} (hd : k.d = true) (h : 32 < k.x.a.size) : kDot k = 3 := by unfold kDot; rw [hd, if_pos rfl, if_pos h]
theorem dot_14 {k : Ck} (hd : k.d = true) (h : k.x.a.size = 0) : kDot k = 14 := by unfold kDot; rw [hd, if_pos rfl, if_neg (by omega), if_pos h]
theorem dot_7 {k : Ck} (hd : k.d = true) (h : ¬ 32 < k.x.a.size) (h1 : k.x.a.size ≠ 0) (h2 : k.x.n = 0) : kDot k = 7 := by unfold kDot; rw [hd, if_pos rfl, if_neg h, if_neg h1, if_pos h2]
theorem dot_15 {k : Ck} (hd : k.d = true) (h : ¬ 32 < k.x.a.size) (h1 : k.x.a.size ≠ 0) (h2 : k.x.n ≠ 0) (h3 : k.x.n ≤ vCount k.c k.x.a) : kDot k = 15 := by unfold kDot; rw [hd, if_pos rfl, if_neg h, if_neg h1, if_neg h2, if_pos h3]
theorem dot_0 {k : Ck} (hd : k.d = true) (h : ¬ 32 < k.x.a.size) (h1 : k.x.a.size ≠ 0) (h2 : k.x.n ≠ 0) (h3 : ¬ k.x.n ≤ vCount k.c k.x.a) : kDot k = 0 := by unfold kDot; rw [hd, if_pos rfl, if_neg h, if_neg h1, if_neg h2, if_neg h3]
end Go.Proofs.YtoefibkhlhmlfaaGreat
namespace Go.Proofs.YtoefibkhlhmlfaaGreat
open Go.RowKit
def Pr.cells (x : Pr) : List Value := [.string x.n, .string x.v]
def Pr.val (x : Pr) : Value := .agg #[.string x.n, .string x.v]
def PrsAt (w : World) (ao : Option Addr) (l : List Pr) : Prop := ∀ i (_ : i < l.length), ∃ b off, ao = some ⟨b, off, none⟩ ∧
  w.cell? ⟨b, off + i * 2, none⟩ = some (.string l[i].n) ∧ w.cell? ⟨b, off + i * 2 + 1, none⟩ = some (.string l[i].v)
theorem PrsAt.keep {R : Nat → Prop} {w w' : World} {ao : Option Addr} {l : List Pr} (h : PrsAt w ao l) (K : Keep R w w') (hn : ApartE R ao) : PrsAt w' ao l := by
  intro i hi
  obtain ⟨b, off, e, h1, h2⟩ := h i hi
  have hb := hn _ _ _ e
  exact ⟨b, off, e, K.cell h1 hb, K.cell h2 hb⟩
theorem PrsAt.keep0 {w w' : World} {ao : Option Addr} {l : List Pr} (h : PrsAt w ao l) (K : Keep0 w w') : PrsAt w' ao l := h.keep K (fun _ _ _ _ f => f)
theorem prs_nil (w : World) (ao : Option Addr) : PrsAt w ao [] := fun i hi => absurd hi (Nat.not_lt_zero i)
def prCells (l : List Pr) : List Value := l.flatMap Pr.cells
theorem prCells_len (l : List Pr) : (prCells l).length = l.length * 2 := by
  induction l with
  | nil => rfl
  | cons f l ih =>
    show (f.cells ++ prCells l).length = _
    rw [List.length_append, ih, List.length_cons]
    show 2 + _ = _
    omega
theorem prCells_app (l r : List Pr) : prCells (l ++ r) = prCells l ++ prCells r := List.flatMap_append
theorem prCells_get : ∀ (l : List Pr) (i : Nat) (hi : i < l.length) (j : Nat), j < 2 → (prCells l)[i * 2 + j]? = l[i].cells[j]?
  | f :: l, 0, _, j, hj => by
    show (f.cells ++ prCells l)[0 * 2 + j]? = f.cells[j]?
    rw [Nat.zero_mul, Nat.zero_add, List.getElem?_append_left (by show j < 2; exact hj)]
  | f :: l, i + 1, hi, j, hj => by
    have hi' : i < l.length := by simpa using hi
    have ih := prCells_get l i hi' j hj
    show (f.cells ++ prCells l)[(i + 1) * 2 + j]? = l[i].cells[j]?
    have e : f.cells.length = 2 := rfl
    rw [List.getElem?_append_right (by rw [e]; omega), e, show (i + 1) * 2 + j - 2 = i * 2 + j from by omega, ih]
theorem prCells_one (l : List Pr) : ∀ u ∈ prCells l, u.oneCell' = true := by
  intro u hu
  unfold prCells at hu
  obtain ⟨f, _, hf⟩ := List.mem_flatMap.1 hu
  simp only [Pr.cells, List.mem_cons, List.mem_nil_iff, or_false] at hf
  rcases hf with rfl | rfl <;> rfl
theorem prs_of_row {w : World} {B : Nat} {e : TypeId} {v : Value} {n : Nat} {l : List Pr} (h : w.ownsRow B e 2 v n (prCells l)) :
    ∃ ao cap, v = .slice ao l.length cap ∧ PrsAt w ao l ∧ (∀ b off m, ao = some ⟨b, off, m⟩ → B ≤ b) ∧ l.length ≤ cap := by
  have hn : n = l.length := by have := h.1; rw [prCells_len] at this; omega
  subst hn
  rcases h.2 with ⟨rfl, h0⟩ | ⟨g, cap, cur, rfl, hb, hg, hcap, hrest⟩
  · exact ⟨none, 0, by rw [h0], fun i hi => by omega, (fun b off m e => by cases e), by omega⟩
  · refine ⟨some ⟨g, 0, none⟩, cap, rfl, fun i hi => ⟨g, 0, rfl, ?_⟩, (fun b off m e => by cases e; exact hb), hcap⟩
    have hc := h.cells (g := g) rfl
    have k : ∀ j u, j < 2 → l[i].cells[j]? = some u → w.cell? ⟨g, 0 + i * 2 + j, none⟩ = some u := by
      intro j u hj hu
      have := hc (i * 2 + j) u ((prCells_get l i hi j hj).trans hu)
      rwa [add_plain, ← Nat.add_assoc] at this
    exact ⟨k 0 _ (by decide) rfl, k 1 _ (by decide) rfl⟩
theorem prs_cells {w : World} {ao : Option Addr} {l : List Pr} (h : PrsAt w ao l) (hne : 0 < l.length) : ∃ b off, ao = some ⟨b, off, none⟩ ∧ ∀ j u, (prCells l)[j]? = some u → w.cell? ((⟨b, off, none⟩ : Addr).add j) = some u := by
  obtain ⟨b, off, rfl, _⟩ := h 0 hne
  refine ⟨b, off, rfl, fun j u hu => ?_⟩
  have hj : j < (prCells l).length := (List.getElem?_eq_some_iff.1 hu).1
  rw [prCells_len] at hj
  have hi : j / 2 < l.length := by omega
  have hr : j % 2 < 2 := Nat.mod_lt _ (by decide)
  have ej : j / 2 * 2 + j % 2 = j := by omega
  obtain ⟨b', off', e, h0, h1⟩ := h (j / 2) hi
  cases e
  have hu' := prCells_get l (j / 2) hi (j % 2) hr
  rw [ej, hu] at hu'
  rw [add_plain]
  have hc : j % 2 = 0 ∨ j % 2 = 1 := by omega
  rcases hc with hc | hc
  · rw [hc] at hu'
    have : u = .string l[j / 2].n := by simpa [Pr.cells] using hu'
    rw [this, ← h0]
    congr 2
    omega
  · rw [hc] at hu'
    have : u = .string l[j / 2].v := by simpa [Pr.cells] using hu'
    rw [this, ← h1]
    congr 2
    omega
theorem pair_info : (Tryz.prog.info? 135).map (fun i => (i.zero, i.size, i.bytes)) = some (some (.agg #[.string ⟨#[]⟩, .string ⟨#[]⟩]), 2, 32) := by kernel_rfl
theorem run_append_prs {w : World} {B : Nat} {v : Value} {l m : List Pr} {ao : Option Addr} {c : Nat} (ty : TypeId) (ho : w.ownsRow B 135 2 v l.length (prCells l)) (hs : PrsAt w ao m) (hB : B ≤ w.heap.size) (hlen : l.length + m.length ≤ 1000000) :
    ∃ v' w', (Builtin.append_ #[59, 59] ty #[v, .slice ao m.length c]).run Tryz.prog w = .ok v' w' ∧ w'.ownsRow B 135 2 v' (l ++ m).length (prCells (l ++ m)) ∧ w.grownBy w' v.ownBlock := by
  obtain ⟨i0, hi, z0, z1, z2⟩ := info_parts pair_info
  have big : ∀ a, (∀ j u, (prCells m)[j]? = some u → w.cell? (Addr.add a j) = some u) → ∃ v' w', (Builtin.append_ #[59, 59] ty #[v, .slice (some a) m.length c]).run Tryz.prog w = .ok v' w' ∧ w'.ownsRow B 135 2 v' (l ++ m).length (prCells (l ++ m)) ∧ w.grownBy w' v.ownBlock := by
    intro a ha
    obtain ⟨v', w', h1, h2, h3, _⟩ := run_append_own_wide (P := Tryz.prog) w B 59 ty 135 i0 _ 2 32 Tryz.underlying59 hi z0 z1 z2 rfl (by decide) v l.length (prCells l) ho a m.length c (prCells m) (prCells_len m) ha (prCells_one m) (by unfold maxLen; omega) (by omega) hB
    exact ⟨v', w', h1, by rw [prCells_app, List.length_append]; exact h2, h3⟩
  by_cases hm : 0 < m.length
  · obtain ⟨b, off, rfl, hc⟩ := prs_cells hs hm
    exact big _ hc
  · have hm' : m = [] := List.eq_nil_of_length_eq_zero (by omega)
    subst hm'
    cases ao with
    | some a => exact big a (fun j u hu => by cases hu)
    | none =>
      have hsrc : Src Tryz.prog i0.size 59 (.slice none 0 c) 0 [] w := Src.ofNil w Tryz.underlying59 c
      have hv : ∃ base n cap, v = .slice base n cap ∧ n ≤ cap := by
        rcases ho.2 with ⟨e, _⟩ | ⟨g, cp, cur, e, _, _, hc, _⟩
        · exact ⟨_, _, _, e, Nat.le_refl _⟩
        · exact ⟨_, _, _, e, hc⟩
      obtain ⟨base, n, cap, rfl, hle⟩ := hv
      refine ⟨_, w, run_append_nothing w 59 59 ty 135 i0 Tryz.underlying59 hi base n cap hle _ hsrc, ?_, ⟨rfl, rfl, rfl, Nat.le_refl _, fun _ _ _ => rfl⟩⟩
      rw [List.append_nil]
      exact ho
theorem wpList_append_prs {w : World} {ops : Array Oper} {rest : List Oper} {o : Oper} {a : Act} {Q : Exit → Act → World → Prop} (hgd : o.guard = none) (s x : Operand)
    (ho : o.op = .call { callee := .builtin .append, args := #[s, x], argTypes := #[59, 59] }) {B : Nat} {v : Value} {l m : List Pr} {ao : Option Addr} {c : Nat}
    (hs : a.eval s = v) (hx : a.eval x = .slice ao m.length c) (hown : w.ownsRow B 135 2 v l.length (prCells l)) (hsrc : PrsAt w ao m) (hB : B ≤ w.heap.size) (hlen : l.length + m.length ≤ 1000000)
    (h : ∀ v' w', w'.ownsRow B 135 2 v' (l ++ m).length (prCells (l ++ m)) → w.grownBy w' v.ownBlock → wpList Tryz.prog ops Q rest (a.put o.dst v') w') : wpList Tryz.prog ops Q (o :: rest) a w :=
  wpList_plain hgd fun _ hK => by
    obtain ⟨v', w', hr, h2, h3⟩ := run_append_prs (c := c) o.type hown hsrc hB hlen
    unfold Oper.wp execOp
    simp only [ho, resolve, invoke, builtin, Sem.run_bind, Sem.run_pure, Result.andThen_ok, List.map_toArray, List.map_cons, List.map_nil, hs, hx, hr]
    exact hK _ _ (h v' w' h2 h3)
theorem pr_new (w : World) (t : TypeId) (x : Pr) : PrsAt (w.alloc (.cells #[.string x.n, .string x.v] t)) (some ⟨w.heap.size, 0, none⟩) [x] := by
  intro i hi
  obtain rfl : i = 0 := by simpa using hi
  exact ⟨w.heap.size, 0, rfl, cell_alloc w t rfl, cell_alloc w t rfl⟩
theorem rowP_mono {w : World} {B B' : Nat} {e : TypeId} {sz n : Nat} {v : Value} {xs : List Value} (h : w.ownsRow B e sz v n xs) (hb : B' ≤ B) : w.ownsRow B' e sz v n xs := by
  refine ⟨h.1, ?_⟩
  rcases h.2 with h0 | ⟨g, cap, cur, e1, h2, rest⟩
  · exact .inl h0
  · exact .inr ⟨g, cap, cur, e1, Nat.le_trans hb h2, rest⟩
theorem rowP_cap {w : World} {B : Nat} {e : TypeId} {sz n n' : Nat} {ao : Option Addr} {cap : Nat} {xs : List Value} (h : w.ownsRow B e sz (.slice ao n' cap) n xs) : n ≤ cap ∧ cap ≤ maxLen := by
  rcases h.2 with ⟨e1, e2⟩ | ⟨g, c, cur, e1, _, _, h3, h4, _⟩
  · cases e1
    exact ⟨by omega, Nat.zero_le _⟩
  · cases e1
    exact ⟨h3, h4⟩
end Go.Proofs.YtoefibkhlhmlfaaGreat
