/-
  What this seat's claims lean on of the texts VecB, SibMem.
  Conditions: as each theorem states.
-/
import Derived.Test.YtmllchembkpdkaaChecked
import Derived.WalkKit
import Derived.ProofKit
import Derived.Below
import Derived.Deep.Draws
import Derived.Deep.RegionHeld
import Derived.OpenShut
import Derived.ShutString
import Derived.WalkSpells
import Derived.WalkLawsBesides
import Derived.Deep.QuietTactic
import Derived.BigQuiet
import Derived.Deep.Slices
import Derived.Laws.Bits64b
import Derived.PlainAid
import Derived.Lib.AppendStr
import Derived.Deep.AppendLies
import Derived.Laws.IdiomStrings
import Derived.Laws.BytesArg
import Derived.Deep.RegionWith
import Derived.Laws.AppendOwn
import Derived.Deep.DeepAppendWide
import Derived.Deep.Upon
import Derived.Test.YtmllchembkpdkaaZ29
import Derived.Laws.Rows
import Derived.Test.YtmllchembkpdkaaZ19
import Derived.Test.YtmllchembkpdkaaZ18
namespace Go.Proofs.Ytmllchembkpdkaa
open Go.RowKit
set_option maxRecDepth 100000 in
theorem check10 (w : World) (ao : Option Addr) (cap : Nat) (l : List En) (ok : Ok10 l) (hc : EnsAt w ao l) :
    Calls Try.prog 58 #[.slice ao l.length cap] w fun e w' => e = .returned (.int .i64 (vCheck l)) ∧ Keep0 w w' := by
  have hl := ok.1
  have hl' : (l.length : Int) ≤ 9223372036854775807 := by omega
  by_cases h64 : 64 < l.length
  · have i0 : (64 : Int) < l.length := by omega
    have e : vCheck l = 3 := if_pos h64
    rw [e]
    go_enter Try.func58, Try.ntmps58
    go_wp2
    go_ret
    exact ⟨rfl, Keep.refl _ _⟩
  · have i0 : ¬ (64 : Int) < l.length := by omega
    have e : vCheck l = cGo (prv l 0) (l.drop 0) := if_neg h64
    obtain ⟨r, hr⟩ : ∃ r, vCheck l = r := ⟨_, rfl⟩
    rw [hr]
    rw [e] at hr
    have HR : Hid (cGo (prv l 0) (l.drop 0) = r) := hr
    have HC : Hid (EnsAt w ao l) := hc
    have HF : Hid (Ok10 l) := ok
    clear hr e hc ok h64
    go_enter Try.func58, Try.ntmps58
    go_wp2_with fail
    go_loopw [10] (fun i wr => ∃ (k : Nat), i = .int .i64 (k : Int) ∧ k ≤ l.length ∧ Hid (cGo (prv l k) (l.drop k) = r) ∧ Keep0 w wr) (fun i _ => l.length - (intOf i).toNat)
    case atStart => exact ⟨0, rfl, by omega, HR, Keep.refl _ _⟩
    case round =>
      obtain ⟨k, rfl, hk, HK, hK⟩ := hrel
      by_cases hlt : k < l.length
      · have i1 : (k : Int) < l.length := by omega
        have y := checkAt10 wr ao cap l HF.out (HC.out.keep0 hK) k hlt
        have hd := HK.out
        rw [go_drop hlt] at hd
        by_cases h0 : cOne (prv l k) l[k] = 0
        · rw [if_pos h0] at hd
          rw [h0] at y
          have HD : Hid (cGo (prv l (k + 1)) (l.drop (k + 1)) = r) := hd
          clear hd HK h0
          go_wp2_with fail
          refine y.mono ?_
          rintro e w1 ⟨rfl, k1⟩
          have K1 := hK.trans k1
          clear y k1 hK
          go_wp2
          go_roundw
          case rel => exact ⟨k + 1, by go_num, by omega, HD, K1⟩
          case measure => simp [intOf]; omega
        · rw [if_neg h0] at hd
          rw [hd] at y
          have e0 : (r != 0) = true := by rw [← hd]; simpa using h0
          have e1 : ¬ r = 0 := by rw [← hd]; exact h0
          clear hd HK h0 HR
          go_wp2_with fail
          refine y.mono ?_
          rintro e w1 ⟨rfl, k1⟩
          have K1 := hK.trans k1
          clear y k1 hK
          go_wp2
          go_ret
          exact ⟨rfl, K1⟩
      · have i1 : ¬ (k : Int) < l.length := by omega
        have hd := HK.out
        rw [List.drop_eq_nil_of_le (by omega)] at hd
        have HD : Hid ((0 : Int) = r) := hd
        clear hd HK
        go_wp2
        go_ret
        exact ⟨by rw [← HD.out]; rfl, hK⟩
end Go.Proofs.Ytmllchembkpdkaa
namespace Go.Proofs.Ytmllchembkpdkaa
open Go.RowKit
structure SibIn (w : World) (vo po : Option Addr) (pc : Nat) (x : Sb) : Prop where
  ens : EnsAt w vo x.k.c
  prs : PrsAt w po x.m
  room : CapP x.m pc
theorem SibIn.keep0 {w w' : World} {vo po : Option Addr} {pc : Nat} {x : Sb} (h : SibIn w vo po pc x) (K : Keep0 w w') : SibIn w' vo po pc x := ⟨h.ens.keep0 K, h.prs.keep0 K, h.room⟩
structure SibAt (w : World) (b off : Nat) (x : Sb) (vo : Option Addr) (vc : Nat) (po : Option Addr) (pc : Nat) : Prop where
  c0 : w.cell? ⟨b, off, none⟩ = some (.slice vo x.k.c.length vc)
  c1 : w.cell? ⟨b, off + 1, none⟩ = some (.bool x.k.d)
  c2 : w.cell? ⟨b, off + 2, none⟩ = some (.string x.k.x.a)
  c3 : w.cell? ⟨b, off + 3, none⟩ = some (.int .u64 (x.k.x.n : Int))
  c4 : w.cell? ⟨b, off + 4, none⟩ = some (.slice po x.m.length pc)
  c5 : w.cell? ⟨b, off + 5, none⟩ = some (.bool x.d)
  c6 : w.cell? ⟨b, off + 6, none⟩ = some (.string x.v)
theorem SibAt.keep {R : Nat → Prop} {w w' : World} {b off : Nat} {x : Sb} {vo po : Option Addr} {vc pc : Nat} (h : SibAt w b off x vo vc po pc) (K : Keep R w w') (hn : ¬ R b) : SibAt w' b off x vo vc po pc :=
  ⟨K.cell h.c0 hn, K.cell h.c1 hn, K.cell h.c2 hn, K.cell h.c3 hn, K.cell h.c4 hn, K.cell h.c5 hn, K.cell h.c6 hn⟩
theorem SibAt.keep0 {w w' : World} {b off : Nat} {x : Sb} {vo po : Option Addr} {vc pc : Nat} (h : SibAt w b off x vo vc po pc) (K : Keep0 w w') : SibAt w' b off x vo vc po pc := h.keep K (fun f => f)
def SibsAt (w : World) (ao : Option Addr) (l : List Sb) : Prop := ∀ i (_ : i < l.length), ∃ b off vo vc po pc, ao = some ⟨b, off, none⟩ ∧ SibAt w b (off + i * 7) l[i] vo vc po pc ∧ SibIn w vo po pc l[i]
theorem SibsAt.keep0 {w w' : World} {ao : Option Addr} {l : List Sb} (h : SibsAt w ao l) (K : Keep0 w w') : SibsAt w' ao l := by
  intro i hi
  obtain ⟨b, off, vo, vc, po, pc, e, h1, h2⟩ := h i hi
  exact ⟨b, off, vo, vc, po, pc, e, h1.keep0 K, h2.keep0 K⟩
structure SAt (w : World) (g : Nat) (v0 v1 v2 v3 v4 v5 v6 : Value) : Prop where
  blk : ∃ ty, w.heap[g]? = some (.cells #[v0, v1, v2, v3, v4, v5, v6] ty)
section
variable {w : World} {g : Nat} {v0 v1 v2 v3 v4 v5 v6 : Value}
theorem SAt.lt (h : SAt w g v0 v1 v2 v3 v4 v5 v6) : g < w.heap.size := by
  obtain ⟨ty, hk⟩ := h.blk
  exact (Array.getElem?_eq_some_iff.mp hk).1
theorem SAt.cells (h : SAt w g v0 v1 v2 v3 v4 v5 v6) : w.cell? ⟨g, 0, none⟩ = some v0 ∧ w.cell? ⟨g, 1, none⟩ = some v1 ∧ w.cell? ⟨g, 2, none⟩ = some v2 ∧ w.cell? ⟨g, 3, none⟩ = some v3 ∧ w.cell? ⟨g, 4, none⟩ = some v4 ∧ w.cell? ⟨g, 5, none⟩ = some v5 ∧ w.cell? ⟨g, 6, none⟩ = some v6 ∧ w.frozen? ⟨g, 0, none⟩ = false ∧ w.frozen? ⟨g, 1, none⟩ = false ∧ w.frozen? ⟨g, 2, none⟩ = false ∧ w.frozen? ⟨g, 3, none⟩ = false ∧ w.frozen? ⟨g, 4, none⟩ = false ∧ w.frozen? ⟨g, 5, none⟩ = false ∧ w.frozen? ⟨g, 6, none⟩ = false := by
  obtain ⟨ty, hk⟩ := h.blk
  simp [World.cell?, World.frozen?, hk]
theorem SAt.keep {R : Nat → Prop} {w' : World} (h : SAt w g v0 v1 v2 v3 v4 v5 v6) (K : Keep R w w') (hn : ¬ R g) : SAt w' g v0 v1 v2 v3 v4 v5 v6 := by
  obtain ⟨ty, hk⟩ := h.blk
  exact ⟨ty, by rw [K.block g h.lt hn]; exact hk⟩
theorem SAt.keep0 {w' : World} (h : SAt w g v0 v1 v2 v3 v4 v5 v6) (K : Keep0 w w') : SAt w' g v0 v1 v2 v3 v4 v5 v6 := h.keep K (fun f => f)
theorem SAt.new (w : World) (ty : TypeId) (v0 v1 v2 v3 v4 v5 v6 : Value) : SAt (w.alloc (.cells #[v0, v1, v2, v3, v4, v5, v6] ty)) w.heap.size v0 v1 v2 v3 v4 v5 v6 := ⟨ty, (MapKept.heap_alloc w _).1⟩
theorem SAt.set0 (h : SAt w g v0 v1 v2 v3 v4 v5 v6) (u : Value) : SAt (w.setCell ⟨g, 0, none⟩ u) g u v1 v2 v3 v4 v5 v6 := by
  obtain ⟨ty, hk⟩ := h.blk
  exact ⟨ty, by rw [heap_setCell_at hk]; rfl⟩
theorem SAt.set1 (h : SAt w g v0 v1 v2 v3 v4 v5 v6) (u : Value) : SAt (w.setCell ⟨g, 1, none⟩ u) g v0 u v2 v3 v4 v5 v6 := by
  obtain ⟨ty, hk⟩ := h.blk
  exact ⟨ty, by rw [heap_setCell_at hk]; rfl⟩
theorem SAt.set2 (h : SAt w g v0 v1 v2 v3 v4 v5 v6) (u : Value) : SAt (w.setCell ⟨g, 2, none⟩ u) g v0 v1 u v3 v4 v5 v6 := by
  obtain ⟨ty, hk⟩ := h.blk
  exact ⟨ty, by rw [heap_setCell_at hk]; rfl⟩
theorem SAt.set3 (h : SAt w g v0 v1 v2 v3 v4 v5 v6) (u : Value) : SAt (w.setCell ⟨g, 3, none⟩ u) g v0 v1 v2 u v4 v5 v6 := by
  obtain ⟨ty, hk⟩ := h.blk
  exact ⟨ty, by rw [heap_setCell_at hk]; rfl⟩
theorem SAt.set4 (h : SAt w g v0 v1 v2 v3 v4 v5 v6) (u : Value) : SAt (w.setCell ⟨g, 4, none⟩ u) g v0 v1 v2 v3 u v5 v6 := by
  obtain ⟨ty, hk⟩ := h.blk
  exact ⟨ty, by rw [heap_setCell_at hk]; rfl⟩
theorem SAt.set5 (h : SAt w g v0 v1 v2 v3 v4 v5 v6) (u : Value) : SAt (w.setCell ⟨g, 5, none⟩ u) g v0 v1 v2 v3 v4 u v6 := by
  obtain ⟨ty, hk⟩ := h.blk
  exact ⟨ty, by rw [heap_setCell_at hk]; rfl⟩
theorem SAt.set6 (h : SAt w g v0 v1 v2 v3 v4 v5 v6) (u : Value) : SAt (w.setCell ⟨g, 6, none⟩ u) g v0 v1 v2 v3 v4 v5 u := by
  obtain ⟨ty, hk⟩ := h.blk
  exact ⟨ty, by rw [heap_setCell_at hk]; rfl⟩
theorem SAt.put (h : SAt w g v0 v1 v2 v3 v4 v5 v6) (u0 u1 u2 u3 u4 u5 u6 : Value) : SAt (((((((w.setCell ⟨g, 0, none⟩ u0).setCell ⟨g, 1, none⟩ u1).setCell ⟨g, 2, none⟩ u2).setCell ⟨g, 3, none⟩ u3).setCell ⟨g, 4, none⟩ u4).setCell ⟨g, 5, none⟩ u5).setCell ⟨g, 6, none⟩ u6) g u0 u1 u2 u3 u4 u5 u6 := (((((((h.set0 u0).set1 u1).set2 u2).set3 u3).set4 u4).set5 u5).set6 u6)
end
end Go.Proofs.Ytmllchembkpdkaa
