/-
  What this seat's claims lean on of the texts SibMem, RefDcode3, VcB.
  Conditions: as each theorem states.
-/
import Derived.WalkKit
import Derived.ProofKit
import Derived.Below
import Derived.Deep.Draws
import Derived.Deep.RegionHeld
import Derived.Test.YtoefibkhlhmlfaaGreatChecked
import Derived.OpenShut
import Derived.ShutString
import Derived.WalkSpells
import Derived.WalkLawsBesides
import Derived.Deep.QuietTactic
import Derived.BigQuiet
import Derived.Laws.Bits64b
import Derived.PlainAid
import Derived.Lib.AppendStr
import Derived.Deep.AppendLies
import Derived.Laws.IdiomStrings
import Derived.Laws.BytesArg
import Derived.Deep.RegionWith
import Derived.Laws.AppendOwn
import Derived.Deep.DeepAppendWide
import Derived.Deep.Upon
import Derived.Laws.Rows
import Derived.Test.YtoefibkhlhmlfaaGreatY13
import Derived.Test.YtoefibkhlhmlfaaGreatY12
import Derived.Test.YtoefibkhlhmlfaaGreatY23
import Derived.Deep.Slices
import Derived.Test.YtoefibkhlhmlfaaGreatY25
namespace Go.Proofs.YtoefibkhlhmlfaaGreat
open Go.RowKit
structure FitsS (x : Sb) : Prop where
  clk : FitsK x.k
  prs : FitsP x.m
  val : x.v.size ≤ maxLen
structure SibIn (w : World) (vo po : Option Addr) (pc : Nat) (x : Sb) : Prop where
  ens : EnsAt w vo x.k.c
  prs : PrsAt w po x.m
  room : CapP x.m pc
theorem SibIn.keep0 {w w' : World} {vo po : Option Addr} {pc : Nat} {x : Sb} (h : SibIn w vo po pc x) (K : Keep0 w w') : SibIn w' vo po pc x := ⟨h.ens.keep0 K, h.prs.keep0 K, h.room⟩
structure SibAt (w : World) (b off : Nat) (x : Sb) (vo : Option Addr) (vc : Nat) (po : Option Addr) (pc : Nat) : Prop where
  c0 : w.cell? ⟨b, off, none⟩ = some (.slice vo x.k.c.length vc)
  c1 : w.cell? ⟨b, off + 1, none⟩ = some (.bool x.k.d)
  c2 : w.cell? ⟨b, off + 2, none⟩ = some (.string x.k.x.a)
  c3 : w.cell? ⟨b, off + 3, none⟩ = some (.int .u64 (x.k.x.n : Int))
  c4 : w.cell? ⟨b, off + 4, none⟩ = some (.slice po x.m.length pc)
  c5 : w.cell? ⟨b, off + 5, none⟩ = some (.bool x.d)
  c6 : w.cell? ⟨b, off + 6, none⟩ = some (.string x.v)
theorem SibAt.keep {R : Nat → Prop} {w w' : World} {b off : Nat} {x : Sb} {vo po : Option Addr} {vc pc : Nat} (h : SibAt w b off x vo vc po pc) (K : Keep R w w') (hn : ¬ R b) : SibAt w' b off x vo vc po pc :=
  ⟨K.cell h.c0 hn, K.cell h.c1 hn, K.cell h.c2 hn, K.cell h.c3 hn, K.cell h.c4 hn, K.cell h.c5 hn, K.cell h.c6 hn⟩
theorem SibAt.keep0 {w w' : World} {b off : Nat} {x : Sb} {vo po : Option Addr} {vc pc : Nat} (h : SibAt w b off x vo vc po pc) (K : Keep0 w w') : SibAt w' b off x vo vc po pc := h.keep K (fun f => f)
theorem sib_new (w : World) (t : TypeId) (x : Sb) (vo : Option Addr) (vc : Nat) (po : Option Addr) (pc : Nat) : SibAt (w.alloc (.cells #[.slice vo x.k.c.length vc, .bool x.k.d, .string x.k.x.a, .int .u64 (x.k.x.n : Int), .slice po x.m.length pc, .bool x.d, .string x.v] t)) w.heap.size 0 x vo vc po pc :=
  ⟨cell_alloc w t rfl, cell_alloc w t rfl, cell_alloc w t rfl, cell_alloc w t rfl, cell_alloc w t rfl, cell_alloc w t rfl, cell_alloc w t rfl⟩
def SibsAt (w : World) (ao : Option Addr) (l : List Sb) : Prop := ∀ i (_ : i < l.length), ∃ b off vo vc po pc, ao = some ⟨b, off, none⟩ ∧ SibAt w b (off + i * 7) l[i] vo vc po pc ∧ SibIn w vo po pc l[i]
theorem SibsAt.keep0 {w w' : World} {ao : Option Addr} {l : List Sb} (h : SibsAt w ao l) (K : Keep0 w w') : SibsAt w' ao l := by
  intro i hi
  obtain ⟨b, off, vo, vc, po, pc, e, h1, h2⟩ := h i hi
  exact ⟨b, off, vo, vc, po, pc, e, h1.keep0 K, h2.keep0 K⟩
structure SAt (w : World) (g : Nat) (v0 v1 v2 v3 v4 v5 v6 : Value) : Prop where
  blk : ∃ ty, w.heap[g]? = some (.cells #[v0, v1, v2, v3, v4, v5, v6] ty)
section
variable {w : World} {g : Nat} {v0 v1 v2 v3 v4 v5 v6 : Value}
theorem SAt.lt (h : SAt w g v0 v1 v2 v3 v4 v5 v6) : g < w.heap.size := by
  obtain ⟨ty, hk⟩ := h.blk
  exact (Array.getElem?_eq_some_iff.mp hk).1
theorem SAt.cells (h : SAt w g v0 v1 v2 v3 v4 v5 v6) : w.cell? ⟨g, 0, none⟩ = some v0 ∧ w.cell? ⟨g, 1, none⟩ = some v1 ∧ w.cell? ⟨g, 2, none⟩ = some v2 ∧ w.cell? ⟨g, 3, none⟩ = some v3 ∧ w.cell? ⟨g, 4, none⟩ = some v4 ∧ w.cell? ⟨g, 5, none⟩ = some v5 ∧ w.cell? ⟨g, 6, none⟩ = some v6 ∧ w.frozen? ⟨g, 0, none⟩ = false ∧ w.frozen? ⟨g, 1, none⟩ = false ∧ w.frozen? ⟨g, 2, none⟩ = false ∧ w.frozen? ⟨g, 3, none⟩ = false ∧ w.frozen? ⟨g, 4, none⟩ = false ∧ w.frozen? ⟨g, 5, none⟩ = false ∧ w.frozen? ⟨g, 6, none⟩ = false := by
  obtain ⟨ty, hk⟩ := h.blk
  simp [World.cell?, World.frozen?, hk]
theorem SAt.keep {R : Nat → Prop} {w' : World} (h : SAt w g v0 v1 v2 v3 v4 v5 v6) (K : Keep R w w') (hn : ¬ R g) : SAt w' g v0 v1 v2 v3 v4 v5 v6 := by
  obtain ⟨ty, hk⟩ := h.blk
  exact ⟨ty, by rw [K.block g h.lt hn]; exact hk⟩
theorem SAt.keep0 {w' : World} (h : SAt w g v0 v1 v2 v3 v4 v5 v6) (K : Keep0 w w') : SAt w' g v0 v1 v2 v3 v4 v5 v6 := h.keep K (fun f => f)
theorem SAt.new (w : World) (ty : TypeId) (v0 v1 v2 v3 v4 v5 v6 : Value) : SAt (w.alloc (.cells #[v0, v1, v2, v3, v4, v5, v6] ty)) w.heap.size v0 v1 v2 v3 v4 v5 v6 := ⟨ty, (MapKept.heap_alloc w _).1⟩
theorem SAt.set0 (h : SAt w g v0 v1 v2 v3 v4 v5 v6) (u : Value) : SAt (w.setCell ⟨g, 0, none⟩ u) g u v1 v2 v3 v4 v5 v6 := by
  obtain ⟨ty, hk⟩ := h.blk
  exact ⟨ty, by rw [heap_setCell_at hk]; rfl⟩
theorem SAt.set1 (h : SAt w g v0 v1 v2 v3 v4 v5 v6) (u : Value) : SAt (w.setCell ⟨g, 1, none⟩ u) g v0 u v2 v3 v4 v5 v6 := by
  obtain ⟨ty, hk⟩ := h.blk
  exact ⟨ty, by rw [heap_setCell_at hk]; rfl⟩
theorem SAt.set2 (h : SAt w g v0 v1 v2 v3 v4 v5 v6) (u : Value) : SAt (w.setCell ⟨g, 2, none⟩ u) g v0 v1 u v3 v4 v5 v6 := by
  obtain ⟨ty, hk⟩ := h.blk
  exact ⟨ty, by rw [heap_setCell_at hk]; rfl⟩
theorem SAt.set3 (h : SAt w g v0 v1 v2 v3 v4 v5 v6) (u : Value) : SAt (w.setCell ⟨g, 3, none⟩ u) g v0 v1 v2 u v4 v5 v6 := by
  obtain ⟨ty, hk⟩ := h.blk
  exact ⟨ty, by rw [heap_setCell_at hk]; rfl⟩
theorem SAt.set4 (h : SAt w g v0 v1 v2 v3 v4 v5 v6) (u : Value) : SAt (w.setCell ⟨g, 4, none⟩ u) g v0 v1 v2 v3 u v5 v6 := by
  obtain ⟨ty, hk⟩ := h.blk
  exact ⟨ty, by rw [heap_setCell_at hk]; rfl⟩
theorem SAt.set5 (h : SAt w g v0 v1 v2 v3 v4 v5 v6) (u : Value) : SAt (w.setCell ⟨g, 5, none⟩ u) g v0 v1 v2 v3 v4 u v6 := by
  obtain ⟨ty, hk⟩ := h.blk
  exact ⟨ty, by rw [heap_setCell_at hk]; rfl⟩
theorem SAt.set6 (h : SAt w g v0 v1 v2 v3 v4 v5 v6) (u : Value) : SAt (w.setCell ⟨g, 6, none⟩ u) g v0 v1 v2 v3 v4 v5 u := by
  obtain ⟨ty, hk⟩ := h.blk
  exact ⟨ty, by rw [heap_setCell_at hk]; rfl⟩
theorem SAt.put (h : SAt w g v0 v1 v2 v3 v4 v5 v6) (u0 u1 u2 u3 u4 u5 u6 : Value) : SAt (((((((w.setCell ⟨g, 0, none⟩ u0).setCell ⟨g, 1, none⟩ u1).setCell ⟨g, 2, none⟩ u2).setCell ⟨g, 3, none⟩ u3).setCell ⟨g, 4, none⟩ u4).setCell ⟨g, 5, none⟩ u5).setCell ⟨g, 6, none⟩ u6) g u0 u1 u2 u3 u4 u5 u6 := (((((((h.set0 u0).set1 u1).set2 u2).set3 u3).set4 u4).set5 u5).set6 u6)
end
theorem put7_keep (w : World) (g : Nat) (u0 u1 u2 u3 u4 u5 u6 : Value) : Keep1 g w (((((((w.setCell ⟨g, 0, none⟩ u0).setCell ⟨g, 1, none⟩ u1).setCell ⟨g, 2, none⟩ u2).setCell ⟨g, 3, none⟩ u3).setCell ⟨g, 4, none⟩ u4).setCell ⟨g, 5, none⟩ u5).setCell ⟨g, 6, none⟩ u6) :=
  (((((((Keep.refl _ w).set1 _ _).set1 _ _).set1 _ _).set1 _ _).set1 _ _).set1 _ _).set1 _ _
theorem retSb {fn : Func} {p : Tmp} (h : fn.results = #[.cell p 61]) (tmps : Array Value) (w : World) (g : Nat) {v0 v1 v2 v3 v4 v5 v6 : Value}
    (hp : tmps.getD p undef = .pointer (some ⟨g, 0, none⟩)) (hg : SAt w g v0 v1 v2 v3 v4 v5 v6) : (results fn tmps).run Tryz.prog w = .ok (.agg #[v0, v1, v2, v3, v4, v5, v6]) w := by
  obtain ⟨ty, hk⟩ := hg.blk
  exact results_cell_row h tmps w g ty _ _ _ hp hk Tryz.underlying61 rfl (by kernel_rfl)
end Go.Proofs.YtoefibkhlhmlfaaGreat
namespace Go.Proofs.YtoefibkhlhmlfaaGreat
open Go.RowKit
def RClkE (p : Ck × Int) (w : World) (e : Ending) (w' : World) : Prop := ∃ ao cap, e = .returned (.tuple #[.agg #[.slice ao p.1.c.length cap, .bool p.1.d, .string p.1.x.a, .int .u64 (p.1.x.n : Int)], .int .i64 p.2]) ∧ EnsAt w' ao p.1.c ∧ (∀ g off m, ao = some ⟨g, off, m⟩ → w.heap.size ≤ g) ∧ Keep0 w w'
theorem RClkE.bare {p : Ck × Int} {w w' : World} {e : Ending} {E : Int} (hp : p = (zCk, E)) (h : e = .returned (.tuple #[.agg #[.slice none 0 0, .bool false, .string ⟨#[]⟩, .int .u64 0], .int .i64 E])) (h3 : Keep0 w w') : RClkE p w e w' := by
  subst hp
  exact ⟨none, 0, h, ens_nil _ _, (fun _ _ _ e => by cases e), h3⟩
theorem RClkE.mk {p : Ck × Int} {w w' : World} {e : Ending} {K : Ck} {ao : Option Addr} {cap : Nat} (hp : p = (K, 0)) (h : e = .returned (.tuple #[.agg #[.slice ao K.c.length cap, .bool K.d, .string K.x.a, .int .u64 (K.x.n : Int)], .int .i64 0])) (h1 : EnsAt w' ao K.c) (h2 : ∀ g off m, ao = some ⟨g, off, m⟩ → w.heap.size ≤ g) (h3 : Keep0 w w') : RClkE p w e w' := by
  subst hp
  exact ⟨ao, cap, h, h1, h2, h3⟩
end Go.Proofs.YtoefibkhlhmlfaaGreat
namespace Go.Proofs.YtoefibkhlhmlfaaGreat
open Go.RowKit
theorem bput_one11 {w : World} {b r : Nat} {t : ByteArray} {M x : Int} (h : Pen w b r t M x) (m : Int) (hm : m ≤ 9223372036854775807) (s : ByteArray) (hs : s.size ≤ maxLen) (hfit : t.size + s.size + 10 ≤ 140737488355000) (ty : TypeId) (n : Nat) (hn : n = w.heap.size) :
    Calls Tryz.prog 72 #[pptr b, .int .i64 m, .slice (some ⟨n, 0, none⟩) 1 1] (w.alloc (.cells #[.string s] ty)) fun e w' => e = .returned (.tuple #[]) ∧ PenAfter w w' b r M (wPut M m (t, x) s) := by
  subst hn
  have k0 : Keep0 w (w.alloc (.cells #[.string s] ty)) := (Keep.refl _ w).alloc _
  have l1 := h.lt
  have l2 := h.rlt
  refine (bput_any (h.keep0 k0) m hm (some ⟨w.heap.size, 0, none⟩) 1 [s] (by unfold maxLen; simp) (by simpa using hs) ?_ (.inl (by simpa using hfit))).mono ?_
  · intro k hk
    obtain rfl : k = 0 := by simpa using hk
    exact ⟨w.heap.size, 0, rfl, cell_alloc w ty rfl, by omega, by omega⟩
  · rintro e w' ⟨rfl, h1⟩
    exact ⟨rfl, PenAfter.trans k0.any (.inl rfl) h1⟩
set_option maxRecDepth 100000 in
set_option maxHeartbeats 4000000 in
theorem pput11 {w : World} {b r : Nat} {t : ByteArray} {M x : Int} (h : Pen w b r t M x) (ht : t.size ≤ 1000000000) (ao : Option Addr) (cap : Nat) (l : List En) (h64 : l.length ≤ 64) (hg : ∀ y ∈ l, y.a.size ≤ 32 ∧ U64 y.n) (hc : EnsAt w ao l) (hn : 0 < l.length → ApartE (two b r) ao) :
    Calls Tryz.prog 187 #[pptr b, .slice ao l.length cap] w fun e w' => e = .returned (.tuple #[]) ∧ PenAfter w w' b r M (pEnts M (pOne M (t, x) (vText l.length)) l) := by
  have HC : Hid (EnsAt w ao l) := hc
  have HG : Hid (∀ y ∈ l, y.a.size ≤ 32 ∧ U64 y.n) := hg
  have HN : Hid (0 < l.length → ApartE (two b r) ao) := hn
  have hl' : (l.length : Int) ≤ 9223372036854775807 := by omega
  have yp := pcount6_any 64 l.length (by decide) hl' h (by omega)
  have q : wCount M 64 (t, x) (l.length : Int) = pOne M (t, x) (vText l.length) := by
    unfold wCount
    have hp : pMax 64 = 64 := rfl
    rw [if_neg (by omega), hp, if_pos (by omega)]
    rfl
  rw [q] at yp
  have hs1 := pOne_size M (t, x) (vText l.length)
  have hs2 := (vText_le (n := l.length) (by omega)).2
  have HT : Hid ((pOne M (t, x) (vText l.length)).1.size ≤ t.size + 10) := by show _ ≤ _; have : (t, x).1.size = t.size := rfl; omega
  obtain ⟨P, hP⟩ : ∃ P, pOne M (t, x) (vText l.length) = P := ⟨_, rfl⟩
  rw [hP] at yp HT ⊢
  obtain ⟨R, hR⟩ : ∃ R, pEnts M P l = R := ⟨_, rfl⟩
  rw [hR]
  have HR : Hid (pEnts M P l = R) := hR
  have hbl := h.lt
  have hrl := h.rlt
  have HB : Hid (∀ W r' , Pen W b r' R.1 M R.2 → Keep (two b r) w W → (r' = r ∨ w.heap.size ≤ r') → PenAfter w W b r M R) := fun W r' h1 h2 h3 => ⟨r', h1, h2, h3⟩
  clear hP hs1 hs2 hg hc hn hR q h
  generalize hB : w.heap.size = B at *
  go_enter Tryz.func187, Tryz.ntmps187
  go_wp2_with fail
  refine yp.mono ?_
  rintro e w1 ⟨rfl, r1, h1, k1, hr1⟩
  clear yp
  go_wp2_with fail
  go_loopw [12] (fun i wr => ∃ (k : Nat) (r' : Nat), i = .int .i64 (k : Int) ∧ k ≤ l.length ∧ Pen wr b r' (pEnts M P (l.take k)).1 M (pEnts M P (l.take k)).2 ∧ (r' = r ∨ B ≤ r') ∧ Keep (two b r) w wr) (fun i _ => l.length - (intOf i).toNat)
  case atStart => exact ⟨0, r1, rfl, by omega, h1, by rw [hB] at hr1; exact hr1, k1⟩
  case round =>
    obtain ⟨k, r', rfl, hk, hp, hr', hK⟩ := hrel
    clear h1 k1 hr1
    by_cases hlt : k < l.length
    · have i1 : (k : Int) < l.length := by omega
      have hap := HN.out (by omega)
      obtain ⟨b0, off, e0, x0', x1'⟩ := HC.out k hlt
      have hbB := World.block_lt_of_cell? w _ x0'
      simp only at hbB
      subst e0
      have hbb := hap _ _ _ rfl
      have x0 := hK.cell x0' hbb
      have x1 := hK.cell x1' hbb
      clear x0' x1'
      obtain ⟨hy, hyn⟩ := HG.out l[k] (List.getElem_mem hlt)
      have hsz := pEnts_size M (l.take k) P (fun y hy => HG.out y (List.mem_of_mem_take hy))
      rw [List.length_take, Nat.min_eq_left (by omega)] at hsz
      have hT := HT.out
      have HS : Hid (pEnts M P (l.take (k + 1)) = pEnt M (pEnts M P (l.take k)) l[k]) := pEnts_take hlt
      have hws := wPut_size M 32 (pEnts M P (l.take k)) l[k].a (by omega)
      -- the entry's copy
      have kA : Keep0 wr (wr.alloc (.cells #[.string l[k].a, .int .u64 (l[k].n : Int)] 53)) := (Keep.refl _ wr).alloc _
      have hpA := hp.keep0 kA
      have KA := hK.step0 kA
      have xA := en_new wr 53 l[k]
      obtain ⟨gA, oA, eA, yA0, yA1⟩ := xA 0 (by show 0 < 1; decide)
      cases eA
      have zA : (wr.alloc (.cells #[.string l[k].a, .int .u64 (l[k].n : Int)] 53)).heap.size = wr.heap.size + 1 := World.size_alloc _ _
      have lb := hp.lt
      have lr := hp.rlt
      have yA1 : (wr.alloc (.cells #[.string l[k].a, .int .u64 (l[k].n : Int)] 53)).cell? ⟨wr.heap.size, 1, none⟩ = some (.int .u64 (l[k].n : Int)) := yA1
      have yb := bput_one11 hpA 32 (by decide) l[k].a (by unfold maxLen; omega) (by omega) 9 (wr.heap.size + 1) zA.symm
      have hE : ((pEnts M P (l.take k)).1, (pEnts M P (l.take k)).2) = pEnts M P (l.take k) := rfl
      rw [hE] at yb
      have yn := fun W r2 (h : Pen W b r2 (wPut M 32 (pEnts M P (l.take k)) l[k].a).1 M (wPut M 32 (pEnts M P (l.take k)) l[k].a).2) => vput_one h l[k].n hyn (by omega) 51
      have hE2 : ((wPut M 32 (pEnts M P (l.take k)) l[k].a).1, (wPut M 32 (pEnts M P (l.take k)) l[k].a).2) = wPut M 32 (pEnts M P (l.take k)) l[k].a := rfl
      rw [hE2] at yn
      have hE3 : pOne M (wPut M 32 (pEnts M P (l.take k)) l[k].a) (vText l[k].n) = pEnt M (pEnts M P (l.take k)) l[k] := rfl
      rw [hE3, ← HS.out] at yn
      obtain ⟨P2, hP2⟩ : ∃ P2, pEnts M P (l.take (k + 1)) = P2 := ⟨_, rfl⟩
      rw [hP2] at yn
      have HS2 : Hid (pEnts M P (l.take (k + 1)) = P2) := hP2
      have z1 := KA.size
      rw [zA, hB] at z1
      clear hP2 HS hap yA0 xA hE hE2 hE3 hws hsz hT hy hyn kA hp hK
      generalize wPut M 32 (pEnts M P (l.take k)) l[k].a = P1 at *
      generalize pEnts M P (l.take k) = P0 at *
      generalize l[k].a = A at *
      generalize (l[k].n : Int) = NN at *
      go_wp2_with fail
      generalize wr.alloc (.cells #[.string A, .int .u64 NN] 53) = WA at *
      generalize wr.heap.size = G at *
      clear wr x0 x1
      refine yb.mono ?_
      rintro e w3 ⟨rfl, r3, h3, k3, hr3⟩
      have y1 := k3.cell yA1 (by show ¬ two b r' G; unfold two; omega)
      have K3 : Keep (two b r) w w3 := KA.step k3 (fun i hi hh => by unfold two at hh ⊢; omega)
      have hr3' : r3 = r ∨ B ≤ r3 := by omega
      have z3 := k3.size
      have yn := yn _ _ h3
      have l3 := h3.lt
      have l3r := h3.rlt
      clear yb k3 KA h3 yA1 hpA
      go_wp2_with fail
      refine yn.mono ?_
      rintro e w4 ⟨rfl, r4, h4, k4, hr4⟩
      have K4 : Keep (two b r) w w4 := K3.step k4 (fun i hi hh => by unfold two at hh ⊢; omega)
      have hr4' : r4 = r ∨ B ≤ r4 := by omega
      clear yn k4 K3 y1
      go_wp2
      go_roundw
      case rel => exact ⟨k + 1, r4, by go_num, by omega, by rw [HS2.out]; exact h4, hr4', K4⟩
      case measure => simp [intOf]; omega
    · have i1 : ¬ (k : Int) < l.length := by omega
      have ek : l.take k = l := List.take_of_length_le (by omega)
      rw [ek, HR.out] at hp
      go_wp2
      go_end0
      exact ⟨rfl, HB.out _ _ hp hK hr'⟩
def VecsBy (w : World) (b r : Nat) (ao : Option Addr) (ls : List (List En)) : Prop := ∀ i (_ : i < ls.length), ∃ bb off bo c, ao = some ⟨bb, off, none⟩ ∧ ¬ two b r bb ∧ w.cell? ⟨bb, off + i, none⟩ = some (.slice bo ls[i].length c) ∧ EnsAt w bo ls[i] ∧ (0 < ls[i].length → ApartE (two b r) bo)
set_option maxRecDepth 100000 in
set_option maxHeartbeats 4000000 in
theorem put11g {w : World} {b r : Nat} {t : ByteArray} {M x : Int} (ao : Option Addr) (cap : Nat) (ls : List (List En)) (h : Pen w b r t M x) (ht : t.size ≤ 900000000) (hls : ls.length ≤ 100) (hok : ∀ l ∈ ls, Ok11 l) (hc : VecsBy w b r ao ls) :
    Calls Tryz.prog 184 #[pptr b, .slice ao ls.length cap] w fun e w' => e = .returned (.tuple #[]) ∧ ∃ r', Pen w' b r' (pVecs M (t, x) ls).1 M (pVecs M (t, x) ls).2 ∧ Keep (fun k => k = b ∨ k = r) w w' ∧ (r' = r ∨ w.heap.size ≤ r') := by
  have HC : Hid (VecsBy w b r ao ls) := hc
  have HO : Hid (∀ l ∈ ls, Ok11 l) := hok
  have HL : Hid (ls.length ≤ 100) := hls
  have hl' : (ls.length : Int) ≤ 9223372036854775807 := by omega
  obtain ⟨R, hR⟩ : ∃ R, pVecs M (t, x) ls = R := ⟨_, rfl⟩
  rw [hR]
  have HR : Hid (pVecs M (t, x) ls = R) := hR
  have HB : Hid (∀ W r', Pen W b r' R.1 M R.2 → Keep (two b r) w W → (r' = r ∨ w.heap.size ≤ r') → ∃ r', Pen W b r' R.1 M R.2 ∧ Keep (fun k => k = b ∨ k = r) w W ∧ (r' = r ∨ w.heap.size ≤ r')) := fun W r' h1 h2 h3 => ⟨r', h1, h2, h3⟩
  have hs0 : Hid (∀ k, k ≤ ls.length → (pVecs M (t, x) (ls.take k)).1.size ≤ t.size + 3338 * k) := by
    intro k
    induction k with
    | zero => intro _; exact Nat.le_refl _
    | succ k ih =>
      intro hk
      have h1 := ih (by omega)
      rw [pVecs_take (by omega)]
      have h2 := pVec_size M (pVecs M (t, x) (ls.take k)) (v := ls[k]'(by omega)) (fun y hy => ((hok _ (List.getElem_mem (by omega))).2 y hy).2)
      omega
  clear hc hok hR
  generalize hB : w.heap.size = B at *
  go_enter Tryz.func184, Tryz.ntmps184
  go_wp2_with fail
  go_loopw [8] (fun i wr => ∃ (k : Nat) (r' : Nat), i = .int .i64 (k : Int) ∧ k ≤ ls.length ∧ Pen wr b r' (pVecs M (t, x) (ls.take k)).1 M (pVecs M (t, x) (ls.take k)).2 ∧ (r' = r ∨ B ≤ r') ∧ Keep (two b r) w wr) (fun i _ => ls.length - (intOf i).toNat)
  case atStart => exact ⟨0, r, rfl, by omega, h, .inl rfl, Keep.refl _ _⟩
  case round =>
    obtain ⟨k, r', rfl, hk2, hp, hr', hK⟩ := hrel
    clear h
    by_cases hlt : k < ls.length
    · have i1 : (k : Int) < ls.length := by omega
      obtain ⟨bb, off, bo, c, e0, hap, x0', y0', hn0⟩ := HC.out k hlt
      subst e0
      have x0 := hK.cell x0' hap
      have y0 : EnsAt wr bo ls[k] := by
        by_cases hz : 0 < ls[k].length
        · exact y0'.keep hK (hn0 hz)
        · exact fun i hi => absurd hi (by omega)
      have hold : 0 < (ls[k]).length → ∀ g off m, bo = some ⟨g, off, m⟩ → ¬ two b r g ∧ g < B := fun h g off m e => ⟨hn0 h g off m e, by have := ens_old y0' h g off m e; omega⟩
      have HS := hs0.out k (by omega)
      have hL := HL.out
      have hokk := HO.out ls[k] (List.getElem_mem hlt)
      have yc := check10 wr bo c ls[k] hokk y0
      have hE : ((pVecs M (t, x) (ls.take k)).1, (pVecs M (t, x) (ls.take k)).2) = pVecs M (t, x) (ls.take k) := rfl
      clear x0' y0' hn0
      have zr := hK.size
      rw [hB] at zr
      have HH : Hid (0 < (ls[k]).length → ∀ g off m, bo = some ⟨g, off, m⟩ → ¬ two b r g ∧ g < B) := hold
      by_cases hx : pFail (pVecs M (t, x) (ls.take k)).2 (vCheck ls[k]) = 0
      · obtain ⟨hx0, hv⟩ : (pVecs M (t, x) (ls.take k)).2 = 0 ∧ vCheck ls[k] = 0 := by
          unfold pFail at hx
          by_cases h0 : (pVecs M (t, x) (ls.take k)).2 = 0
          · rw [if_pos h0] at hx; exact ⟨h0, hx⟩
          · rw [if_neg h0] at hx; exact absurd hx h0
        have hS := pVecs_take (M := M) (p := (t, x)) hlt
        rw [pVec_yes hv] at hS
        obtain ⟨h64, hgood⟩ := (check_zero _).1 hv
        have ypp := fun W (h : Pen W b r' (pVecs M (t, x) (ls.take k)).1 M (pVecs M (t, x) (ls.take k)).2) (hc' : EnsAt W bo ls[k]) => pput11 h (by omega) bo c ls[k] (by omega) (fun y hy => ⟨(hgood.1 y hy).2.1, (hokk.2 y hy).2⟩) hc' (fun hl g off m e hh => by have := hold hl g off m e; unfold two at hh this; omega)
        rw [hE] at ypp
        rw [← hS] at ypp
        obtain ⟨P2, hP2⟩ : ∃ P2, pVecs M (t, x) (ls.take (k + 1)) = P2 := ⟨_, rfl⟩
        rw [hP2] at ypp
        have HS2 : Hid (pVecs M (t, x) (ls.take (k + 1)) = P2) := hP2
        rw [hv] at yc
        rw [hx0] at hp ypp
        have yf := fun W (h : Pen W b r' (pVecs M (t, x) (ls.take k)).1 M 0) => pfail_any 0 h
        have hpf : pFail 0 0 = 0 := rfl
        rw [hpf] at yf
        clear hpf hP2 hS hE hx hx0 hv hgood h64 hokk HS hold
        generalize (pVecs M (t, x) (ls.take k)).1 = T0 at *
        generalize ls[k] = L at *
        go_wp2_with fail
        refine yc.mono ?_
        rintro e w1 ⟨rfl, k1⟩
        have h1 := hp.keep0 k1
        have y1 := y0.keep0 k1
        have K1 := hK.step0 k1
        have z1 := k1.size
        have yf := yf _ h1
        have lr := hp.rlt
        clear yc k1 hK hp y0 x0
        go_wp2_with fail
        refine yf.mono ?_
        rintro e w2 ⟨rfl, h2, k2⟩
        have z2 := k2.size
        have K2 : Keep (two b r) w w2 := K1.step k2 (fun i hi hh => Or.inl hh)
        have ye := perr_any h2
        have y2 : EnsAt w2 bo L := by
          by_cases hz : 0 < L.length
          · exact y1.keep k2 (fun g off m e hh => by have := HH.out hz g off m e; unfold two at this; omega)
          · exact fun i hi => absurd hi (by omega)
        have ypp := ypp _ h2 y2
        clear yf k2 K1 h1 y1 y2
        go_wp2_with fail
        refine ye.mono ?_
        rintro e w2' ⟨rfl, rfl⟩
        clear ye
        go_wp2_with fail
        refine ypp.mono ?_
        rintro e w3 ⟨rfl, r3, h3, k3, hr3⟩
        have K3 : Keep (two b r) w w3 := K2.step k3 (fun i hi hh => by unfold two at hh ⊢; omega)
        have hr3' : r3 = r ∨ B ≤ r3 := by omega
        clear ypp k3 K2 h2
        go_wp2
        go_roundw
        case rel => exact ⟨k + 1, r3, by go_num, by omega, by rw [HS2.out]; exact h3, hr3', K3⟩
        case measure => simp [intOf]; omega
      · have hF : R = ((pVecs M (t, x) (ls.take k)).1, pFail (pVecs M (t, x) (ls.take k)).2 (vCheck ls[k])) := by
          rw [← HR.out]
          by_cases h0 : (pVecs M (t, x) (ls.take k)).2 = 0
          · have hv : vCheck ls[k] ≠ 0 := by
              intro hv
              apply hx
              unfold pFail
              rw [if_pos h0, hv]
            exact pVecs_stop (k := k + 1) (by rw [pVecs_take hlt, pVec_no hv]) hx
          · have e : pFail (pVecs M (t, x) (ls.take k)).2 (vCheck ls[k]) = (pVecs M (t, x) (ls.take k)).2 := if_neg h0
            rw [e]
            exact pVecs_stop (k := k) rfl h0
        have HF : Hid (R = ((pVecs M (t, x) (ls.take k)).1, pFail (pVecs M (t, x) (ls.take k)).2 (vCheck ls[k]))) := hF
        have yf := fun W (h : Pen W b r' (pVecs M (t, x) (ls.take k)).1 M (pVecs M (t, x) (ls.take k)).2) => pfail_any (vCheck ls[k]) h
        have e1 : (pFail (pVecs M (t, x) (ls.take k)).2 (vCheck ls[k]) != 0) = true := by simpa using hx
        clear hF hE hokk HS hold HH
        generalize pFail (pVecs M (t, x) (ls.take k)).2 (vCheck ls[k]) = E at *
        generalize vCheck ls[k] = V at *
        generalize pVecs M (t, x) (ls.take k) = P0 at *
        generalize ls[k] = L at *
        go_wp2_with fail
        refine yc.mono ?_
        rintro e w1 ⟨rfl, k1⟩
        have h1 := hp.keep0 k1
        have K1 := hK.step0 k1
        have z1 := k1.size
        have yf := yf _ h1
        clear yc k1 hK hp y0 x0
        go_wp2_with fail
        refine yf.mono ?_
        rintro e w2 ⟨rfl, h2, k2⟩
        have K2 : Keep (two b r) w w2 := K1.step k2 (fun i hi hh => Or.inl hh)
        have ye := perr_any h2
        clear yf k2 K1 h1
        go_wp2_with fail
        refine ye.mono ?_
        rintro e w2' ⟨rfl, rfl⟩
        clear ye
        go_wp2
        (try simp only [Exit.inBlock, Exit.then])
        refine bodyPost_ret (results_none rfl _ _ _) rfl ?_
        exact ⟨rfl, HB.out _ _ (by rw [HF.out]; exact h2) K2 hr'⟩
    · have i1 : ¬ (k : Int) < ls.length := by omega
      have ek : ls.take k = ls := List.take_of_length_le (by omega)
      rw [ek, HR.out] at hp
      go_wp2
      go_end0
      exact ⟨rfl, HB.out _ _ hp hK hr'⟩
end Go.Proofs.YtoefibkhlhmlfaaGreat
