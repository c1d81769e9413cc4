/-
  What this seat's claims lean on of the texts SibMem, Open, PlMem, RefDot2.
  Conditions: as each theorem states.
-/
import Derived.WalkKit
import Derived.ProofKit
import Derived.Below
import Derived.Deep.Draws
import Derived.Deep.RegionHeld
import Derived.Test.YteonkfedgopdiaaGreatChecked
import Derived.OpenShut
import Derived.ShutString
import Derived.WalkSpells
import Derived.WalkLawsBesides
import Derived.Deep.QuietTactic
import Derived.BigQuiet
import Derived.Laws.Bits64b
import Derived.PlainAid
import Derived.Lib.AppendStr
import Derived.Deep.AppendLies
import Derived.Laws.IdiomStrings
import Derived.Laws.BytesArg
import Derived.Deep.RegionWith
import Derived.Laws.AppendOwn
import Derived.Deep.DeepAppendWide
import Derived.Deep.Upon
import Derived.Laws.Rows
import Derived.Test.YteonkfedgopdiaaGreatZ9
import Derived.Test.YteonkfedgopdiaaGreatZ12
import Derived.Test.YteonkfedgopdiaaGreatZ16
import Derived.Deep.Slices
import Derived.Test.YteonkfedgopdiaaGreatZ1
import Derived.Maps.AppendAt
import Derived.Test.YteonkfedgopdiaaGreatZ11
import Derived.Test.YteonkfedgopdiaaGreatZ13
namespace Go.Proofs.YteonkfedgopdiaaGreat
open Go.RowKit
structure FitsS (x : Sb) : Prop where
  clk : FitsK x.k
  prs : FitsP x.m
  val : x.v.size ≤ maxLen
structure SibIn (w : World) (vo po : Option Addr) (pc : Nat) (x : Sb) : Prop where
  ens : EnsAt w vo x.k.c
  prs : PrsAt w po x.m
  room : CapP x.m pc
theorem SibIn.keep0 {w w' : World} {vo po : Option Addr} {pc : Nat} {x : Sb} (h : SibIn w vo po pc x) (K : Keep0 w w') : SibIn w' vo po pc x := ⟨h.ens.keep0 K, h.prs.keep0 K, h.room⟩
structure SibAt (w : World) (b off : Nat) (x : Sb) (vo : Option Addr) (vc : Nat) (po : Option Addr) (pc : Nat) : Prop where
  c0 : w.cell? ⟨b, off, none⟩ = some (.slice vo x.k.c.length vc)
  c1 : w.cell? ⟨b, off + 1, none⟩ = some (.bool x.k.d)
  c2 : w.cell? ⟨b, off + 2, none⟩ = some (.string x.k.x.a)
  c3 : w.cell? ⟨b, off + 3, none⟩ = some (.int .u64 (x.k.x.n : Int))
  c4 : w.cell? ⟨b, off + 4, none⟩ = some (.slice po x.m.length pc)
  c5 : w.cell? ⟨b, off + 5, none⟩ = some (.bool x.d)
  c6 : w.cell? ⟨b, off + 6, none⟩ = some (.string x.v)
theorem SibAt.keep {R : Nat → Prop} {w w' : World} {b off : Nat} {x : Sb} {vo po : Option Addr} {vc pc : Nat} (h : SibAt w b off x vo vc po pc) (K : Keep R w w') (hn : ¬ R b) : SibAt w' b off x vo vc po pc :=
  ⟨K.cell h.c0 hn, K.cell h.c1 hn, K.cell h.c2 hn, K.cell h.c3 hn, K.cell h.c4 hn, K.cell h.c5 hn, K.cell h.c6 hn⟩
theorem SibAt.keep0 {w w' : World} {b off : Nat} {x : Sb} {vo po : Option Addr} {vc pc : Nat} (h : SibAt w b off x vo vc po pc) (K : Keep0 w w') : SibAt w' b off x vo vc po pc := h.keep K (fun f => f)
theorem sib_new (w : World) (t : TypeId) (x : Sb) (vo : Option Addr) (vc : Nat) (po : Option Addr) (pc : Nat) : SibAt (w.alloc (.cells #[.slice vo x.k.c.length vc, .bool x.k.d, .string x.k.x.a, .int .u64 (x.k.x.n : Int), .slice po x.m.length pc, .bool x.d, .string x.v] t)) w.heap.size 0 x vo vc po pc :=
  ⟨cell_alloc w t rfl, cell_alloc w t rfl, cell_alloc w t rfl, cell_alloc w t rfl, cell_alloc w t rfl, cell_alloc w t rfl, cell_alloc w t rfl⟩
def SibsAt (w : World) (ao : Option Addr) (l : List Sb) : Prop := ∀ i (_ : i < l.length), ∃ b off vo vc po pc, ao = some ⟨b, off, none⟩ ∧ SibAt w b (off + i * 7) l[i] vo vc po pc ∧ SibIn w vo po pc l[i]
theorem SibsAt.keep0 {w w' : World} {ao : Option Addr} {l : List Sb} (h : SibsAt w ao l) (K : Keep0 w w') : SibsAt w' ao l := by
  intro i hi
  obtain ⟨b, off, vo, vc, po, pc, e, h1, h2⟩ := h i hi
  exact ⟨b, off, vo, vc, po, pc, e, h1.keep0 K, h2.keep0 K⟩
structure SAt (w : World) (g : Nat) (v0 v1 v2 v3 v4 v5 v6 : Value) : Prop where
  blk : ∃ ty, w.heap[g]? = some (.cells #[v0, v1, v2, v3, v4, v5, v6] ty)
section
variable {w : World} {g : Nat} {v0 v1 v2 v3 v4 v5 v6 : Value}
theorem SAt.lt (h : SAt w g v0 v1 v2 v3 v4 v5 v6) : g < w.heap.size := by
  obtain ⟨ty, hk⟩ := h.blk
  exact (Array.getElem?_eq_some_iff.mp hk).1
theorem SAt.cells (h : SAt w g v0 v1 v2 v3 v4 v5 v6) : w.cell? ⟨g, 0, none⟩ = some v0 ∧ w.cell? ⟨g, 1, none⟩ = some v1 ∧ w.cell? ⟨g, 2, none⟩ = some v2 ∧ w.cell? ⟨g, 3, none⟩ = some v3 ∧ w.cell? ⟨g, 4, none⟩ = some v4 ∧ w.cell? ⟨g, 5, none⟩ = some v5 ∧ w.cell? ⟨g, 6, none⟩ = some v6 ∧ w.frozen? ⟨g, 0, none⟩ = false ∧ w.frozen? ⟨g, 1, none⟩ = false ∧ w.frozen? ⟨g, 2, none⟩ = false ∧ w.frozen? ⟨g, 3, none⟩ = false ∧ w.frozen? ⟨g, 4, none⟩ = false ∧ w.frozen? ⟨g, 5, none⟩ = false ∧ w.frozen? ⟨g, 6, none⟩ = false := by
  obtain ⟨ty, hk⟩ := h.blk
  simp [World.cell?, World.frozen?, hk]
theorem SAt.keep {R : Nat → Prop} {w' : World} (h : SAt w g v0 v1 v2 v3 v4 v5 v6) (K : Keep R w w') (hn : ¬ R g) : SAt w' g v0 v1 v2 v3 v4 v5 v6 := by
  obtain ⟨ty, hk⟩ := h.blk
  exact ⟨ty, by rw [K.block g h.lt hn]; exact hk⟩
theorem SAt.keep0 {w' : World} (h : SAt w g v0 v1 v2 v3 v4 v5 v6) (K : Keep0 w w') : SAt w' g v0 v1 v2 v3 v4 v5 v6 := h.keep K (fun f => f)
theorem SAt.new (w : World) (ty : TypeId) (v0 v1 v2 v3 v4 v5 v6 : Value) : SAt (w.alloc (.cells #[v0, v1, v2, v3, v4, v5, v6] ty)) w.heap.size v0 v1 v2 v3 v4 v5 v6 := ⟨ty, (MapKept.heap_alloc w _).1⟩
theorem SAt.set0 (h : SAt w g v0 v1 v2 v3 v4 v5 v6) (u : Value) : SAt (w.setCell ⟨g, 0, none⟩ u) g u v1 v2 v3 v4 v5 v6 := by
  obtain ⟨ty, hk⟩ := h.blk
  exact ⟨ty, by rw [heap_setCell_at hk]; rfl⟩
theorem SAt.set1 (h : SAt w g v0 v1 v2 v3 v4 v5 v6) (u : Value) : SAt (w.setCell ⟨g, 1, none⟩ u) g v0 u v2 v3 v4 v5 v6 := by
  obtain ⟨ty, hk⟩ := h.blk
  exact ⟨ty, by rw [heap_setCell_at hk]; rfl⟩
theorem SAt.set2 (h : SAt w g v0 v1 v2 v3 v4 v5 v6) (u : Value) : SAt (w.setCell ⟨g, 2, none⟩ u) g v0 v1 u v3 v4 v5 v6 := by
  obtain ⟨ty, hk⟩ := h.blk
  exact ⟨ty, by rw [heap_setCell_at hk]; rfl⟩
theorem SAt.set3 (h : SAt w g v0 v1 v2 v3 v4 v5 v6) (u : Value) : SAt (w.setCell ⟨g, 3, none⟩ u) g v0 v1 v2 u v4 v5 v6 := by
  obtain ⟨ty, hk⟩ := h.blk
  exact ⟨ty, by rw [heap_setCell_at hk]; rfl⟩
theorem SAt.set4 (h : SAt w g v0 v1 v2 v3 v4 v5 v6) (u : Value) : SAt (w.setCell ⟨g, 4, none⟩ u) g v0 v1 v2 v3 u v5 v6 := by
  obtain ⟨ty, hk⟩ := h.blk
  exact ⟨ty, by rw [heap_setCell_at hk]; rfl⟩
theorem SAt.set5 (h : SAt w g v0 v1 v2 v3 v4 v5 v6) (u : Value) : SAt (w.setCell ⟨g, 5, none⟩ u) g v0 v1 v2 v3 v4 u v6 := by
  obtain ⟨ty, hk⟩ := h.blk
  exact ⟨ty, by rw [heap_setCell_at hk]; rfl⟩
theorem SAt.set6 (h : SAt w g v0 v1 v2 v3 v4 v5 v6) (u : Value) : SAt (w.setCell ⟨g, 6, none⟩ u) g v0 v1 v2 v3 v4 v5 u := by
  obtain ⟨ty, hk⟩ := h.blk
  exact ⟨ty, by rw [heap_setCell_at hk]; rfl⟩
theorem SAt.put (h : SAt w g v0 v1 v2 v3 v4 v5 v6) (u0 u1 u2 u3 u4 u5 u6 : Value) : SAt (((((((w.setCell ⟨g, 0, none⟩ u0).setCell ⟨g, 1, none⟩ u1).setCell ⟨g, 2, none⟩ u2).setCell ⟨g, 3, none⟩ u3).setCell ⟨g, 4, none⟩ u4).setCell ⟨g, 5, none⟩ u5).setCell ⟨g, 6, none⟩ u6) g u0 u1 u2 u3 u4 u5 u6 := (((((((h.set0 u0).set1 u1).set2 u2).set3 u3).set4 u4).set5 u5).set6 u6)
end
theorem put7_keep (w : World) (g : Nat) (u0 u1 u2 u3 u4 u5 u6 : Value) : Keep1 g w (((((((w.setCell ⟨g, 0, none⟩ u0).setCell ⟨g, 1, none⟩ u1).setCell ⟨g, 2, none⟩ u2).setCell ⟨g, 3, none⟩ u3).setCell ⟨g, 4, none⟩ u4).setCell ⟨g, 5, none⟩ u5).setCell ⟨g, 6, none⟩ u6) :=
  (((((((Keep.refl _ w).set1 _ _).set1 _ _).set1 _ _).set1 _ _).set1 _ _).set1 _ _).set1 _ _
theorem retSb {fn : Func} {p : Tmp} (h : fn.results = #[.cell p 44]) (tmps : Array Value) (w : World) (g : Nat) {v0 v1 v2 v3 v4 v5 v6 : Value}
    (hp : tmps.getD p undef = .pointer (some ⟨g, 0, none⟩)) (hg : SAt w g v0 v1 v2 v3 v4 v5 v6) : (results fn tmps).run Tryz.prog w = .ok (.agg #[v0, v1, v2, v3, v4, v5, v6]) w := by
  obtain ⟨ty, hk⟩ := hg.blk
  exact results_cell_row h tmps w g ty _ _ _ hp hk Tryz.underlying44 rfl (by kernel_rfl)
end Go.Proofs.YteonkfedgopdiaaGreat
namespace Go.Proofs.YteonkfedgopdiaaGreat
open Go.RowKit Go.WideShapes Go.ChangeShapes
def Rd {H : Type} (enc : TypeId × Value → H) (w : World) (t : TypeId) (cs : List Value) : Prop :=
  ∃ fuel x, DataW.trod enc Tryz.prog w 0 (fun _ => true) true fuel t cs = some x
section
variable {H : Type} {enc : TypeId × Value → H} {w : World} {t : TypeId} {cs : List Value}
set_option maxRecDepth 100000 in
theorem rd_int {k : IntKind} (ht : Tryz.prog.underlying t = some (.int k)) (h : Rd enc w t cs) : ∃ n, cs = [.int k n] ∧ (Lit.int k n).wf = true := by
  obtain ⟨fuel, x, h⟩ := h
  obtain ⟨n, h1, _, h2⟩ := DataW.trod_int ht h
  exact ⟨n, h1, h2⟩
set_option maxRecDepth 100000 in
theorem rd_string (ht : Tryz.prog.underlying t = some .string) (h : Rd enc w t cs) : ∃ s : ByteArray, cs = [.string s] ∧ s.size ≤ maxLen := by
  obtain ⟨fuel, x, h⟩ := h
  obtain ⟨n, h1, _, h2⟩ := DataW.trod_string ht h
  exact ⟨n, h1, h2⟩
set_option maxRecDepth 100000 in
theorem rd_struct {fs : Array Field} (ht : Tryz.prog.underlying t = some (.struct fs)) (h : Rd enc w t cs) :
    cs.length = Tryz.prog.cellsOf t ∧ ∀ (i : Nat) (f : Field), fs[i]? = some f → Rd enc w f.type ((cs.drop f.offset).take (Tryz.prog.cellsOf f.type)) := by
  obtain ⟨fuel, x, h⟩ := h
  obtain ⟨xs, n, _, _, hl, hs, hf⟩ := DataW.trod_struct ht h
  refine ⟨hl, fun i f hi => ?_⟩
  have := hf i f hi
  have hlt : i < xs.length := by
    rw [hs]
    exact (Array.getElem?_eq_some_iff.1 hi).1
  rw [List.getElem?_eq_getElem hlt] at this
  exact ⟨_, _, this⟩
structure Elems (w : World) (size : Nat) (ao : Option Addr) (es : List (List Value)) : Prop where
  len : ∀ i (h : i < es.length), es[i].length = size
  cell : ∀ i (h : i < es.length), ∃ b off, ao = some ⟨b, off, none⟩ ∧ b < w.heap.size ∧ ∀ j (hj : j < es[i].length), w.cell? ⟨b, off + i * size + j, none⟩ = some es[i][j]
set_option maxRecDepth 100000 in
theorem rd_slice {e : TypeId} {size : Nat} (ht : Tryz.prog.underlying t = some (.slice e)) (hsz : Tryz.prog.cellsOf e = size) (hpos : 0 < size) (h : Rd enc w t cs) :
    ∃ ao cap es, cs = [.slice ao es.length cap] ∧ es.length ≤ maxLen ∧ Elems w size ao es ∧ ∀ x ∈ es, Rd enc w e x := by
  obtain ⟨fuel, x, h⟩ := h
  rcases Go.Deep.open_slice ht h with ⟨rfl, _⟩ | ⟨a, len, cap, m, n, D, Pl, rfl, _, hl, hm, hmm, _, hx⟩
  · exact ⟨none, 0, [], rfl, Nat.zero_le _, ⟨fun i h => absurd h (by simp), fun i h => absurd h (by simp)⟩, fun x hx => absurd hx (by simp)⟩
  · simp only [if_true] at hmm
    subst hmm
    have each : ∀ i, i < len → ∃ q : List Value, q.length = size ∧ (∀ j (hj : j < q.length), w.cell? ((a.add (i * size)).add j) = some q[j]) ∧ Rd enc w e q := by
      intro i hi
      obtain ⟨cs', h1, h2⟩ := hx i (by omega)
      obtain ⟨_, hlen, hcell⟩ := World.cells?_some h1
      rw [hsz] at hlen hcell
      exact ⟨cs', hlen, fun j hj => by rw [hcell j (by omega), List.getElem?_eq_getElem hj], ⟨_, _, h2⟩⟩
    obtain ⟨q, hq⟩ := Go.Deep.choose_lt each
    refine ⟨some a, m, (List.range len).map q, by simp, by simp; omega, ⟨fun i hi => ?_, fun i hi => ?_⟩, fun x hx => ?_⟩
    · simp at hi
      simpa using (hq i hi).1
    · simp at hi
      obtain ⟨b, off, spot⟩ := a
      obtain ⟨hl0, hc0, _⟩ := hq 0 (by omega)
      have hz := hc0 0 (by omega)
      have hspot : spot = none := by simpa [Addr.add] using World.cell?_spot hz
      subst hspot
      obtain ⟨hl1, hc1, _⟩ := hq i hi
      have hblk := World.block_lt_of_cell? w _ hz
      rw [add_plain, add_plain] at hblk
      refine ⟨b, off, rfl, hblk, fun j hj => ?_⟩
      simp at hj
      have := hc1 j hj
      rw [add_plain, add_plain] at this
      simpa using this
    · simp only [List.mem_map, List.mem_range] at hx
      obtain ⟨i, hi, rfl⟩ := hx
      exact (hq i hi).2.2
end
section
variable {H : Type} {enc : TypeId × Value → H} {w : World} {t : TypeId} {cs : List Value}
end
theorem rd_of_trod {H : Type} {enc : TypeId × Value → H} {W : World} {t : TypeId} {v : Value} {d : DataW H} {p : List MemPlace}
    (h : DataW.Trod enc Tryz.prog W 0 (fun _ => true) true t v d p) : Rd enc W t v.cells.toList := by
  obtain ⟨fuel, hf⟩ := h
  exact ⟨fuel, _, hf⟩
end Go.Proofs.YteonkfedgopdiaaGreat
namespace Go.Proofs.YteonkfedgopdiaaGreat
open Go.RowKit
structure Pl where
  x : Sb
  vo : Option Addr
  vc : Nat
  po : Option Addr
  pc : Nat
instance : Inhabited Pl := ⟨⟨zSb, none, 0, none, 0⟩⟩
def Pl.cells (p : Pl) : List Value := [.slice p.vo p.x.k.c.length p.vc, .bool p.x.k.d, .string p.x.k.x.a, .int .u64 (p.x.k.x.n : Int), .slice p.po p.x.m.length p.pc, .bool p.x.d, .string p.x.v]
def Pl.in (w : World) (p : Pl) : Prop := SibIn w p.vo p.po p.pc p.x
theorem pl_one (p : Pl) : ∀ u ∈ p.cells, u.oneCell' = true := by
  intro u hu
  simp only [Pl.cells, List.mem_cons, List.mem_nil_iff, or_false] at hu
  rcases hu with rfl | rfl | rfl | rfl | rfl | rfl | rfl <;> rfl
theorem sib_info : (Tryz.prog.info? 44).map (fun i => (i.zero, i.size, i.bytes)) = some (some (.agg #[.slice none 0 0, .bool false, .string ⟨#[]⟩, .int .u64 0, .slice none 0 0, .bool false, .string ⟨#[]⟩]), 7, 104) := by kernel_rfl
theorem plT : ElemT Pl.cells 7 22 44 where
  len := fun _ => rfl
  pos := by decide
  one := pl_one
  slice := Tryz.underlying22
  info := by
    obtain ⟨i0, hi, z0, z1, z2⟩ := info_parts sib_info
    exact ⟨i0, _, 104, hi, z0, z1, z2, rfl, by decide⟩
structure PlsAt (w : World) (ao : Option Addr) (L : List Pl) : Prop where
  row : RowAt Pl.cells 7 w ao L
  ins : ∀ p ∈ L, p.in w
theorem PlsAt.keep0 {w w' : World} {ao : Option Addr} {L : List Pl} (h : PlsAt w ao L) (K : Keep0 w w') : PlsAt w' ao L := ⟨h.row.keep0 K, fun p hp => SibIn.keep0 (h.ins p hp) K⟩
theorem PlsAt.nil (w : World) (ao : Option Addr) : PlsAt w ao [] := ⟨rowAt_nil _ _, (fun _ h => by cases h)⟩
theorem PlsAt.at_ {w : World} {ao : Option Addr} {L : List Pl} (h : PlsAt w ao L) (i : Nat) (hi : i < L.length) : ∃ b off, ao = some ⟨b, off, none⟩ ∧ SibAt w b (off + i * 7) L[i].x L[i].vo L[i].vc L[i].po L[i].pc ∧ SibIn w L[i].vo L[i].po L[i].pc L[i].x := by
  obtain ⟨b, off, e, h1⟩ := h.row i hi
  exact ⟨b, off, e, ⟨h1 0 _ rfl, h1 1 _ rfl, h1 2 _ rfl, h1 3 _ rfl, h1 4 _ rfl, h1 5 _ rfl, h1 6 _ rfl⟩, h.ins _ (List.getElem_mem hi)⟩
theorem PlsAt.sibs {w : World} {ao : Option Addr} {L : List Pl} (h : PlsAt w ao L) : SibsAt w ao (L.map Pl.x) := by
  intro i hi
  have hi' : i < L.length := by simpa using hi
  obtain ⟨b, off, e, h1, h2⟩ := h.at_ i hi'
  rw [List.getElem_map]
  exact ⟨b, off, L[i].vo, L[i].vc, L[i].po, L[i].pc, e, h1, h2⟩
theorem pl_new (w : World) (t : TypeId) (p : Pl) : RowAt Pl.cells 7 (w.alloc (.cells #[.slice p.vo p.x.k.c.length p.vc, .bool p.x.k.d, .string p.x.k.x.a, .int .u64 (p.x.k.x.n : Int), .slice p.po p.x.m.length p.pc, .bool p.x.d, .string p.x.v] t)) (some ⟨w.heap.size, 0, none⟩) [p] := by
  intro i hi
  obtain rfl : i = 0 := by simpa using hi
  refine ⟨w.heap.size, 0, rfl, fun j u hu => ?_⟩
  have h1 := sib_new w t p.x p.vo p.vc p.po p.pc
  match j, hu with
  | 0, hu => cases hu; exact h1.c0
  | 1, hu => cases hu; exact h1.c1
  | 2, hu => cases hu; exact h1.c2
  | 3, hu => cases hu; exact h1.c3
  | 4, hu => cases hu; exact h1.c4
  | 5, hu => cases hu; exact h1.c5
  | 6, hu => cases hu; exact h1.c6
  | j + 7, hu => cases hu
end Go.Proofs.YteonkfedgopdiaaGreat
namespace Go.Proofs.YteonkfedgopdiaaGreat
open Go.RowKit
def kGreat (k : Ck) : Bool := vGreat k.c || decide (100 < k.x.a.size)
set_option maxRecDepth 100000 in
set_option maxHeartbeats 4000000 in
theorem rgreat12_any (w : World) (ao : Option Addr) (cap : Nat) (c : List En) (d : Bool) (a : ByteArray) (n : Nat) (hv : Fits c) (hm : a.size ≤ maxLen) (hc : EnsAt w ao c) :
    Calls Tryz.prog 68 #[.agg #[.slice ao c.length cap, .bool d, .string a, .int .u64 (n : Int)]] w fun e w' => e = .returned (.bool (kGreat ⟨c, d, ⟨a, n⟩⟩)) ∧ Keep0 w w' := by
  have i2 : (a.size : Int) ≤ 9223372036854775807 := by unfold maxLen at hm; omega
  have kA : Keep0 w (w.alloc (.cells #[.slice ao c.length cap, .bool d, .string a, .int .u64 (n : Int)] 41)) := (Keep.refl _ w).alloc _
  have yq := rgreat10 _ ao cap c hv (hc.keep0 kA)
  have hk : kGreat ⟨c, d, ⟨a, n⟩⟩ = (vGreat c || decide (100 < a.size)) := rfl
  rw [hk]
  clear hk hm hc hv
  cases hg : vGreat c with
  | true =>
    rw [hg] at yq
    rw [Bool.true_or]
    clear hg
    generalize c.length = CL at *
    go_enter Tryz.func68, Tryz.ntmps68
    go_wp2_with fail
    refine yq.mono ?_
    rintro e w1 ⟨rfl, rfl⟩
    clear yq
    go_wp2
    go_ret
    exact ⟨rfl, kA⟩
  | false =>
    rw [hg] at yq
    rw [Bool.false_or]
    have j1 : decide ((100 : Int) < (a.size : Int)) = decide (100 < a.size) := by rw [decide_eq_decide]; omega
    clear hg
    generalize decide (100 < a.size) = r at *
    generalize c.length = CL at *
    go_enter Tryz.func68, Tryz.ntmps68
    go_wp2_with fail
    refine yq.mono ?_
    rintro e w1 ⟨rfl, rfl⟩
    clear yq
    go_wp2
    go_ret
    exact ⟨rfl, kA⟩
theorem rgreat12 (w : World) (ao : Option Addr) (cap : Nat) (k : Ck) (hf : FitsK k) (hc : EnsAt w ao k.c) :
    Calls Tryz.prog 68 #[.agg #[.slice ao k.c.length cap, .bool k.d, .string k.x.a, .int .u64 (k.x.n : Int)]] w fun e w' => e = .returned (.bool (kGreat k)) ∧ Keep0 w w' :=
  rgreat12_any w ao cap k.c k.d k.x.a k.x.n hf.vec hf.dot hc
def kSame (a b : Ck) : Bool := vSame a.c b.c && ((a.d == b.d) && decide (a.x.a = b.x.a ∧ a.x.n = b.x.n))
theorem kSame_iff {a b : Ck} : kSame a b = true ↔ a = b := by
  unfold kSame
  rw [Bool.and_eq_true, Bool.and_eq_true, vSame_iff, beq_iff_eq, decide_eq_true_iff]
  constructor
  · rintro ⟨h1, h2, h3, h4⟩
    cases a
    cases b
    congr 1
    exact En.eq h3 h4
  · rintro rfl
    exact ⟨rfl, rfl, rfl, rfl⟩
set_option maxRecDepth 100000 in
set_option maxHeartbeats 4000000 in
theorem rsame12_any (w : World) (ao bo : Option Addr) (ca cb : Nat) (c c' : List En) (d d' : Bool) (a a' : ByteArray) (n n' : Nat) (hv : c.length ≤ maxLen) (hv' : c'.length ≤ maxLen) (hc : EnsAt w ao c) (hc' : EnsAt w bo c') :
    Calls Tryz.prog 66 #[.agg #[.slice ao c.length ca, .bool d, .string a, .int .u64 (n : Int)], .agg #[.slice bo c'.length cb, .bool d', .string a', .int .u64 (n' : Int)]] w fun e w' => e = .returned (.bool (kSame ⟨c, d, ⟨a, n⟩⟩ ⟨c', d', ⟨a', n'⟩⟩)) ∧ Keep0 w w' := by
  have hk : kSame ⟨c, d, ⟨a, n⟩⟩ ⟨c', d', ⟨a', n'⟩⟩ = (vSame c c' && ((d == d') && decide (a = a' ∧ n = n'))) := rfl
  rw [hk]
  have kA : Keep0 w ((w.alloc (.cells #[.slice ao c.length ca, .bool d, .string a, .int .u64 (n : Int)] 41)).alloc (.cells #[.slice bo c'.length cb, .bool d', .string a', .int .u64 (n' : Int)] 41)) := ((Keep.refl _ w).alloc _).alloc _
  have k0 : Keep0 (w.alloc (.cells #[.slice ao c.length ca, .bool d, .string a, .int .u64 (n : Int)] 41)) ((w.alloc (.cells #[.slice ao c.length ca, .bool d, .string a, .int .u64 (n : Int)] 41)).alloc (.cells #[.slice bo c'.length cb, .bool d', .string a', .int .u64 (n' : Int)] 41)) := (Keep.refl _ _).alloc _
  have yq := rsame10 _ ao bo ca cb c c' hv hv' (hc.keep0 kA) (hc'.keep0 kA)
  obtain ⟨_, x1, x2, x3⟩ : ClkAt _ w.heap.size 0 ⟨c, d, ⟨a, n⟩⟩ ao ca := (clk_new w 41 ⟨c, d, ⟨a, n⟩⟩ ao ca).keep0 k0
  have hN := clk_new (w.alloc (.cells #[.slice ao c.length ca, .bool d, .string a, .int .u64 (n : Int)] 41)) 41 ⟨c', d', ⟨a', n'⟩⟩ bo cb
  rw [World.size_alloc] at hN
  obtain ⟨_, z1, z2, z3⟩ := hN
  clear hk hc hc' k0 hv hv'
  cases hs : vSame c c' with
  | false =>
    rw [hs] at yq
    rw [Bool.false_and]
    clear hs
    generalize c.length = CL at *
    generalize c'.length = CM at *
    go_enter Tryz.func66, Tryz.ntmps66
    go_wp2_with fail
    generalize ((w.alloc (.cells #[.slice ao CL ca, .bool d, .string a, .int .u64 (n : Int)] 41)).alloc (.cells #[.slice bo CM cb, .bool d', .string a', .int .u64 (n' : Int)] 41)) = W1 at *
    generalize w.heap.size = B at *
    refine yq.mono ?_
    rintro e w1 ⟨rfl, hw1⟩
    have k1 := keepN hw1
    have x1 := k1.cell x1 (fun f => f)
    have x2 := k1.cell x2 (fun f => f)
    have x3 := k1.cell x3 (fun f => f)
    have z1 := k1.cell z1 (fun f => f)
    have z2 := k1.cell z2 (fun f => f)
    have z3 := k1.cell z3 (fun f => f)
    have K1 := kA.trans k1
    clear yq hw1 k1 kA
    go_wp2
    go_ret
    exact ⟨rfl, K1⟩
  | true =>
    rw [hs] at yq
    rw [Bool.true_and]
    clear hs
    generalize c.length = CL at *
    generalize c'.length = CM at *
    by_cases hd : d = d'
    · subst hd
      have e0 : (d == d) = true := by simp
      rw [e0, Bool.true_and]
      clear e0
      by_cases ha : a = a'
      · subst ha
        by_cases hn : n = n'
        · subst hn
          rw [decide_eq_true ⟨rfl, rfl⟩]
          cases d with
          | false =>
            go_enter Tryz.func66, Tryz.ntmps66
            go_wp2_with fail
            generalize ((w.alloc (.cells #[.slice ao CL ca, .bool false, .string a, .int .u64 (n : Int)] 41)).alloc (.cells #[.slice bo CM cb, .bool false, .string a, .int .u64 (n : Int)] 41)) = W1 at *
            generalize w.heap.size = B at *
            refine yq.mono ?_
            rintro e w1 ⟨rfl, hw1⟩
            have k1 := keepN hw1
            have x1 := k1.cell x1 (fun f => f)
            have x2 := k1.cell x2 (fun f => f)
            have x3 := k1.cell x3 (fun f => f)
            have z1 := k1.cell z1 (fun f => f)
            have z2 := k1.cell z2 (fun f => f)
            have z3 := k1.cell z3 (fun f => f)
            have K1 := kA.trans k1
            clear yq hw1 k1 kA
            go_wp2
            go_ret
            exact ⟨rfl, K1⟩
          | true =>
            go_enter Tryz.func66, Tryz.ntmps66
            go_wp2_with fail
            generalize ((w.alloc (.cells #[.slice ao CL ca, .bool true, .string a, .int .u64 (n : Int)] 41)).alloc (.cells #[.slice bo CM cb, .bool true, .string a, .int .u64 (n : Int)] 41)) = W1 at *
            generalize w.heap.size = B at *
            refine yq.mono ?_
            rintro e w1 ⟨rfl, hw1⟩
            have k1 := keepN hw1
            have x1 := k1.cell x1 (fun f => f)
            have x2 := k1.cell x2 (fun f => f)
            have x3 := k1.cell x3 (fun f => f)
            have z1 := k1.cell z1 (fun f => f)
            have z2 := k1.cell z2 (fun f => f)
            have z3 := k1.cell z3 (fun f => f)
            have K1 := kA.trans k1
            clear yq hw1 k1 kA
            go_wp2
            go_ret
            exact ⟨rfl, K1⟩
        · rw [decide_eq_false (fun e => hn e.2)]
          have j1 : ((n : Int) == (n' : Int)) = false := beq_eq_false_iff_ne.2 (by omega)
          have j2 : ¬ (n : Int) = (n' : Int) := by omega
          clear hn
          cases d with
          | false =>
            go_enter Tryz.func66, Tryz.ntmps66
            go_wp2_with fail
            generalize ((w.alloc (.cells #[.slice ao CL ca, .bool false, .string a, .int .u64 (n : Int)] 41)).alloc (.cells #[.slice bo CM cb, .bool false, .string a, .int .u64 (n' : Int)] 41)) = W1 at *
            generalize w.heap.size = B at *
            refine yq.mono ?_
            rintro e w1 ⟨rfl, hw1⟩
            have k1 := keepN hw1
            have x1 := k1.cell x1 (fun f => f)
            have x2 := k1.cell x2 (fun f => f)
            have x3 := k1.cell x3 (fun f => f)
            have z1 := k1.cell z1 (fun f => f)
            have z2 := k1.cell z2 (fun f => f)
            have z3 := k1.cell z3 (fun f => f)
            have K1 := kA.trans k1
            clear yq hw1 k1 kA
            go_wp2
            go_ret
            exact ⟨rfl, K1⟩
          | true =>
            go_enter Tryz.func66, Tryz.ntmps66
            go_wp2_with fail
            generalize ((w.alloc (.cells #[.slice ao CL ca, .bool true, .string a, .int .u64 (n : Int)] 41)).alloc (.cells #[.slice bo CM cb, .bool true, .string a, .int .u64 (n' : Int)] 41)) = W1 at *
            generalize w.heap.size = B at *
            refine yq.mono ?_
            rintro e w1 ⟨rfl, hw1⟩
            have k1 := keepN hw1
            have x1 := k1.cell x1 (fun f => f)
            have x2 := k1.cell x2 (fun f => f)
            have x3 := k1.cell x3 (fun f => f)
            have z1 := k1.cell z1 (fun f => f)
            have z2 := k1.cell z2 (fun f => f)
            have z3 := k1.cell z3 (fun f => f)
            have K1 := kA.trans k1
            clear yq hw1 k1 kA
            go_wp2
            go_ret
            exact ⟨rfl, K1⟩
      · rw [decide_eq_false (fun e => ha e.1)]
        obtain ⟨e1, e2, e3⟩ := txt_ne ha
        cases d with
        | false =>
          go_enter Tryz.func66, Tryz.ntmps66
          go_wp2_with fail
          generalize ((w.alloc (.cells #[.slice ao CL ca, .bool false, .string a, .int .u64 (n : Int)] 41)).alloc (.cells #[.slice bo CM cb, .bool false, .string a', .int .u64 (n' : Int)] 41)) = W1 at *
          generalize w.heap.size = B at *
          refine yq.mono ?_
          rintro e w1 ⟨rfl, hw1⟩
          have k1 := keepN hw1
          have x1 := k1.cell x1 (fun f => f)
          have x2 := k1.cell x2 (fun f => f)
          have x3 := k1.cell x3 (fun f => f)
          have z1 := k1.cell z1 (fun f => f)
          have z2 := k1.cell z2 (fun f => f)
          have z3 := k1.cell z3 (fun f => f)
          have K1 := kA.trans k1
          clear yq hw1 k1 kA
          go_wp2
          go_ret
          exact ⟨rfl, K1⟩
        | true =>
          go_enter Tryz.func66, Tryz.ntmps66
          go_wp2_with fail
          generalize ((w.alloc (.cells #[.slice ao CL ca, .bool true, .string a, .int .u64 (n : Int)] 41)).alloc (.cells #[.slice bo CM cb, .bool true, .string a', .int .u64 (n' : Int)] 41)) = W1 at *
          generalize w.heap.size = B at *
          refine yq.mono ?_
          rintro e w1 ⟨rfl, hw1⟩
          have k1 := keepN hw1
          have x1 := k1.cell x1 (fun f => f)
          have x2 := k1.cell x2 (fun f => f)
          have x3 := k1.cell x3 (fun f => f)
          have z1 := k1.cell z1 (fun f => f)
          have z2 := k1.cell z2 (fun f => f)
          have z3 := k1.cell z3 (fun f => f)
          have K1 := kA.trans k1
          clear yq hw1 k1 kA
          go_wp2
          go_ret
          exact ⟨rfl, K1⟩
    · have e0 : (d == d') = false := by simpa using hd
      rw [e0, Bool.false_and]
      cases d with
      | false =>
        cases d' with
        | false => exact absurd rfl hd
        | true =>
          clear hd e0
          go_enter Tryz.func66, Tryz.ntmps66
          go_wp2_with fail
          generalize ((w.alloc (.cells #[.slice ao CL ca, .bool false, .string a, .int .u64 (n : Int)] 41)).alloc (.cells #[.slice bo CM cb, .bool true, .string a', .int .u64 (n' : Int)] 41)) = W1 at *
          generalize w.heap.size = B at *
          refine yq.mono ?_
          rintro e w1 ⟨rfl, hw1⟩
          have k1 := keepN hw1
          have x1 := k1.cell x1 (fun f => f)
          have x2 := k1.cell x2 (fun f => f)
          have x3 := k1.cell x3 (fun f => f)
          have z1 := k1.cell z1 (fun f => f)
          have z2 := k1.cell z2 (fun f => f)
          have z3 := k1.cell z3 (fun f => f)
          have K1 := kA.trans k1
          clear yq hw1 k1 kA
          go_wp2
          go_ret
          exact ⟨rfl, K1⟩
      | true =>
        cases d' with
        | true => exact absurd rfl hd
        | false =>
          clear hd e0
          go_enter Tryz.func66, Tryz.ntmps66
          go_wp2_with fail
          generalize ((w.alloc (.cells #[.slice ao CL ca, .bool true, .string a, .int .u64 (n : Int)] 41)).alloc (.cells #[.slice bo CM cb, .bool false, .string a', .int .u64 (n' : Int)] 41)) = W1 at *
          generalize w.heap.size = B at *
          refine yq.mono ?_
          rintro e w1 ⟨rfl, hw1⟩
          have k1 := keepN hw1
          have x1 := k1.cell x1 (fun f => f)
          have x2 := k1.cell x2 (fun f => f)
          have x3 := k1.cell x3 (fun f => f)
          have z1 := k1.cell z1 (fun f => f)
          have z2 := k1.cell z2 (fun f => f)
          have z3 := k1.cell z3 (fun f => f)
          have K1 := kA.trans k1
          clear yq hw1 k1 kA
          go_wp2
          go_ret
          exact ⟨rfl, K1⟩
theorem rsame12 (w : World) (ao bo : Option Addr) (ca cb : Nat) (a b : Ck) (hf : FitsK a) (hg : FitsK b) (hc : EnsAt w ao a.c) (hc' : EnsAt w bo b.c) :
    Calls Tryz.prog 66 #[.agg #[.slice ao a.c.length ca, .bool a.d, .string a.x.a, .int .u64 (a.x.n : Int)], .agg #[.slice bo b.c.length cb, .bool b.d, .string b.x.a, .int .u64 (b.x.n : Int)]] w fun e w' => e = .returned (.bool (kSame a b)) ∧ Keep0 w w' :=
  rsame12_any w ao bo ca cb a.c b.c a.d b.d a.x.a b.x.a a.x.n b.x.n hf.vec.1 hg.vec.1 hc hc'
end Go.Proofs.YteonkfedgopdiaaGreat
