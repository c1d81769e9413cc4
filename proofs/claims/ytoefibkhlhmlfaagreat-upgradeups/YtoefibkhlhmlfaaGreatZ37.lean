/-
  What this seat's claims lean on of the texts Law16, SbE.
  Conditions: as each theorem states.
-/
import Derived.WalkKit
import Derived.ProofKit
import Derived.Below
import Derived.Deep.Draws
import Derived.Deep.RegionHeld
import Derived.Test.YtoefibkhlhmlfaaGreatChecked
import Derived.OpenShut
import Derived.ShutString
import Derived.WalkSpells
import Derived.WalkLawsBesides
import Derived.Deep.QuietTactic
import Derived.BigQuiet
import Derived.Laws.Bits64b
import Derived.PlainAid
import Derived.Lib.AppendStr
import Derived.Deep.AppendLies
import Derived.Laws.IdiomStrings
import Derived.Laws.BytesArg
import Derived.Deep.RegionWith
import Derived.Laws.AppendOwn
import Derived.Deep.DeepAppendWide
import Derived.Deep.Upon
import Derived.Maps.AppendAt
import Derived.Laws.Rows
import Derived.Deep.Slices
import Derived.Deep.CutRange
import Derived.Deep.RegionLaw
import Derived.Test.YtoefibkhlhmlfaaGreatZ31
import Derived.Test.YtoefibkhlhmlfaaGreatZ34
import Derived.Test.YtoefibkhlhmlfaaGreatZ26
import Derived.Test.YtoefibkhlhmlfaaGreatZ30
import Derived.Test.YtoefibkhlhmlfaaGreatZ2
import Derived.Test.YtoefibkhlhmlfaaGreatZ35
namespace Go.Proofs.YtoefibkhlhmlfaaGreat
open Go.RowKit
structure Ok16 (o : Ob) : Prop where
  key : o.key.size ≤ 1000000
  len : o.l.length ≤ 100
  sib : ∀ x ∈ o.l, Ok15 x
theorem Ok16.fit {o : Ob} (h : Ok16 o) : FitsO o := ⟨by have := h.key; unfold maxLen; omega, by have := h.len; unfold maxLen; omega, fun x hx => (h.sib x hx).fit⟩
theorem okOb.ok {o : Ob} (h : okOb o) : Ok16 o := by
  obtain ⟨h1, h2⟩ := oCheck_zero.1 h.1
  obtain ⟨a1, a2, a3, a4⟩ := outS_zero.1 h1
  exact ⟨by omega, by omega, fun x hx => (okSib_U.2 ⟨h2.1 x hx, h.2 x hx⟩).ok⟩
theorem zOb_ok : Ok16 zOb := ⟨by show 0 ≤ 1000000; omega, by show 0 ≤ 100; omega, (fun _ h => by cases h)⟩
theorem Ok16.u {o : Ob} (h : Ok16 o) : ∀ x ∈ o.l, sbU x := fun x hx => (h.sib x hx).fit.u
structure CopyL (B : Nat) (w : World) (ao : Option Addr) (cap : Nat) (L : List Pl) : Prop where
  row : w.ownsRow B 61 7 (.slice ao L.length cap) L.length (rowOf Pl.cells L)
  vec : ∀ p ∈ L, w.ownsRow B 53 2 (.slice p.vo p.x.k.c.length p.vc) p.x.k.c.length (enCells p.x.k.c)
  prs : ∀ p ∈ L, w.ownsRow B 135 2 (.slice p.po p.x.m.length p.pc) p.x.m.length (prCells p.x.m)
  off : ∀ i j (_ : i < L.length) (_ : j < L.length), i ≠ j → 0 < L[i].x.m.length → 0 < L[j].x.m.length → ∀ g o m g' o' m', L[i].po = some ⟨g, o, m⟩ → L[j].po = some ⟨g', o', m'⟩ → g ≠ g'
end Go.Proofs.YtoefibkhlhmlfaaGreat
namespace Go.Proofs.YtoefibkhlhmlfaaGreat
open Go.RowKit
set_option maxRecDepth 100000 in
set_option maxHeartbeats 8000000 in
theorem copy15 (w : World) (vo : Option Addr) (vc : Nat) (po : Option Addr) (pc : Nat) (x : Sb) (ok : Ok15 x) (hI : SibIn w vo po pc x) :
    Calls Tryz.prog 97 #[.agg #[.slice vo x.k.c.length vc, .bool x.k.d, .string x.k.x.a, .int .u64 (x.k.x.n : Int), .slice po x.m.length pc, .bool x.d, .string x.v]] w (RCopy x w) := by
  have HP : Hid (∀ (e : Ending) (W : World) (bo : Option Addr) (bc : Nat) (qo : Option Addr) (qc : Nat), e = .returned (.agg #[.slice bo x.k.c.length bc, .bool x.k.d, .string x.k.x.a, .int .u64 (x.k.x.n : Int), .slice qo x.m.length qc, .bool x.d, .string x.v]) → W.ownsRow w.heap.size 53 2 (.slice bo x.k.c.length bc) x.k.c.length (enCells x.k.c) → W.ownsRow w.heap.size 135 2 (.slice qo x.m.length qc) x.m.length (prCells x.m) → Keep0 w W → RCopy x w e W) := fun e W bo bc qo qc h1 h2 h3 h4 => ⟨bo, bc, qo, qc, h1, h2, h3, h4⟩
  have k0 : Keep0 w ((w.alloc (.cells #[.slice vo x.k.c.length vc, .bool x.k.d, .string x.k.x.a, .int .u64 (x.k.x.n : Int), .slice po x.m.length pc, .bool x.d, .string x.v] 61)).alloc (.cells #[.slice none 0 0, .bool false, .string ⟨#[]⟩, .int .u64 0, .slice none 0 0, .bool false, .string ⟨#[]⟩] 61)) := ((Keep.refl _ w).alloc _).alloc _
  have q1 : SAt ((w.alloc (.cells #[.slice vo x.k.c.length vc, .bool x.k.d, .string x.k.x.a, .int .u64 (x.k.x.n : Int), .slice po x.m.length pc, .bool x.d, .string x.v] 61)).alloc (.cells #[.slice none 0 0, .bool false, .string ⟨#[]⟩, .int .u64 0, .slice none 0 0, .bool false, .string ⟨#[]⟩] 61)) w.heap.size (.slice vo x.k.c.length vc) (.bool x.k.d) (.string x.k.x.a) (.int .u64 (x.k.x.n : Int)) (.slice po x.m.length pc) (.bool x.d) (.string x.v) := (SAt.new w 61 (.slice vo x.k.c.length vc) (.bool x.k.d) (.string x.k.x.a) (.int .u64 (x.k.x.n : Int)) (.slice po x.m.length pc) (.bool x.d) (.string x.v)).keep0 ((Keep.refl _ _).alloc _)
  have q2 : SAt ((w.alloc (.cells #[.slice vo x.k.c.length vc, .bool x.k.d, .string x.k.x.a, .int .u64 (x.k.x.n : Int), .slice po x.m.length pc, .bool x.d, .string x.v] 61)).alloc (.cells #[.slice none 0 0, .bool false, .string ⟨#[]⟩, .int .u64 0, .slice none 0 0, .bool false, .string ⟨#[]⟩] 61)) (w.heap.size + 1) (.slice none 0 0) (.bool false) (.string ⟨#[]⟩) (.int .u64 0) (.slice none 0 0) (.bool false) (.string ⟨#[]⟩) := by
    have := SAt.new (w.alloc (.cells #[.slice vo x.k.c.length vc, .bool x.k.d, .string x.k.x.a, .int .u64 (x.k.x.n : Int), .slice po x.m.length pc, .bool x.d, .string x.v] 61)) 61 (.slice none 0 0) (.bool false) (.string ⟨#[]⟩) (.int .u64 0) (.slice none 0 0) (.bool false) (.string ⟨#[]⟩)
    rw [World.size_alloc] at this
    exact this
  have z0 : ((w.alloc (.cells #[.slice vo x.k.c.length vc, .bool x.k.d, .string x.k.x.a, .int .u64 (x.k.x.n : Int), .slice po x.m.length pc, .bool x.d, .string x.v] 61)).alloc (.cells #[.slice none 0 0, .bool false, .string ⟨#[]⟩, .int .u64 0, .slice none 0 0, .bool false, .string ⟨#[]⟩] 61)).heap.size = w.heap.size + 2 := by rw [World.size_alloc, World.size_alloc]
  have hE0 := hI.ens.keep0 k0
  have hP0 : Hid (PrsAt ((w.alloc (.cells #[.slice vo x.k.c.length vc, .bool x.k.d, .string x.k.x.a, .int .u64 (x.k.x.n : Int), .slice po x.m.length pc, .bool x.d, .string x.v] 61)).alloc (.cells #[.slice none 0 0, .bool false, .string ⟨#[]⟩, .int .u64 0, .slice none 0 0, .bool false, .string ⟨#[]⟩] 61)) po x.m) := hI.prs.keep0 k0
  have hown : ((w.alloc (.cells #[.slice vo x.k.c.length vc, .bool x.k.d, .string x.k.x.a, .int .u64 (x.k.x.n : Int), .slice po x.m.length pc, .bool x.d, .string x.v] 61)).alloc (.cells #[.slice none 0 0, .bool false, .string ⟨#[]⟩, .int .u64 0, .slice none 0 0, .bool false, .string ⟨#[]⟩] 61)).ownsRow (w.heap.size + 2) 53 2 (.slice none 0 0) ([] : List En).length (enCells []) := ⟨rfl, .inl ⟨rfl, rfl⟩⟩
  have hb : w.heap.size + 2 ≤ ((w.alloc (.cells #[.slice vo x.k.c.length vc, .bool x.k.d, .string x.k.x.a, .int .u64 (x.k.x.n : Int), .slice po x.m.length pc, .bool x.d, .string x.v] 61)).alloc (.cells #[.slice none 0 0, .bool false, .string ⟨#[]⟩, .int .u64 0, .slice none 0 0, .bool false, .string ⟨#[]⟩] 61)).heap.size := by omega
  have hlen : ([] : List En).length + x.k.c.length ≤ 1000000 := by have := ok.len; show 0 + x.k.c.length ≤ 1000000; omega
  have hlen2 : Hid (([] : List Pr).length + x.m.length ≤ 1000000) := by have := ok.mlen; show 0 + x.m.length ≤ 1000000; omega
  have holdE : Hid (0 < x.m.length → ∀ g off mm, po = some ⟨g, off, mm⟩ → g < w.heap.size) := fun hl => prs_old hI.prs hl
  obtain ⟨u0, u1, u2, u3, u4, u5, u6, f0, f1, f2, f3, f4, f5, f6⟩ := q1.cells
  obtain ⟨t0, t1, t2, t3, t4, t5, t6, h0, h1, h2, h3, h4, h5, h6⟩ := q2.cells
  clear hI ok
  go_enter Tryz.func97, Tryz.ntmps97
  go_wp2_with (at_builtin; refine wpList_append_ens (l := []) rfl _ _ rfl rfl rfl hown hE0 hb hlen ?_)
  intro va w2 hxa hga
  generalize ((w.alloc (.cells #[.slice vo x.k.c.length vc, .bool x.k.d, .string x.k.x.a, .int .u64 (x.k.x.n : Int), .slice po x.m.length pc, .bool x.d, .string x.v] 61)).alloc (.cells #[.slice none 0 0, .bool false, .string ⟨#[]⟩, .int .u64 0, .slice none 0 0, .bool false, .string ⟨#[]⟩] 61)) = W0 at *
  have HG : Hid (∃ G, w.heap.size = G ∧ G + 1 = G + 1) := ⟨_, rfl, rfl⟩
  have k2 : Keep0 W0 w2 := (Keep.refl _ W0).ownGrown hga (fun g hg => by cases hg)
  have hxa : w2.ownsRow (w.heap.size + 2) 53 2 va x.k.c.length (enCells x.k.c) := by simpa using hxa
  obtain ⟨bo, bn, bc, rfl⟩ := sliceE_of_own hxa
  obtain ⟨bo', bc', hbe, hEv, hVb, _⟩ := ens_of_row hxa
  cases hbe
  have z2 := k2.size
  have K2 := k0.trans k2
  replace q1 := q1.keep0 k2
  replace q2 := q2.keep0 k2
  have hP2 : Hid (PrsAt w2 po x.m) := hP0.out.keep0 k2
  have HXA : Hid (w2.ownsRow (w.heap.size + 2) 53 2 (.slice bo x.k.c.length bc) x.k.c.length (enCells x.k.c)) := hxa
  have HZ2 : Hid (w.heap.size + 2 ≤ w2.heap.size) := by show _ ≤ _; omega
  clear hxa hga hown hb hlen hE0 k0 k2 z0 z2 hEv hVb hP0 HG u0 u1 u2 u3 u4 u5 u6 f0 f1 f2 f3 f4 f5 f6 t0 t1 t2 t3 t4 t5 t6 h0 h1 h2 h3 h4 h5 h6
  obtain ⟨g1, hg1⟩ : ∃ g1, w.heap.size = g1 := ⟨_, rfl⟩
  rw [hg1] at q1 q2 ⊢
  obtain ⟨g2, hg2⟩ : ∃ g2, g1 + 1 = g2 := ⟨_, rfl⟩
  rw [hg2] at q2 ⊢
  have n12 : g1 ≠ g2 := by omega
  have HG1 : Hid (w.heap.size = g1) := hg1
  have HG2 : Hid (g1 + 1 = g2) := hg2
  have kS : Keep1 g1 w2 (w2.setCell ⟨g1, 0, none⟩ (.slice bo x.k.c.length bc)) := (Keep.refl _ w2).set1 _ _
  have q1S := q1.set0 (.slice bo x.k.c.length bc)
  have q2S := q2.keep kS (fun e => n12 e.symm)
  have KS : Keep0 w (w2.setCell ⟨g1, 0, none⟩ (.slice bo x.k.c.length bc)) := K2.step kS (fun i hi hh => by omega)
  have hPS : PrsAt (w2.setCell ⟨g1, 0, none⟩ (.slice bo x.k.c.length bc)) po x.m := by
    by_cases hz : 0 < x.m.length
    · exact hP2.out.keep kS (fun g off m e hh => by have := holdE.out hz g off m e; have := HG1.out; omega)
    · exact fun i hi => absurd hi (by omega)
  have HXS : Hid ((w2.setCell ⟨g1, 0, none⟩ (.slice bo x.k.c.length bc)).ownsRow (w.heap.size + 2) 53 2 (.slice bo x.k.c.length bc) x.k.c.length (enCells x.k.c)) := rowE_keep HXA.out kS (fun g hg hh => by omega)
  have hownP : (w2.setCell ⟨g1, 0, none⟩ (.slice bo x.k.c.length bc)).ownsRow (w.heap.size + 2) 135 2 (.slice none 0 0) ([] : List Pr).length (prCells []) := ⟨rfl, .inl ⟨rfl, rfl⟩⟩
  have hbP : w.heap.size + 2 ≤ (w2.setCell ⟨g1, 0, none⟩ (.slice bo x.k.c.length bc)).heap.size := by have := kS.size; have := HZ2.out; omega
  have hlenP := hlen2.out
  obtain ⟨u0, u1, u2, u3, u4, u5, u6, f0, f1, f2, f3, f4, f5, f6⟩ := q1.cells
  obtain ⟨t0, t1, t2, t3, t4, t5, t6, h0, h1, h2, h3, h4, h5, h6⟩ := q1S.cells
  clear HXA hP2 K2 HZ2 holdE hlen2 hg1 hg2
  go_wp2_with (at_builtin; refine wpList_append_prs (l := []) rfl _ _ rfl rfl rfl hownP hPS hbP hlenP ?_)
  intro vb w4 hxb hgb
  have k4 : Keep0 _ w4 := (Keep.refl _ _).ownGrown hgb (fun g hg => by cases hg)
  have hxb : w4.ownsRow (w.heap.size + 2) 135 2 vb x.m.length (prCells x.m) := by simpa using hxb
  obtain ⟨qo, qn, qc, rfl⟩ := sliceE_of_own hxb
  obtain ⟨qo', qc', hqe, _, _, _⟩ := prs_of_row hxb
  cases hqe
  replace q1 := q1S.keep0 k4
  replace q2 := q2S.keep0 k4
  have K4 := KS.trans k4
  have HX4 : Hid (w4.ownsRow (w.heap.size + 2) 53 2 (.slice bo x.k.c.length bc) x.k.c.length (enCells x.k.c)) := rowE_keep HXS.out k4 (fun _ _ f => f)
  have HY4 : Hid (w4.ownsRow (w.heap.size + 2) 135 2 (.slice qo x.m.length qc) x.m.length (prCells x.m)) := hxb
  clear hxb hgb hownP hbP hlenP hPS kS KS k4 HXS q1S q2S u0 u1 u2 u3 u4 u5 u6 f0 f1 f2 f3 f4 f5 f6 t0 t1 t2 t3 t4 t5 t6 h0 h1 h2 h3 h4 h5 h6
  have kS : Keep1 g1 w4 (w4.setCell ⟨g1, 4, none⟩ (.slice qo x.m.length qc)) := (Keep.refl _ w4).set1 _ _
  have q1S := q1.set4 (.slice qo x.m.length qc)
  have q2S := q2.keep kS (fun e => n12 e.symm)
  have KS : Keep0 w (w4.setCell ⟨g1, 4, none⟩ (.slice qo x.m.length qc)) := K4.step kS (fun i hi hh => by have := HG1.out; omega)
  have HXS : Hid ((w4.setCell ⟨g1, 4, none⟩ (.slice qo x.m.length qc)).ownsRow (w.heap.size + 2) 53 2 (.slice bo x.k.c.length bc) x.k.c.length (enCells x.k.c)) := rowE_keep HX4.out kS (fun g hg hh => by have := HG1.out; omega)
  have HYS : Hid ((w4.setCell ⟨g1, 4, none⟩ (.slice qo x.m.length qc)).ownsRow (w.heap.size + 2) 135 2 (.slice qo x.m.length qc) x.m.length (prCells x.m)) := rowE_keep HY4.out kS (fun g hg hh => by have := HG1.out; omega)
  obtain ⟨u0, u1, u2, u3, u4, u5, u6, f0, f1, f2, f3, f4, f5, f6⟩ := q1.cells
  obtain ⟨t0, t1, t2, t3, t4, t5, t6, h0, h1, h2, h3, h4, h5, h6⟩ := q1S.cells
  obtain ⟨xt0, xt1, xt2, xt3, xt4, xt5, xt6, xh0, xh1, xh2, xh3, xh4, xh5, xh6⟩ := q2S.cells
  clear HX4 HY4 K4 kS
  go_wp2_with fail
  refine bodyPost_ret (retSb rfl _ _ _ rfl (q2S.put _ _ _ _ _ _ _)) rfl ?_
  refine HP.out _ _ bo bc qo qc rfl (rowP_mono (rowE_keep HXS.out (put7_keep _ g2 _ _ _ _ _ _ _) (fun g hg hh => by have := HG1.out; have := HG2.out; omega)) (by omega)) (rowP_mono (rowE_keep HYS.out (put7_keep _ g2 _ _ _ _ _ _ _) (fun g hg hh => by have := HG1.out; have := HG2.out; omega)) (by omega)) ?_
  exact KS.step (put7_keep _ g2 _ _ _ _ _ _ _) (fun i hi hh => by have := HG1.out; have := HG2.out; omega)
end Go.Proofs.YtoefibkhlhmlfaaGreat
