/-
  What this seat's claims lean on of the texts PlMem, RefSib, Open15, DcA, Law13.
  Conditions: as each theorem states.
-/
import Derived.WalkKit
import Derived.ProofKit
import Derived.Below
import Derived.Deep.Draws
import Derived.Deep.RegionHeld
import Derived.Test.YtoefibkhlhmlfaaGreatChecked
import Derived.OpenShut
import Derived.ShutString
import Derived.WalkSpells
import Derived.WalkLawsBesides
import Derived.Deep.QuietTactic
import Derived.BigQuiet
import Derived.Laws.Bits64b
import Derived.PlainAid
import Derived.Lib.AppendStr
import Derived.Deep.AppendLies
import Derived.Laws.IdiomStrings
import Derived.Laws.BytesArg
import Derived.Deep.RegionWith
import Derived.Laws.AppendOwn
import Derived.Deep.DeepAppendWide
import Derived.Deep.Upon
import Derived.Maps.AppendAt
import Derived.Laws.Rows
import Derived.Deep.Slices
import Derived.Test.YtoefibkhlhmlfaaGreatY10
import Derived.Test.YtoefibkhlhmlfaaGreatY26
import Derived.Test.YtoefibkhlhmlfaaGreatY1
import Derived.Test.YtoefibkhlhmlfaaGreatY14
import Derived.Test.YtoefibkhlhmlfaaGreatY18
import Derived.Test.YtoefibkhlhmlfaaGreatY13
import Derived.Test.YtoefibkhlhmlfaaGreatY23
import Derived.Test.YtoefibkhlhmlfaaGreatY24
import Derived.Test.YtoefibkhlhmlfaaGreatY3
namespace Go.Proofs.YtoefibkhlhmlfaaGreat
open Go.RowKit
structure Pl where
  x : Sb
  vo : Option Addr
  vc : Nat
  po : Option Addr
  pc : Nat
instance : Inhabited Pl := ⟨⟨zSb, none, 0, none, 0⟩⟩
def Pl.cells (p : Pl) : List Value := [.slice p.vo p.x.k.c.length p.vc, .bool p.x.k.d, .string p.x.k.x.a, .int .u64 (p.x.k.x.n : Int), .slice p.po p.x.m.length p.pc, .bool p.x.d, .string p.x.v]
def Pl.in (w : World) (p : Pl) : Prop := SibIn w p.vo p.po p.pc p.x
theorem pl_one (p : Pl) : ∀ u ∈ p.cells, u.oneCell' = true := by
  intro u hu
  simp only [Pl.cells, List.mem_cons, List.mem_nil_iff, or_false] at hu
  rcases hu with rfl | rfl | rfl | rfl | rfl | rfl | rfl <;> rfl
theorem sib_info : (Tryz.prog.info? 61).map (fun i => (i.zero, i.size, i.bytes)) = some (some (.agg #[.slice none 0 0, .bool false, .string ⟨#[]⟩, .int .u64 0, .slice none 0 0, .bool false, .string ⟨#[]⟩]), 7, 104) := by kernel_rfl
theorem plT : ElemT Pl.cells 7 25 61 where
  len := fun _ => rfl
  pos := by decide
  one := pl_one
  slice := Tryz.underlying25
  info := by
    obtain ⟨i0, hi, z0, z1, z2⟩ := info_parts sib_info
    exact ⟨i0, _, 104, hi, z0, z1, z2, rfl, by decide⟩
structure PlsAt (w : World) (ao : Option Addr) (L : List Pl) : Prop where
  row : RowAt Pl.cells 7 w ao L
  ins : ∀ p ∈ L, p.in w
theorem PlsAt.keep0 {w w' : World} {ao : Option Addr} {L : List Pl} (h : PlsAt w ao L) (K : Keep0 w w') : PlsAt w' ao L := ⟨h.row.keep0 K, fun p hp => SibIn.keep0 (h.ins p hp) K⟩
theorem PlsAt.nil (w : World) (ao : Option Addr) : PlsAt w ao [] := ⟨rowAt_nil _ _, (fun _ h => by cases h)⟩
theorem PlsAt.at_ {w : World} {ao : Option Addr} {L : List Pl} (h : PlsAt w ao L) (i : Nat) (hi : i < L.length) : ∃ b off, ao = some ⟨b, off, none⟩ ∧ SibAt w b (off + i * 7) L[i].x L[i].vo L[i].vc L[i].po L[i].pc ∧ SibIn w L[i].vo L[i].po L[i].pc L[i].x := by
  obtain ⟨b, off, e, h1⟩ := h.row i hi
  exact ⟨b, off, e, ⟨h1 0 _ rfl, h1 1 _ rfl, h1 2 _ rfl, h1 3 _ rfl, h1 4 _ rfl, h1 5 _ rfl, h1 6 _ rfl⟩, h.ins _ (List.getElem_mem hi)⟩
theorem PlsAt.sibs {w : World} {ao : Option Addr} {L : List Pl} (h : PlsAt w ao L) : SibsAt w ao (L.map Pl.x) := by
  intro i hi
  have hi' : i < L.length := by simpa using hi
  obtain ⟨b, off, e, h1, h2⟩ := h.at_ i hi'
  rw [List.getElem_map]
  exact ⟨b, off, L[i].vo, L[i].vc, L[i].po, L[i].pc, e, h1, h2⟩
theorem pl_new (w : World) (t : TypeId) (p : Pl) : RowAt Pl.cells 7 (w.alloc (.cells #[.slice p.vo p.x.k.c.length p.vc, .bool p.x.k.d, .string p.x.k.x.a, .int .u64 (p.x.k.x.n : Int), .slice p.po p.x.m.length p.pc, .bool p.x.d, .string p.x.v] t)) (some ⟨w.heap.size, 0, none⟩) [p] := by
  intro i hi
  obtain rfl : i = 0 := by simpa using hi
  refine ⟨w.heap.size, 0, rfl, fun j u hu => ?_⟩
  have h1 := sib_new w t p.x p.vo p.vc p.po p.pc
  match j, hu with
  | 0, hu => cases hu; exact h1.c0
  | 1, hu => cases hu; exact h1.c1
  | 2, hu => cases hu; exact h1.c2
  | 3, hu => cases hu; exact h1.c3
  | 4, hu => cases hu; exact h1.c4
  | 5, hu => cases hu; exact h1.c5
  | 6, hu => cases hu; exact h1.c6
  | j + 7, hu => cases hu
end Go.Proofs.YtoefibkhlhmlfaaGreat
namespace Go.Proofs.YtoefibkhlhmlfaaGreat
open Go.RowKit
set_option maxRecDepth 100000 in
set_option maxHeartbeats 4000000 in
theorem rcheck15_any (w : World) (vo : Option Addr) (vc : Nat) (po : Option Addr) (pc : Nat) (c : List En) (d : Bool) (a : ByteArray) (n : Nat) (m : List Pr) (q : Bool) (v : ByteArray) (fk : FitsK ⟨c, d, ⟨a, n⟩⟩) (fp : FitsP m) (fv : v.size ≤ maxLen) (hE : EnsAt w vo c) (hP : PrsAt w po m) :
    Calls Tryz.prog 49 #[.agg #[.slice vo c.length vc, .bool d, .string a, .int .u64 (n : Int), .slice po m.length pc, .bool q, .string v]] w fun e w' => e = .returned (.int .i64 (sCheck ⟨⟨c, d, ⟨a, n⟩⟩, m, q, v⟩)) ∧ Keep0 w w' := by
  have kA : Keep0 w (w.alloc (.cells #[.slice vo c.length vc, .bool d, .string a, .int .u64 (n : Int), .slice po m.length pc, .bool q, .string v] 61)) := (Keep.refl _ w).alloc _
  obtain ⟨x0, x1, x2, x3, x4, x5, x6⟩ := sib_new w 61 ⟨⟨c, d, ⟨a, n⟩⟩, m, q, v⟩ vo vc po pc
  have yk := rcheck12 (w.alloc (.cells #[.slice vo c.length vc, .bool d, .string a, .int .u64 (n : Int), .slice po m.length pc, .bool q, .string v] 61)) vo vc ⟨c, d, ⟨a, n⟩⟩ fk (hE.keep0 kA)
  have yp := fun W (h : PrsAt W po m) => rcheck14 W po pc m fp h
  have hPA := hP.keep0 kA
  have i0 : (v.size : Int) ≤ 9223372036854775807 := by unfold maxLen at fv; omega
  have a1 := sCheck_a (x := ⟨⟨c, d, ⟨a, n⟩⟩, m, q, v⟩)
  have a2 := sCheck_b (x := ⟨⟨c, d, ⟨a, n⟩⟩, m, q, v⟩)
  have a3 := sCheck_c (x := ⟨⟨c, d, ⟨a, n⟩⟩, m, q, v⟩)
  have a4 := (sCheck_zero (x := ⟨⟨c, d, ⟨a, n⟩⟩, m, q, v⟩)).2
  by_cases h1 : kCheck ⟨c, d, ⟨a, n⟩⟩ = 0
  case neg =>
    rw [a1 h1]
    have e1 : (kCheck ⟨c, d, ⟨a, n⟩⟩ != 0) = true := by simpa using h1
    clear a1 a2 a3 a4 yp hPA fk fp fv hE hP
    show Calls _ _ _ _ fun e w' => e = .returned (.int .i64 (kCheck ⟨c, d, ⟨a, n⟩⟩)) ∧ Keep0 w w'
    generalize kCheck ⟨c, d, ⟨a, n⟩⟩ = C at *
    go_enter Tryz.func49, Tryz.ntmps49
    go_wp2_with fail
    generalize (w.alloc (.cells #[.slice vo c.length vc, .bool d, .string a, .int .u64 (n : Int), .slice po m.length pc, .bool q, .string v] 61)) = W0 at *
    generalize w.heap.size = g at *
    refine yk.mono ?_
    rintro e w1 ⟨rfl, k1⟩
    have K1 := kA.trans k1
    clear yk k1 kA
    go_wp2
    go_ret
    exact ⟨rfl, K1⟩
  rw [h1] at yk
  by_cases h2 : qCheck m = 0
  case neg =>
    rw [a2 h1 h2]
    have e1 : (qCheck m != 0) = true := by simpa using h2
    clear a1 a2 a3 a4 fk fp fv hE hP
    show Calls _ _ _ _ fun e w' => e = .returned (.int .i64 (qCheck m)) ∧ Keep0 w w'
    generalize qCheck m = C at *
    go_enter Tryz.func49, Tryz.ntmps49
    go_wp2_with fail
    generalize (w.alloc (.cells #[.slice vo c.length vc, .bool d, .string a, .int .u64 (n : Int), .slice po m.length pc, .bool q, .string v] 61)) = W0 at *
    generalize w.heap.size = g at *
    refine yk.mono ?_
    rintro e w1 ⟨rfl, k1⟩
    have K1 := kA.trans k1
    replace x4 := k1.cell x4 (fun f => f)
    have yp := yp _ (hPA.keep0 k1)
    clear yk k1 kA hPA x0 x1 x2 x3 x5 x6
    go_wp2_with fail
    refine yp.mono ?_
    rintro e w2 ⟨rfl, hw2⟩
    have K2 := K1.trans (keepN hw2)
    clear yp hw2 K1
    go_wp2
    go_ret
    exact ⟨rfl, K2⟩
  rw [h2] at yp
  by_cases h3 : 32768 < v.size
  · rw [a3 h1 h2 h3]
    have j1 : (32768 : Int) < v.size := by omega
    have j2 : decide ((32768 : Int) < (v.size : Int)) = true := decide_eq_true j1
    clear a1 a2 a3 a4 fk fp fv hE hP h3
    go_enter Tryz.func49, Tryz.ntmps49
    go_wp2_with fail
    generalize (w.alloc (.cells #[.slice vo c.length vc, .bool d, .string a, .int .u64 (n : Int), .slice po m.length pc, .bool q, .string v] 61)) = W0 at *
    generalize w.heap.size = g at *
    refine yk.mono ?_
    rintro e w1 ⟨rfl, k1⟩
    have K1 := kA.trans k1
    replace x4 := k1.cell x4 (fun f => f)
    replace x6 := k1.cell x6 (fun f => f)
    have yp := yp _ (hPA.keep0 k1)
    clear yk k1 kA hPA x0 x1 x2 x3 x5
    go_wp2_with fail
    refine yp.mono ?_
    rintro e w2 ⟨rfl, hw2⟩
    have K2 := K1.trans (keepN hw2)
    replace x6 := (keepN hw2).cell x6 (fun f => f)
    clear yp hw2 K1 x4
    go_wp2
    go_ret
    exact ⟨rfl, K2⟩
  · rw [a4 ⟨h1, h2, by show v.size ≤ 32768; omega⟩]
    have j1 : ¬ (32768 : Int) < v.size := by omega
    have j2 : decide ((32768 : Int) < (v.size : Int)) = false := decide_eq_false j1
    clear a1 a2 a3 a4 fk fp fv hE hP h3
    go_enter Tryz.func49, Tryz.ntmps49
    go_wp2_with fail
    generalize (w.alloc (.cells #[.slice vo c.length vc, .bool d, .string a, .int .u64 (n : Int), .slice po m.length pc, .bool q, .string v] 61)) = W0 at *
    generalize w.heap.size = g at *
    refine yk.mono ?_
    rintro e w1 ⟨rfl, k1⟩
    have K1 := kA.trans k1
    replace x4 := k1.cell x4 (fun f => f)
    replace x6 := k1.cell x6 (fun f => f)
    have yp := yp _ (hPA.keep0 k1)
    clear yk k1 kA hPA x0 x1 x2 x3 x5
    go_wp2_with fail
    refine yp.mono ?_
    rintro e w2 ⟨rfl, hw2⟩
    have K2 := K1.trans (keepN hw2)
    replace x6 := (keepN hw2).cell x6 (fun f => f)
    clear yp hw2 K1 x4
    go_wp2
    go_ret
    exact ⟨rfl, K2⟩
theorem rcheck15 (w : World) (vo : Option Addr) (vc : Nat) (po : Option Addr) (pc : Nat) (x : Sb) (f : FitsS x) (h : SibIn w vo po pc x) :
    Calls Tryz.prog 49 #[.agg #[.slice vo x.k.c.length vc, .bool x.k.d, .string x.k.x.a, .int .u64 (x.k.x.n : Int), .slice po x.m.length pc, .bool x.d, .string x.v]] w fun e w' => e = .returned (.int .i64 (sCheck x)) ∧ Keep0 w w' :=
  rcheck15_any w vo vc po pc x.k.c x.k.d x.k.x.a x.k.x.n x.m x.d x.v f.clk f.prs f.val h.ens h.prs
def sSame (x y : Sb) : Bool := kSame x.k y.k && (qSame x.m y.m && ((x.d == y.d) && decide (x.v = y.v)))
theorem sSame_iff {x y : Sb} : sSame x y = true ↔ x = y := by
  obtain ⟨k, m, d, v⟩ := x
  obtain ⟨k', m', d', v'⟩ := y
  unfold sSame
  rw [Bool.and_eq_true, Bool.and_eq_true, Bool.and_eq_true, kSame_iff, qSame_iff, beq_iff_eq, decide_eq_true_eq]
  constructor
  · rintro ⟨h1, h2, h3, h4⟩
    have h1 : k = k' := h1
    have h2 : m = m' := h2
    have h3 : d = d' := h3
    have h4 : v = v' := h4
    subst h1 h2 h3 h4
    rfl
  · intro h
    cases h
    exact ⟨rfl, rfl, rfl, rfl⟩
set_option maxRecDepth 100000 in
set_option maxHeartbeats 4000000 in
theorem rsame15_any (w : World) (vo : Option Addr) (vc : Nat) (po : Option Addr) (pc : Nat) (c : List En) (d : Bool) (a : ByteArray) (n : Nat) (m : List Pr) (q : Bool) (v : ByteArray) (vox : Option Addr) (vcx : Nat) (pox : Option Addr) (pcx : Nat) (cx : List En) (dx : Bool) (ax : ByteArray) (nx : Nat) (mx : List Pr) (qx : Bool) (vx : ByteArray) (fk : FitsK ⟨c, d, ⟨a, n⟩⟩) (fp : FitsP m) (fk' : FitsK ⟨cx, dx, ⟨ax, nx⟩⟩) (fp' : FitsP mx) (hE : EnsAt w vo c) (hP : PrsAt w po m) (hE' : EnsAt w vox cx) (hP' : PrsAt w pox mx) :
    Calls Tryz.prog 35 #[.agg #[.slice vo c.length vc, .bool d, .string a, .int .u64 (n : Int), .slice po m.length pc, .bool q, .string v], .agg #[.slice vox cx.length vcx, .bool dx, .string ax, .int .u64 (nx : Int), .slice pox mx.length pcx, .bool qx, .string vx]] w fun e w' => e = .returned (.bool (sSame ⟨⟨c, d, ⟨a, n⟩⟩, m, q, v⟩ ⟨⟨cx, dx, ⟨ax, nx⟩⟩, mx, qx, vx⟩)) ∧ Keep0 w w' := by
  have k0 : Keep0 w (w.alloc (.cells #[.slice vo c.length vc, .bool d, .string a, .int .u64 (n : Int), .slice po m.length pc, .bool q, .string v] 61)) := (Keep.refl _ w).alloc _
  have kB : Keep0 (w.alloc (.cells #[.slice vo c.length vc, .bool d, .string a, .int .u64 (n : Int), .slice po m.length pc, .bool q, .string v] 61)) ((w.alloc (.cells #[.slice vo c.length vc, .bool d, .string a, .int .u64 (n : Int), .slice po m.length pc, .bool q, .string v] 61)).alloc (.cells #[.slice vox cx.length vcx, .bool dx, .string ax, .int .u64 (nx : Int), .slice pox mx.length pcx, .bool qx, .string vx] 61)) := (Keep.refl _ _).alloc _
  have kA := k0.trans kB
  obtain ⟨x0, x1, x2, x3, x4, x5, x6⟩ := (sib_new w 61 ⟨⟨c, d, ⟨a, n⟩⟩, m, q, v⟩ vo vc po pc).keep0 kB
  have hN := sib_new (w.alloc (.cells #[.slice vo c.length vc, .bool d, .string a, .int .u64 (n : Int), .slice po m.length pc, .bool q, .string v] 61)) 61 ⟨⟨cx, dx, ⟨ax, nx⟩⟩, mx, qx, vx⟩ vox vcx pox pcx
  rw [World.size_alloc] at hN
  obtain ⟨z0, z1, z2, z3, z4, z5, z6⟩ := hN
  have yk := rsame12 ((w.alloc (.cells #[.slice vo c.length vc, .bool d, .string a, .int .u64 (n : Int), .slice po m.length pc, .bool q, .string v] 61)).alloc (.cells #[.slice vox cx.length vcx, .bool dx, .string ax, .int .u64 (nx : Int), .slice pox mx.length pcx, .bool qx, .string vx] 61)) vo vox vc vcx ⟨c, d, ⟨a, n⟩⟩ ⟨cx, dx, ⟨ax, nx⟩⟩ fk fk' (hE.keep0 kA) (hE'.keep0 kA)
  have yp := fun W (h : PrsAt W po m) (h' : PrsAt W pox mx) => rsame14 W po pox pc pcx m mx fp.1 fp'.1 h h'
  have hPA := hP.keep0 kA
  have hPB := hP'.keep0 kA
  have hk : sSame ⟨⟨c, d, ⟨a, n⟩⟩, m, q, v⟩ ⟨⟨cx, dx, ⟨ax, nx⟩⟩, mx, qx, vx⟩ = (kSame ⟨c, d, ⟨a, n⟩⟩ ⟨cx, dx, ⟨ax, nx⟩⟩ && (qSame m mx && ((q == qx) && decide (v = vx)))) := rfl
  rw [hk]
  clear hk fk fp fk' fp' hE hP hE' hP' k0 kB
  cases h1 : kSame ⟨c, d, ⟨a, n⟩⟩ ⟨cx, dx, ⟨ax, nx⟩⟩ with
  | false =>
    rw [h1] at yk
    rw [Bool.false_and]
    clear h1 yp hPA hPB
    go_enter Tryz.func35, Tryz.ntmps35
    go_wp2_with fail
    generalize ((w.alloc (.cells #[.slice vo c.length vc, .bool d, .string a, .int .u64 (n : Int), .slice po m.length pc, .bool q, .string v] 61)).alloc (.cells #[.slice vox cx.length vcx, .bool dx, .string ax, .int .u64 (nx : Int), .slice pox mx.length pcx, .bool qx, .string vx] 61)) = W0 at *
    generalize w.heap.size = g at *
    refine yk.mono ?_
    rintro e w1 ⟨rfl, k1⟩
    have K1 := kA.trans k1
    clear yk k1 kA
    go_wp2
    go_ret
    exact ⟨rfl, K1⟩
  | true =>
    rw [h1] at yk
    rw [Bool.true_and]
    clear h1
    cases h2 : qSame m mx with
    | false =>
      rw [h2] at yp
      rw [Bool.false_and]
      clear h2
      go_enter Tryz.func35, Tryz.ntmps35
      go_wp2_with fail
      generalize ((w.alloc (.cells #[.slice vo c.length vc, .bool d, .string a, .int .u64 (n : Int), .slice po m.length pc, .bool q, .string v] 61)).alloc (.cells #[.slice vox cx.length vcx, .bool dx, .string ax, .int .u64 (nx : Int), .slice pox mx.length pcx, .bool qx, .string vx] 61)) = W0 at *
      generalize w.heap.size = g at *
      refine yk.mono ?_
      rintro e w1 ⟨rfl, k1⟩
      have K1 := kA.trans k1
      replace x4 := k1.cell x4 (fun f => f)
      replace x5 := k1.cell x5 (fun f => f)
      replace x6 := k1.cell x6 (fun f => f)
      replace z4 := k1.cell z4 (fun f => f)
      replace z5 := k1.cell z5 (fun f => f)
      replace z6 := k1.cell z6 (fun f => f)
      have yp := yp _ (hPA.keep0 k1) (hPB.keep0 k1)
      clear yk k1 kA hPA hPB x0 x1 x2 x3 z0 z1 z2 z3
      go_wp2_with fail
      refine yp.mono ?_
      rintro e w2 ⟨rfl, hw2⟩
      have K2 := K1.trans (keepN hw2)
      replace x5 := (keepN hw2).cell x5 (fun f => f)
      replace x6 := (keepN hw2).cell x6 (fun f => f)
      replace z5 := (keepN hw2).cell z5 (fun f => f)
      replace z6 := (keepN hw2).cell z6 (fun f => f)
      clear yp hw2 K1 x4 z4
      go_wp2
      go_ret
      exact ⟨rfl, K2⟩
    | true =>
      rw [h2] at yp
      rw [Bool.true_and]
      clear h2
      by_cases h3 : q = qx
      · subst h3
        have e0 : (q == q) = true := by simp
        rw [e0, Bool.true_and]
        by_cases h4 : v = vx
        · subst h4
          rw [decide_eq_true rfl]
          clear e0
          generalize c.length = cl at *
          generalize cx.length = clx at *
          generalize m.length = ml at *
          generalize mx.length = mlx at *
          go_enter Tryz.func35, Tryz.ntmps35
          go_wp2_with fail
          generalize ((w.alloc (.cells #[.slice vo cl vc, .bool d, .string a, .int .u64 (n : Int), .slice po ml pc, .bool q, .string v] 61)).alloc (.cells #[.slice vox clx vcx, .bool dx, .string ax, .int .u64 (nx : Int), .slice pox mlx pcx, .bool q, .string v] 61)) = W0 at *
          generalize w.heap.size = g at *
          refine yk.mono ?_
          rintro e w1 ⟨rfl, k1⟩
          have K1 := kA.trans k1
          replace x4 := k1.cell x4 (fun f => f)
          replace x5 := k1.cell x5 (fun f => f)
          replace x6 := k1.cell x6 (fun f => f)
          replace z4 := k1.cell z4 (fun f => f)
          replace z5 := k1.cell z5 (fun f => f)
          replace z6 := k1.cell z6 (fun f => f)
          have yp := yp _ (hPA.keep0 k1) (hPB.keep0 k1)
          clear yk k1 kA hPA hPB x0 x1 x2 x3 z0 z1 z2 z3
          go_wp2_with fail
          refine yp.mono ?_
          rintro e w2 ⟨rfl, hw2⟩
          have K2 := K1.trans (keepN hw2)
          replace x5 := (keepN hw2).cell x5 (fun f => f)
          replace x6 := (keepN hw2).cell x6 (fun f => f)
          replace z5 := (keepN hw2).cell z5 (fun f => f)
          replace z6 := (keepN hw2).cell z6 (fun f => f)
          clear yp hw2 K1 x4 z4
          go_wp2
          go_ret
          exact ⟨rfl, K2⟩
        · rw [decide_eq_false h4]
          obtain ⟨e2, e3, e4⟩ := txt_ne h4
          have e5 : (v == vx) = false := by rw [beq_toListBytes]; exact e2
          clear e0
          go_enter Tryz.func35, Tryz.ntmps35
          go_wp2_with fail
          generalize ((w.alloc (.cells #[.slice vo c.length vc, .bool d, .string a, .int .u64 (n : Int), .slice po m.length pc, .bool q, .string v] 61)).alloc (.cells #[.slice vox cx.length vcx, .bool dx, .string ax, .int .u64 (nx : Int), .slice pox mx.length pcx, .bool q, .string vx] 61)) = W0 at *
          generalize w.heap.size = g at *
          refine yk.mono ?_
          rintro e w1 ⟨rfl, k1⟩
          have K1 := kA.trans k1
          replace x4 := k1.cell x4 (fun f => f)
          replace x5 := k1.cell x5 (fun f => f)
          replace x6 := k1.cell x6 (fun f => f)
          replace z4 := k1.cell z4 (fun f => f)
          replace z5 := k1.cell z5 (fun f => f)
          replace z6 := k1.cell z6 (fun f => f)
          have yp := yp _ (hPA.keep0 k1) (hPB.keep0 k1)
          clear yk k1 kA hPA hPB x0 x1 x2 x3 z0 z1 z2 z3
          go_wp2_with fail
          refine yp.mono ?_
          rintro e w2 ⟨rfl, hw2⟩
          have K2 := K1.trans (keepN hw2)
          replace x5 := (keepN hw2).cell x5 (fun f => f)
          replace x6 := (keepN hw2).cell x6 (fun f => f)
          replace z5 := (keepN hw2).cell z5 (fun f => f)
          replace z6 := (keepN hw2).cell z6 (fun f => f)
          clear yp hw2 K1 x4 z4
          go_wp2
          go_ret
          exact ⟨rfl, K2⟩
      · have e0 : (q == qx) = false := beq_eq_false_iff_ne.2 h3
        rw [e0, Bool.false_and]
        go_enter Tryz.func35, Tryz.ntmps35
        go_wp2_with fail
        generalize ((w.alloc (.cells #[.slice vo c.length vc, .bool d, .string a, .int .u64 (n : Int), .slice po m.length pc, .bool q, .string v] 61)).alloc (.cells #[.slice vox cx.length vcx, .bool dx, .string ax, .int .u64 (nx : Int), .slice pox mx.length pcx, .bool qx, .string vx] 61)) = W0 at *
        generalize w.heap.size = g at *
        refine yk.mono ?_
        rintro e w1 ⟨rfl, k1⟩
        have K1 := kA.trans k1
        replace x4 := k1.cell x4 (fun f => f)
        replace x5 := k1.cell x5 (fun f => f)
        replace x6 := k1.cell x6 (fun f => f)
        replace z4 := k1.cell z4 (fun f => f)
        replace z5 := k1.cell z5 (fun f => f)
        replace z6 := k1.cell z6 (fun f => f)
        have yp := yp _ (hPA.keep0 k1) (hPB.keep0 k1)
        clear yk k1 kA hPA hPB x0 x1 x2 x3 z0 z1 z2 z3
        go_wp2_with fail
        refine yp.mono ?_
        rintro e w2 ⟨rfl, hw2⟩
        have K2 := K1.trans (keepN hw2)
        replace x5 := (keepN hw2).cell x5 (fun f => f)
        replace x6 := (keepN hw2).cell x6 (fun f => f)
        replace z5 := (keepN hw2).cell z5 (fun f => f)
        replace z6 := (keepN hw2).cell z6 (fun f => f)
        clear yp hw2 K1 x4 z4
        go_wp2
        go_ret
        exact ⟨rfl, K2⟩
theorem rsame15 (w : World) (vo : Option Addr) (vc : Nat) (po : Option Addr) (pc : Nat) (x : Sb) (vo' : Option Addr) (vc' : Nat) (po' : Option Addr) (pc' : Nat) (y : Sb) (f : FitsS x) (f' : FitsS y) (h : SibIn w vo po pc x) (h' : SibIn w vo' po' pc' y) :
    Calls Tryz.prog 35 #[.agg #[.slice vo x.k.c.length vc, .bool x.k.d, .string x.k.x.a, .int .u64 (x.k.x.n : Int), .slice po x.m.length pc, .bool x.d, .string x.v], .agg #[.slice vo' y.k.c.length vc', .bool y.k.d, .string y.k.x.a, .int .u64 (y.k.x.n : Int), .slice po' y.m.length pc', .bool y.d, .string y.v]] w fun e w' => e = .returned (.bool (sSame x y)) ∧ Keep0 w w' :=
  rsame15_any w vo vc po pc x.k.c x.k.d x.k.x.a x.k.x.n x.m x.d x.v vo' vc' po' pc' y.k.c y.k.d y.k.x.a y.k.x.n y.m y.d y.v f.clk f.prs f'.clk f'.prs h.ens h.prs h'.ens h'.prs
end Go.Proofs.YtoefibkhlhmlfaaGreat
namespace Go.Proofs.YtoefibkhlhmlfaaGreat
open Go.RowKit Go.WideShapes Go.ChangeShapes
structure Sbl (w : World) where
  vo : Option Addr
  vc : Nat
  po : Option Addr
  pc : Nat
  x : Sb
  fits : FitsS x
  at_ : SibIn w vo po pc x
def Sbl.cs {w : World} (c : Sbl w) : List Value := [.slice c.vo c.x.k.c.length c.vc, .bool c.x.k.d, .string c.x.k.x.a, .int .u64 (c.x.k.x.n : Int), .slice c.po c.x.m.length c.pc, .bool c.x.d, .string c.x.v]
end Go.Proofs.YtoefibkhlhmlfaaGreat
namespace Go.Proofs.YtoefibkhlhmlfaaGreat
open Go.RowKit
theorem set_fine {s : ByteArray} {a x : Int} (h : gSet s a x = true) : x = 0 ∧ gErr s a x = 0 := by
  have hb : cByte s a x = 1 := of_decide_eq_true h
  have h2 : x = 0 ∧ a < s.size := by
    refine Decidable.byContradiction fun e => ?_
    unfold cByte at hb
    rw [if_neg e] at hb
    exact absurd hb (by decide)
  obtain ⟨rfl, h3⟩ := h2
  refine ⟨rfl, ?_⟩
  unfold gErr
  rw [if_neg (by omega), cErr_fit (by decide) (by omega)]
theorem set_err {s : ByteArray} {a x : Int} (h : x ≠ 0) : gSet s a x = false ∧ gErr s a x = x ∧ cAt s a x 1 = a := by
  have hb : cByte s a x = 0 := if_neg (fun e => h e.1)
  refine ⟨?_, ?_, cAt_bad 1 h⟩
  · unfold gSet
    rw [hb]
    rfl
  · unfold gErr
    rw [hb, if_neg (by decide), cErr_bad 1 h]
def kWhen (k : Ck) (A F : Int) : Ck × Int × Int := if F = 0 then (k, A, 0) else (zCk, A, F)
theorem when_yes (k : Ck) (A : Int) : kWhen k A 0 = (k, A, 0) := if_pos rfl
theorem when_no {k : Ck} {A F : Int} (h : F ≠ 0) : kWhen k A F = (zCk, A, F) := if_neg h
section
variable {s : ByteArray} {a x : Int} {V : List En} {b E : Int}
theorem chain_plain (hr : rX [] rVec s a x = (V, b, E)) (hv : vCheck V = 0) (hs : gSet s b E = false) :
    rX zCk rClk s a x = kWhen ⟨V, false, zEn⟩ (cAt s b E 1) (cFail (gErr s b E) (kCheck ⟨V, false, zEn⟩)) := by
  by_cases hE : E = 0
  · subst hE
    have hx : x = 0 := by
      refine Decidable.byContradiction fun e => ?_
      rw [rX_no e] at hr
      exact e (congrArg (fun q : List En × Int × Int => q.2.2) hr)
    subst hx
    rw [rX_yes] at hr ⊢
    by_cases hg : gErr s b 0 = 0
    · have hk : kCheck ⟨V, false, zEn⟩ = 0 := by
        rw [check_dot (k := ⟨V, false, zEn⟩) hv]
        exact dot_p0 rfl rfl rfl
      rw [clk_3 hr hg hs, hg, hk, cFail_yes, when_yes]
    · rw [clk_2 hr hg, cFail_no hg, when_no hg]
  · obtain ⟨_, h1, h2⟩ := set_err (s := s) (a := b) hE
    rw [h1, h2, cFail_no hE, when_no hE]
    by_cases hx : x = 0
    · subst hx
      rw [rX_yes] at hr ⊢
      rw [clk_1 (by rw [hr]; exact hE), hr]
    · rw [rX_no hx] at hr ⊢
      have h3 : (a, x) = (b, E) := congrArg (fun q : List En × Int × Int => q.2) hr
      show (zCk, (a, x)) = (zCk, (b, E))
      rw [h3]
theorem chain_dot (hr : rX [] rVec s a x = (V, b, E)) (hv : vCheck V = 0) (hs : gSet s b E = true) {A : Int} (hA : cAt s b E 1 = A) {N : Nat} (hN : tNum s (bAt s A 0 32) (zAct none s A) = (N : Int)) :
    rX zCk rClk s a x = kWhen ⟨V, true, ⟨bTxt s A 0 32, N⟩⟩ (tAt s (bAt s A 0 32) (zAct none s A)) (cFail (tErr s (bAt s A 0 32) (zAct none s A)) (kCheck ⟨V, true, ⟨bTxt s A 0 32, N⟩⟩)) := by
  obtain ⟨rfl, hg⟩ := set_fine hs
  have hx : x = 0 := by
    refine Decidable.byContradiction fun e => ?_
    rw [rX_no e] at hr
    exact e (congrArg (fun q : List En × Int × Int => q.2.2) hr)
  subst hx
  rw [rX_yes] at hr ⊢
  rw [clk_dot hr hg hs, hA]
  have hall := ent_all none s A
  have hz : zCnt s (bAt s A 0 32) (zAct none s A) = if N = 0 then cFail (tErr s (bAt s A 0 32) (zAct none s A)) 7 else tErr s (bAt s A 0 32) (zAct none s A) := by
    unfold zCnt
    rw [hN]
    by_cases h : N = 0
    · subst h; rfl
    · rw [if_neg h, if_neg (by omega)]
  by_cases h3 : tErr s (bAt s A 0 32) (zAct none s A) = 0
  case neg =>
    have hz2 : zCnt s (bAt s A 0 32) (zAct none s A) = tErr s (bAt s A 0 32) (zAct none s A) := by
      rw [hz]
      split
      · exact cFail_no h3 7
      · rfl
    rw [hz2] at hall
    have hd := dot_bad (V := V) (show (rEnt none s A).2.2 ≠ 0 by rw [hall]; exact h3)
    rw [hall] at hd
    rw [hd, if_neg h3, cFail_no h3, when_no h3]
  have h2 : zAct none s A = 0 := by
    refine Decidable.byContradiction fun e => ?_
    rw [tErr_err e] at h3
    exact e h3
  have hsz : (bTxt s A 0 32).size ≤ 32 := zAct_size
  have hne : (bTxt s A 0 32).size ≠ 0 := by
    intro e
    have e2 : aTest none (bTxt s A 0 32) = 14 := if_pos e
    unfold zAct at h2
    rw [e2] at h2
    unfold cFail at h2
    split at h2
    · exact absurd h2 (by decide)
    · rename_i h4; exact h4 h2
  have hck : kCheck ⟨V, true, ⟨bTxt s A 0 32, N⟩⟩ = kDot ⟨V, true, ⟨bTxt s A 0 32, N⟩⟩ := check_dot (k := ⟨V, true, ⟨bTxt s A 0 32, N⟩⟩) hv
  rw [h3, cFail_yes, hck]
  rw [h3] at hz
  by_cases h4 : N = 0
  · rw [if_pos h4, cFail_yes] at hz
    rw [hz] at hall
    have hd := dot_bad (V := V) (show (rEnt none s A).2.2 ≠ 0 by rw [hall]; show (7 : Int) ≠ 0; decide)
    rw [hall] at hd
    rw [hd, if_neg (show ¬ (7 : Int) = 0 by decide), dot_7 (k := ⟨V, true, ⟨bTxt s A 0 32, N⟩⟩) rfl (by show ¬ 32 < (bTxt s A 0 32).size; omega) hne h4, when_no (by decide)]
  · rw [if_neg h4] at hz
    have hf := ent_fine (p := none) hz
    rw [hz] at hall
    have hN2 : (tNum s (bAt s A 0 32) (zAct none s A)).toNat = N := by omega
    rw [hN2] at hf
    have h0 : (rEnt none s A).2.2 = 0 := by rw [hall]
    by_cases h5 : N ≤ vCount V (bTxt s A 0 32)
    · have hd := dot_15' (V := V) h0 (by rw [hf]; exact h5)
      rw [hall] at hd
      rw [hd, if_neg (show ¬ (15 : Int) = 0 by decide), dot_15 (k := ⟨V, true, ⟨bTxt s A 0 32, N⟩⟩) rfl (by show ¬ 32 < (bTxt s A 0 32).size; omega) hne h4 h5, when_no (by decide)]
    · have hd := dot_yes (V := V) h0 (by rw [hf]; exact h5)
      rw [hd, h0, if_pos rfl, hf, hall, dot_0 (k := ⟨V, true, ⟨bTxt s A 0 32, N⟩⟩) rfl (by show ¬ 32 < (bTxt s A 0 32).size; omega) hne h4 h5, when_yes]
end
theorem vec_bad {s : ByteArray} {a : Int} (he : (rVec s a).2.2 ≠ 0) : (rVec s a).1 = [] := by
  by_cases hk : kErr s a 0 64 = 0
  · rw [vec_b hk] at he ⊢
    unfold lift at he ⊢
    split
    · rename_i h; rw [if_pos h] at he; exact absurd h he
    · rfl
  · rw [vec_a hk]
theorem vec_right {s : ByteArray} {a x : Int} (h0 : 0 ≤ a) (h1 : a ≤ s.size) {V : List En} {b E : Int} (hr : rX [] rVec s a x = (V, b, E)) : vCheck V = 0 ∧ Ok10 V := by
  have hn : vCheck [] = 0 ∧ Ok10 [] := ⟨rfl, by simp [Ok10]⟩
  by_cases hx : x = 0
  · subst hx
    rw [rX_yes] at hr
    have e1 : (rVec s a).1 = V := by rw [hr]
    by_cases he : (rVec s a).2.2 = 0
    · obtain ⟨hk, hu⟩ := (vec_codec.read h0 h1 he).1
      rw [e1] at hk hu
      obtain ⟨h2, h3⟩ := (check_zero _).1 hk
      exact ⟨hk, by omega, fun y hy => ⟨by have := (h3.1 y hy).2.1; unfold maxLen; omega, hu y hy⟩⟩
    · rw [vec_bad he] at e1
      rw [← e1]
      exact hn
  · rw [rX_no hx] at hr
    have e1 : [] = V := congrArg Prod.fst hr
    rw [← e1]
    exact hn
end Go.Proofs.YtoefibkhlhmlfaaGreat
namespace Go.Proofs.YtoefibkhlhmlfaaGreat
open Go.RowKit
structure Ok13 (k : Ck) : Prop where
  len : k.c.length ≤ 10000
  fit : FitsK k
theorem Ok13.u64 {k : Ck} (h : Ok13 k) : (∀ x ∈ k.c, U64 x.n) ∧ U64 k.x.n := ⟨fun x hx => (h.fit.vec.2 x hx).2, h.fit.num⟩
def kBelow (a b : Ck) : Bool × Int := if kCheck a = 0 ∧ kCheck b = 0 then (bl (eClk a) (eClk b), 0) else (false, 1)
end Go.Proofs.YtoefibkhlhmlfaaGreat
