/-
  What this seat's claims lean on of the texts Law17, PlMem, RefSib.
  Conditions: as each theorem states.
-/
import Derived.WalkKit
import Derived.ProofKit
import Derived.Below
import Derived.Deep.Draws
import Derived.Deep.RegionHeld
import Derived.Test.YtoefibkhlhmlfaaGreatChecked
import Derived.OpenShut
import Derived.ShutString
import Derived.WalkSpells
import Derived.WalkLawsBesides
import Derived.Deep.QuietTactic
import Derived.BigQuiet
import Derived.Laws.Bits64b
import Derived.PlainAid
import Derived.Lib.AppendStr
import Derived.Deep.AppendLies
import Derived.Laws.IdiomStrings
import Derived.Laws.BytesArg
import Derived.Deep.RegionWith
import Derived.Laws.AppendOwn
import Derived.Deep.DeepAppendWide
import Derived.Deep.Upon
import Derived.Maps.AppendAt
import Derived.Deep.Slices
import Derived.Test.YtoefibkhlhmlfaaGreatZ19
import Derived.Test.YtoefibkhlhmlfaaGreatZ15
import Derived.Test.YtoefibkhlhmlfaaGreatZ16
import Derived.Laws.Rows
import Derived.Test.YtoefibkhlhmlfaaGreatZ8
import Derived.Test.YtoefibkhlhmlfaaGreatZ20
import Derived.Test.YtoefibkhlhmlfaaGreatZ3
import Derived.Test.YtoefibkhlhmlfaaGreatZ12
namespace Go.Proofs.YtoefibkhlhmlfaaGreat
open Go.RowKit
structure Ok17 (key : ByteArray) (L : List Po) : Prop where
  key : key.size ≤ 1000000
  len : L.length ≤ 100
  sib : ∀ p ∈ L, p.x.c.length ≤ 10000 ∧ FitsOs p.x
  val : ∀ p ∈ L, p.x.v.size ≤ 1000000
theorem Ok17.u {key : ByteArray} {L : List Po} (h : Ok17 key L) : ∀ x ∈ L.map Po.x, osU x := fun x hx => by
  obtain ⟨p, hp, rfl⟩ := List.mem_map.1 hx
  exact fun y hy => ((h.sib p hp).2.vec.2 y hy).2
def ROlE (p : Ol × Int) (w : World) (e : Ending) (w' : World) : Prop := ∃ ao cap L, e = .returned (.tuple #[.agg #[.string p.1.key, .slice ao L.length cap], .int .i64 p.2]) ∧ L.map Po.x = p.1.l ∧ L.length ≤ cap ∧ cap ≤ maxLen ∧ PosAt w' ao L ∧ Keep0 w w'
theorem ROlE.bare {p : Ol × Int} {w w' : World} {e : Ending} {E : Int} (hp : p = (zOl, E)) (h : e = .returned (.tuple #[.agg #[.string ⟨#[]⟩, .slice none 0 0], .int .i64 E])) (h3 : Keep0 w w') : ROlE p w e w' := by
  subst hp
  exact ⟨none, 0, [], h, rfl, Nat.le_refl _, Nat.zero_le _, PosAt.nil _ _, h3⟩
theorem great_ok17 {key : ByteArray} {L : List Po} (hf : ∀ p ∈ L, FitsOs p.x) (h : olGreat ⟨key, L.map Po.x⟩ = false) : Ok17 key L ∧ L.length ≤ 20 := by
  obtain ⟨h1, h2, h3⟩ := olGreat_no h
  have h1 : key.size ≤ 200 := h1
  have h2 : (L.map Po.x).length ≤ 20 := h2
  rw [List.length_map] at h2
  refine ⟨⟨by omega, by omega, fun p hp => ⟨?_, hf p hp⟩, fun p hp => ?_⟩, h2⟩
  · have := (great_no (h3 p.x (List.mem_map.2 ⟨p, hp, rfl⟩)).1).1
    omega
  · have := (h3 p.x (List.mem_map.2 ⟨p, hp, rfl⟩)).2
    omega
end Go.Proofs.YtoefibkhlhmlfaaGreat
namespace Go.Proofs.YtoefibkhlhmlfaaGreat
open Go.RowKit
structure Pl where
  x : Sb
  vo : Option Addr
  vc : Nat
  po : Option Addr
  pc : Nat
instance : Inhabited Pl := ⟨⟨zSb, none, 0, none, 0⟩⟩
def Pl.cells (p : Pl) : List Value := [.slice p.vo p.x.k.c.length p.vc, .bool p.x.k.d, .string p.x.k.x.a, .int .u64 (p.x.k.x.n : Int), .slice p.po p.x.m.length p.pc, .bool p.x.d, .string p.x.v]
def Pl.in (w : World) (p : Pl) : Prop := SibIn w p.vo p.po p.pc p.x
theorem pl_one (p : Pl) : ∀ u ∈ p.cells, u.oneCell' = true := by
  intro u hu
  simp only [Pl.cells, List.mem_cons, List.mem_nil_iff, or_false] at hu
  rcases hu with rfl | rfl | rfl | rfl | rfl | rfl | rfl <;> rfl
theorem sib_info : (Tryz.prog.info? 61).map (fun i => (i.zero, i.size, i.bytes)) = some (some (.agg #[.slice none 0 0, .bool false, .string ⟨#[]⟩, .int .u64 0, .slice none 0 0, .bool false, .string ⟨#[]⟩]), 7, 104) := by kernel_rfl
theorem plT : ElemT Pl.cells 7 25 61 where
  len := fun _ => rfl
  pos := by decide
  one := pl_one
  slice := Tryz.underlying25
  info := by
    obtain ⟨i0, hi, z0, z1, z2⟩ := info_parts sib_info
    exact ⟨i0, _, 104, hi, z0, z1, z2, rfl, by decide⟩
structure PlsAt (w : World) (ao : Option Addr) (L : List Pl) : Prop where
  row : RowAt Pl.cells 7 w ao L
  ins : ∀ p ∈ L, p.in w
theorem PlsAt.keep0 {w w' : World} {ao : Option Addr} {L : List Pl} (h : PlsAt w ao L) (K : Keep0 w w') : PlsAt w' ao L := ⟨h.row.keep0 K, fun p hp => SibIn.keep0 (h.ins p hp) K⟩
theorem PlsAt.nil (w : World) (ao : Option Addr) : PlsAt w ao [] := ⟨rowAt_nil _ _, (fun _ h => by cases h)⟩
theorem PlsAt.at_ {w : World} {ao : Option Addr} {L : List Pl} (h : PlsAt w ao L) (i : Nat) (hi : i < L.length) : ∃ b off, ao = some ⟨b, off, none⟩ ∧ SibAt w b (off + i * 7) L[i].x L[i].vo L[i].vc L[i].po L[i].pc ∧ SibIn w L[i].vo L[i].po L[i].pc L[i].x := by
  obtain ⟨b, off, e, h1⟩ := h.row i hi
  exact ⟨b, off, e, ⟨h1 0 _ rfl, h1 1 _ rfl, h1 2 _ rfl, h1 3 _ rfl, h1 4 _ rfl, h1 5 _ rfl, h1 6 _ rfl⟩, h.ins _ (List.getElem_mem hi)⟩
theorem PlsAt.sibs {w : World} {ao : Option Addr} {L : List Pl} (h : PlsAt w ao L) : SibsAt w ao (L.map Pl.x) := by
  intro i hi
  have hi' : i < L.length := by simpa using hi
  obtain ⟨b, off, e, h1, h2⟩ := h.at_ i hi'
  rw [List.getElem_map]
  exact ⟨b, off, L[i].vo, L[i].vc, L[i].po, L[i].pc, e, h1, h2⟩
theorem sibs_pls {w : World} {ao : Option Addr} {l : List Sb} (h : SibsAt w ao l) : ∃ L : List Pl, L.map Pl.x = l ∧ PlsAt w ao L := by
  have each : ∀ i, i < l.length → ∃ p : Pl, l[i]? = some p.x ∧ ∃ b off, ao = some ⟨b, off, none⟩ ∧ SibAt w b (off + i * 7) p.x p.vo p.vc p.po p.pc ∧ SibIn w p.vo p.po p.pc p.x := by
    intro i hi
    obtain ⟨b, off, vo, vc, po, pc, e, h1, h2⟩ := h i hi
    exact ⟨⟨l[i], vo, vc, po, pc⟩, List.getElem?_eq_getElem hi, b, off, e, h1, h2⟩
  obtain ⟨q, hq⟩ := Go.Deep.choose_lt each
  have hL : ((List.range l.length).map q).length = l.length := by simp
  have hg : ∀ i (hi : i < ((List.range l.length).map q).length), ((List.range l.length).map q)[i] = q i := by
    intro i hi
    simp
  refine ⟨(List.range l.length).map q, ?_, ?_, ?_⟩
  · apply List.ext_getElem (by simp)
    intro i h1 h2
    have := (hq i h2).1
    rw [List.getElem?_eq_getElem h2] at this
    rw [List.getElem_map, hg]
    exact (Option.some.inj this).symm
  · intro i hi
    have hi' : i < l.length := by rw [hL] at hi; exact hi
    obtain ⟨_, b, off, e, h1, h2⟩ := hq i hi'
    refine ⟨b, off, e, fun j u hu => ?_⟩
    rw [hg] at hu
    match j, hu with
    | 0, hu => cases hu; exact h1.c0
    | 1, hu => cases hu; exact h1.c1
    | 2, hu => cases hu; exact h1.c2
    | 3, hu => cases hu; exact h1.c3
    | 4, hu => cases hu; exact h1.c4
    | 5, hu => cases hu; exact h1.c5
    | 6, hu => cases hu; exact h1.c6
    | j + 7, hu => cases hu
  · intro p hp
    obtain ⟨i, hi, rfl⟩ := List.mem_map.1 hp
    obtain ⟨_, b, off, e, h1, h2⟩ := hq i (List.mem_range.1 hi)
    exact h2
theorem pl_new (w : World) (t : TypeId) (p : Pl) : RowAt Pl.cells 7 (w.alloc (.cells #[.slice p.vo p.x.k.c.length p.vc, .bool p.x.k.d, .string p.x.k.x.a, .int .u64 (p.x.k.x.n : Int), .slice p.po p.x.m.length p.pc, .bool p.x.d, .string p.x.v] t)) (some ⟨w.heap.size, 0, none⟩) [p] := by
  intro i hi
  obtain rfl : i = 0 := by simpa using hi
  refine ⟨w.heap.size, 0, rfl, fun j u hu => ?_⟩
  have h1 := sib_new w t p.x p.vo p.vc p.po p.pc
  match j, hu with
  | 0, hu => cases hu; exact h1.c0
  | 1, hu => cases hu; exact h1.c1
  | 2, hu => cases hu; exact h1.c2
  | 3, hu => cases hu; exact h1.c3
  | 4, hu => cases hu; exact h1.c4
  | 5, hu => cases hu; exact h1.c5
  | 6, hu => cases hu; exact h1.c6
  | j + 7, hu => cases hu
end Go.Proofs.YtoefibkhlhmlfaaGreat
namespace Go.Proofs.YtoefibkhlhmlfaaGreat
open Go.RowKit
set_option maxRecDepth 100000 in
set_option maxHeartbeats 4000000 in
theorem rcheck15_any (w : World) (vo : Option Addr) (vc : Nat) (po : Option Addr) (pc : Nat) (c : List En) (d : Bool) (a : ByteArray) (n : Nat) (m : List Pr) (q : Bool) (v : ByteArray) (fk : FitsK ⟨c, d, ⟨a, n⟩⟩) (fp : FitsP m) (fv : v.size ≤ maxLen) (hE : EnsAt w vo c) (hP : PrsAt w po m) :
    Calls Tryz.prog 49 #[.agg #[.slice vo c.length vc, .bool d, .string a, .int .u64 (n : Int), .slice po m.length pc, .bool q, .string v]] w fun e w' => e = .returned (.int .i64 (sCheck ⟨⟨c, d, ⟨a, n⟩⟩, m, q, v⟩)) ∧ Keep0 w w' := by
  have kA : Keep0 w (w.alloc (.cells #[.slice vo c.length vc, .bool d, .string a, .int .u64 (n : Int), .slice po m.length pc, .bool q, .string v] 61)) := (Keep.refl _ w).alloc _
  obtain ⟨x0, x1, x2, x3, x4, x5, x6⟩ := sib_new w 61 ⟨⟨c, d, ⟨a, n⟩⟩, m, q, v⟩ vo vc po pc
  have yk := rcheck12 (w.alloc (.cells #[.slice vo c.length vc, .bool d, .string a, .int .u64 (n : Int), .slice po m.length pc, .bool q, .string v] 61)) vo vc ⟨c, d, ⟨a, n⟩⟩ fk (hE.keep0 kA)
  have yp := fun W (h : PrsAt W po m) => rcheck14 W po pc m fp h
  have hPA := hP.keep0 kA
  have i0 : (v.size : Int) ≤ 9223372036854775807 := by unfold maxLen at fv; omega
  have a1 := sCheck_a (x := ⟨⟨c, d, ⟨a, n⟩⟩, m, q, v⟩)
  have a2 := sCheck_b (x := ⟨⟨c, d, ⟨a, n⟩⟩, m, q, v⟩)
  have a3 := sCheck_c (x := ⟨⟨c, d, ⟨a, n⟩⟩, m, q, v⟩)
  have a4 := (sCheck_zero (x := ⟨⟨c, d, ⟨a, n⟩⟩, m, q, v⟩)).2
  by_cases h1 : kCheck ⟨c, d, ⟨a, n⟩⟩ = 0
  case neg =>
    rw [a1 h1]
    have e1 : (kCheck ⟨c, d, ⟨a, n⟩⟩ != 0) = true := by simpa using h1
    clear a1 a2 a3 a4 yp hPA fk fp fv hE hP
    show Calls _ _ _ _ fun e w' => e = .returned (.int .i64 (kCheck ⟨c, d, ⟨a, n⟩⟩)) ∧ Keep0 w w'
    generalize kCheck ⟨c, d, ⟨a, n⟩⟩ = C at *
    go_enter Tryz.func49, Tryz.ntmps49
    go_wp2_with fail
    generalize (w.alloc (.cells #[.slice vo c.length vc, .bool d, .string a, .int .u64 (n : Int), .slice po m.length pc, .bool q, .string v] 61)) = W0 at *
    generalize w.heap.size = g at *
    refine yk.mono ?_
    rintro e w1 ⟨rfl, k1⟩
    have K1 := kA.trans k1
    clear yk k1 kA
    go_wp2
    go_ret
    exact ⟨rfl, K1⟩
  rw [h1] at yk
  by_cases h2 : qCheck m = 0
  case neg =>
    rw [a2 h1 h2]
    have e1 : (qCheck m != 0) = true := by simpa using h2
    clear a1 a2 a3 a4 fk fp fv hE hP
    show Calls _ _ _ _ fun e w' => e = .returned (.int .i64 (qCheck m)) ∧ Keep0 w w'
    generalize qCheck m = C at *
    go_enter Tryz.func49, Tryz.ntmps49
    go_wp2_with fail
    generalize (w.alloc (.cells #[.slice vo c.length vc, .bool d, .string a, .int .u64 (n : Int), .slice po m.length pc, .bool q, .string v] 61)) = W0 at *
    generalize w.heap.size = g at *
    refine yk.mono ?_
    rintro e w1 ⟨rfl, k1⟩
    have K1 := kA.trans k1
    replace x4 := k1.cell x4 (fun f => f)
    have yp := yp _ (hPA.keep0 k1)
    clear yk k1 kA hPA x0 x1 x2 x3 x5 x6
    go_wp2_with fail
    refine yp.mono ?_
    rintro e w2 ⟨rfl, hw2⟩
    have K2 := K1.trans (keepN hw2)
    clear yp hw2 K1
    go_wp2
    go_ret
    exact ⟨rfl, K2⟩
  rw [h2] at yp
  by_cases h3 : 32768 < v.size
  · rw [a3 h1 h2 h3]
    have j1 : (32768 : Int) < v.size := by omega
    have j2 : decide ((32768 : Int) < (v.size : Int)) = true := decide_eq_true j1
    clear a1 a2 a3 a4 fk fp fv hE hP h3
    go_enter Tryz.func49, Tryz.ntmps49
    go_wp2_with fail
    generalize (w.alloc (.cells #[.slice vo c.length vc, .bool d, .string a, .int .u64 (n : Int), .slice po m.length pc, .bool q, .string v] 61)) = W0 at *
    generalize w.heap.size = g at *
    refine yk.mono ?_
    rintro e w1 ⟨rfl, k1⟩
    have K1 := kA.trans k1
    replace x4 := k1.cell x4 (fun f => f)
    replace x6 := k1.cell x6 (fun f => f)
    have yp := yp _ (hPA.keep0 k1)
    clear yk k1 kA hPA x0 x1 x2 x3 x5
    go_wp2_with fail
    refine yp.mono ?_
    rintro e w2 ⟨rfl, hw2⟩
    have K2 := K1.trans (keepN hw2)
    replace x6 := (keepN hw2).cell x6 (fun f => f)
    clear yp hw2 K1 x4
    go_wp2
    go_ret
    exact ⟨rfl, K2⟩
  · rw [a4 ⟨h1, h2, by show v.size ≤ 32768; omega⟩]
    have j1 : ¬ (32768 : Int) < v.size := by omega
    have j2 : decide ((32768 : Int) < (v.size : Int)) = false := decide_eq_false j1
    clear a1 a2 a3 a4 fk fp fv hE hP h3
    go_enter Tryz.func49, Tryz.ntmps49
    go_wp2_with fail
    generalize (w.alloc (.cells #[.slice vo c.length vc, .bool d, .string a, .int .u64 (n : Int), .slice po m.length pc, .bool q, .string v] 61)) = W0 at *
    generalize w.heap.size = g at *
    refine yk.mono ?_
    rintro e w1 ⟨rfl, k1⟩
    have K1 := kA.trans k1
    replace x4 := k1.cell x4 (fun f => f)
    replace x6 := k1.cell x6 (fun f => f)
    have yp := yp _ (hPA.keep0 k1)
    clear yk k1 kA hPA x0 x1 x2 x3 x5
    go_wp2_with fail
    refine yp.mono ?_
    rintro e w2 ⟨rfl, hw2⟩
    have K2 := K1.trans (keepN hw2)
    replace x6 := (keepN hw2).cell x6 (fun f => f)
    clear yp hw2 K1 x4
    go_wp2
    go_ret
    exact ⟨rfl, K2⟩
theorem rcheck15 (w : World) (vo : Option Addr) (vc : Nat) (po : Option Addr) (pc : Nat) (x : Sb) (f : FitsS x) (h : SibIn w vo po pc x) :
    Calls Tryz.prog 49 #[.agg #[.slice vo x.k.c.length vc, .bool x.k.d, .string x.k.x.a, .int .u64 (x.k.x.n : Int), .slice po x.m.length pc, .bool x.d, .string x.v]] w fun e w' => e = .returned (.int .i64 (sCheck x)) ∧ Keep0 w w' :=
  rcheck15_any w vo vc po pc x.k.c x.k.d x.k.x.a x.k.x.n x.m x.d x.v f.clk f.prs f.val h.ens h.prs
def sGreat (x : Sb) : Bool := kGreat x.k || (qGreat x.m || decide (200 < x.v.size))
theorem sGreat_no {x : Sb} (h : sGreat x = false) : kGreat x.k = false ∧ qGreat x.m = false ∧ x.v.size ≤ 200 := by
  unfold sGreat at h
  rw [Bool.or_eq_false_iff, Bool.or_eq_false_iff] at h
  exact ⟨h.1, h.2.1, by have := of_decide_eq_false h.2.2; omega⟩
set_option maxRecDepth 100000 in
set_option maxHeartbeats 4000000 in
theorem rgreat15_any (w : World) (vo : Option Addr) (vc : Nat) (po : Option Addr) (pc : Nat) (c : List En) (d : Bool) (a : ByteArray) (n : Nat) (m : List Pr) (q : Bool) (v : ByteArray) (fk : FitsK ⟨c, d, ⟨a, n⟩⟩) (fp : FitsP m) (fv : v.size ≤ maxLen) (hE : EnsAt w vo c) (hP : PrsAt w po m) :
    Calls Tryz.prog 26 #[.agg #[.slice vo c.length vc, .bool d, .string a, .int .u64 (n : Int), .slice po m.length pc, .bool q, .string v]] w fun e w' => e = .returned (.bool (sGreat ⟨⟨c, d, ⟨a, n⟩⟩, m, q, v⟩)) ∧ Keep0 w w' := by
  have kA : Keep0 w (w.alloc (.cells #[.slice vo c.length vc, .bool d, .string a, .int .u64 (n : Int), .slice po m.length pc, .bool q, .string v] 61)) := (Keep.refl _ w).alloc _
  obtain ⟨x0, x1, x2, x3, x4, x5, x6⟩ := sib_new w 61 ⟨⟨c, d, ⟨a, n⟩⟩, m, q, v⟩ vo vc po pc
  have yk := rgreat12 (w.alloc (.cells #[.slice vo c.length vc, .bool d, .string a, .int .u64 (n : Int), .slice po m.length pc, .bool q, .string v] 61)) vo vc ⟨c, d, ⟨a, n⟩⟩ fk (hE.keep0 kA)
  have yp := fun W (h : PrsAt W po m) => rgreat14 W po pc m fp h
  have hPA := hP.keep0 kA
  have i0 : (v.size : Int) ≤ 9223372036854775807 := by unfold maxLen at fv; omega
  have hk : sGreat ⟨⟨c, d, ⟨a, n⟩⟩, m, q, v⟩ = (kGreat ⟨c, d, ⟨a, n⟩⟩ || (qGreat m || decide (200 < v.size))) := rfl
  rw [hk]
  have j1 : decide ((200 : Int) < (v.size : Int)) = decide (200 < v.size) := by rw [decide_eq_decide]; omega
  clear hk fk fp fv hE hP
  generalize decide (200 < v.size) = r at *
  cases h1 : kGreat ⟨c, d, ⟨a, n⟩⟩ with
  | true =>
    rw [h1] at yk
    rw [Bool.true_or]
    clear h1 yp hPA
    go_enter Tryz.func26, Tryz.ntmps26
    go_wp2_with fail
    generalize (w.alloc (.cells #[.slice vo c.length vc, .bool d, .string a, .int .u64 (n : Int), .slice po m.length pc, .bool q, .string v] 61)) = W0 at *
    generalize w.heap.size = g at *
    refine yk.mono ?_
    rintro e w1 ⟨rfl, k1⟩
    have K1 := kA.trans k1
    clear yk k1 kA
    go_wp2
    go_ret
    exact ⟨rfl, K1⟩
  | false =>
    rw [h1] at yk
    rw [Bool.false_or]
    clear h1
    cases h2 : qGreat m with
    | true =>
      rw [h2] at yp
      rw [Bool.true_or]
      clear h2
      go_enter Tryz.func26, Tryz.ntmps26
      go_wp2_with fail
      generalize (w.alloc (.cells #[.slice vo c.length vc, .bool d, .string a, .int .u64 (n : Int), .slice po m.length pc, .bool q, .string v] 61)) = W0 at *
      generalize w.heap.size = g at *
      refine yk.mono ?_
      rintro e w1 ⟨rfl, k1⟩
      have K1 := kA.trans k1
      replace x4 := k1.cell x4 (fun f => f)
      replace x6 := k1.cell x6 (fun f => f)
      have yp := yp _ (hPA.keep0 k1)
      clear yk k1 kA hPA x0 x1 x2 x3 x5
      go_wp2_with fail
      refine yp.mono ?_
      rintro e w2 ⟨rfl, rfl⟩
      clear yp
      go_wp2
      go_ret
      exact ⟨rfl, K1⟩
    | false =>
      rw [h2] at yp
      rw [Bool.false_or]
      clear h2
      go_enter Tryz.func26, Tryz.ntmps26
      go_wp2_with fail
      generalize (w.alloc (.cells #[.slice vo c.length vc, .bool d, .string a, .int .u64 (n : Int), .slice po m.length pc, .bool q, .string v] 61)) = W0 at *
      generalize w.heap.size = g at *
      refine yk.mono ?_
      rintro e w1 ⟨rfl, k1⟩
      have K1 := kA.trans k1
      replace x4 := k1.cell x4 (fun f => f)
      replace x6 := k1.cell x6 (fun f => f)
      have yp := yp _ (hPA.keep0 k1)
      clear yk k1 kA hPA x0 x1 x2 x3 x5
      go_wp2_with fail
      refine yp.mono ?_
      rintro e w2 ⟨rfl, rfl⟩
      clear yp
      go_wp2
      go_ret
      exact ⟨rfl, K1⟩
theorem rgreat15 (w : World) (vo : Option Addr) (vc : Nat) (po : Option Addr) (pc : Nat) (x : Sb) (f : FitsS x) (h : SibIn w vo po pc x) :
    Calls Tryz.prog 26 #[.agg #[.slice vo x.k.c.length vc, .bool x.k.d, .string x.k.x.a, .int .u64 (x.k.x.n : Int), .slice po x.m.length pc, .bool x.d, .string x.v]] w fun e w' => e = .returned (.bool (sGreat x)) ∧ Keep0 w w' :=
  rgreat15_any w vo vc po pc x.k.c x.k.d x.k.x.a x.k.x.n x.m x.d x.v f.clk f.prs f.val h.ens h.prs
def sSame (x y : Sb) : Bool := kSame x.k y.k && (qSame x.m y.m && ((x.d == y.d) && decide (x.v = y.v)))
theorem sSame_iff {x y : Sb} : sSame x y = true ↔ x = y := by
  obtain ⟨k, m, d, v⟩ := x
  obtain ⟨k', m', d', v'⟩ := y
  unfold sSame
  rw [Bool.and_eq_true, Bool.and_eq_true, Bool.and_eq_true, kSame_iff, qSame_iff, beq_iff_eq, decide_eq_true_eq]
  constructor
  · rintro ⟨h1, h2, h3, h4⟩
    have h1 : k = k' := h1
    have h2 : m = m' := h2
    have h3 : d = d' := h3
    have h4 : v = v' := h4
    subst h1 h2 h3 h4
    rfl
  · intro h
    cases h
    exact ⟨rfl, rfl, rfl, rfl⟩
set_option maxRecDepth 100000 in
set_option maxHeartbeats 4000000 in
theorem rsame15_any (w : World) (vo : Option Addr) (vc : Nat) (po : Option Addr) (pc : Nat) (c : List En) (d : Bool) (a : ByteArray) (n : Nat) (m : List Pr) (q : Bool) (v : ByteArray) (vox : Option Addr) (vcx : Nat) (pox : Option Addr) (pcx : Nat) (cx : List En) (dx : Bool) (ax : ByteArray) (nx : Nat) (mx : List Pr) (qx : Bool) (vx : ByteArray) (fk : FitsK ⟨c, d, ⟨a, n⟩⟩) (fp : FitsP m) (fk' : FitsK ⟨cx, dx, ⟨ax, nx⟩⟩) (fp' : FitsP mx) (hE : EnsAt w vo c) (hP : PrsAt w po m) (hE' : EnsAt w vox cx) (hP' : PrsAt w pox mx) :
    Calls Tryz.prog 35 #[.agg #[.slice vo c.length vc, .bool d, .string a, .int .u64 (n : Int), .slice po m.length pc, .bool q, .string v], .agg #[.slice vox cx.length vcx, .bool dx, .string ax, .int .u64 (nx : Int), .slice pox mx.length pcx, .bool qx, .string vx]] w fun e w' => e = .returned (.bool (sSame ⟨⟨c, d, ⟨a, n⟩⟩, m, q, v⟩ ⟨⟨cx, dx, ⟨ax, nx⟩⟩, mx, qx, vx⟩)) ∧ Keep0 w w' := by
  have k0 : Keep0 w (w.alloc (.cells #[.slice vo c.length vc, .bool d, .string a, .int .u64 (n : Int), .slice po m.length pc, .bool q, .string v] 61)) := (Keep.refl _ w).alloc _
  have kB : Keep0 (w.alloc (.cells #[.slice vo c.length vc, .bool d, .string a, .int .u64 (n : Int), .slice po m.length pc, .bool q, .string v] 61)) ((w.alloc (.cells #[.slice vo c.length vc, .bool d, .string a, .int .u64 (n : Int), .slice po m.length pc, .bool q, .string v] 61)).alloc (.cells #[.slice vox cx.length vcx, .bool dx, .string ax, .int .u64 (nx : Int), .slice pox mx.length pcx, .bool qx, .string vx] 61)) := (Keep.refl _ _).alloc _
  have kA := k0.trans kB
  obtain ⟨x0, x1, x2, x3, x4, x5, x6⟩ := (sib_new w 61 ⟨⟨c, d, ⟨a, n⟩⟩, m, q, v⟩ vo vc po pc).keep0 kB
  have hN := sib_new (w.alloc (.cells #[.slice vo c.length vc, .bool d, .string a, .int .u64 (n : Int), .slice po m.length pc, .bool q, .string v] 61)) 61 ⟨⟨cx, dx, ⟨ax, nx⟩⟩, mx, qx, vx⟩ vox vcx pox pcx
  rw [World.size_alloc] at hN
  obtain ⟨z0, z1, z2, z3, z4, z5, z6⟩ := hN
  have yk := rsame12 ((w.alloc (.cells #[.slice vo c.length vc, .bool d, .string a, .int .u64 (n : Int), .slice po m.length pc, .bool q, .string v] 61)).alloc (.cells #[.slice vox cx.length vcx, .bool dx, .string ax, .int .u64 (nx : Int), .slice pox mx.length pcx, .bool qx, .string vx] 61)) vo vox vc vcx ⟨c, d, ⟨a, n⟩⟩ ⟨cx, dx, ⟨ax, nx⟩⟩ fk fk' (hE.keep0 kA) (hE'.keep0 kA)
  have yp := fun W (h : PrsAt W po m) (h' : PrsAt W pox mx) => rsame14 W po pox pc pcx m mx fp.1 fp'.1 h h'
  have hPA := hP.keep0 kA
  have hPB := hP'.keep0 kA
  have hk : sSame ⟨⟨c, d, ⟨a, n⟩⟩, m, q, v⟩ ⟨⟨cx, dx, ⟨ax, nx⟩⟩, mx, qx, vx⟩ = (kSame ⟨c, d, ⟨a, n⟩⟩ ⟨cx, dx, ⟨ax, nx⟩⟩ && (qSame m mx && ((q == qx) && decide (v = vx)))) := rfl
  rw [hk]
  clear hk fk fp fk' fp' hE hP hE' hP' k0 kB
  cases h1 : kSame ⟨c, d, ⟨a, n⟩⟩ ⟨cx, dx, ⟨ax, nx⟩⟩ with
  | false =>
    rw [h1] at yk
    rw [Bool.false_and]
    clear h1 yp hPA hPB
    go_enter Tryz.func35, Tryz.ntmps35
    go_wp2_with fail
    generalize ((w.alloc (.cells #[.slice vo c.length vc, .bool d, .string a, .int .u64 (n : Int), .slice po m.length pc, .bool q, .string v] 61)).alloc (.cells #[.slice vox cx.length vcx, .bool dx, .string ax, .int .u64 (nx : Int), .slice pox mx.length pcx, .bool qx, .string vx] 61)) = W0 at *
    generalize w.heap.size = g at *
    refine yk.mono ?_
    rintro e w1 ⟨rfl, k1⟩
    have K1 := kA.trans k1
    clear yk k1 kA
    go_wp2
    go_ret
    exact ⟨rfl, K1⟩
  | true =>
    rw [h1] at yk
    rw [Bool.true_and]
    clear h1
    cases h2 : qSame m mx with
    | false =>
      rw [h2] at yp
      rw [Bool.false_and]
      clear h2
      go_enter Tryz.func35, Tryz.ntmps35
      go_wp2_with fail
      generalize ((w.alloc (.cells #[.slice vo c.length vc, .bool d, .string a, .int .u64 (n : Int), .slice po m.length pc, .bool q, .string v] 61)).alloc (.cells #[.slice vox cx.length vcx, .bool dx, .string ax, .int .u64 (nx : Int), .slice pox mx.length pcx, .bool qx, .string vx] 61)) = W0 at *
      generalize w.heap.size = g at *
      refine yk.mono ?_
      rintro e w1 ⟨rfl, k1⟩
      have K1 := kA.trans k1
      replace x4 := k1.cell x4 (fun f => f)
      replace x5 := k1.cell x5 (fun f => f)
      replace x6 := k1.cell x6 (fun f => f)
      replace z4 := k1.cell z4 (fun f => f)
      replace z5 := k1.cell z5 (fun f => f)
      replace z6 := k1.cell z6 (fun f => f)
      have yp := yp _ (hPA.keep0 k1) (hPB.keep0 k1)
      clear yk k1 kA hPA hPB x0 x1 x2 x3 z0 z1 z2 z3
      go_wp2_with fail
      refine yp.mono ?_
      rintro e w2 ⟨rfl, hw2⟩
      have K2 := K1.trans (keepN hw2)
      replace x5 := (keepN hw2).cell x5 (fun f => f)
      replace x6 := (keepN hw2).cell x6 (fun f => f)
      replace z5 := (keepN hw2).cell z5 (fun f => f)
      replace z6 := (keepN hw2).cell z6 (fun f => f)
      clear yp hw2 K1 x4 z4
      go_wp2
      go_ret
      exact ⟨rfl, K2⟩
    | true =>
      rw [h2] at yp
      rw [Bool.true_and]
      clear h2
      by_cases h3 : q = qx
      · subst h3
        have e0 : (q == q) = true := by simp
        rw [e0, Bool.true_and]
        by_cases h4 : v = vx
        · subst h4
          rw [decide_eq_true rfl]
          clear e0
          generalize c.length = cl at *
          generalize cx.length = clx at *
          generalize m.length = ml at *
          generalize mx.length = mlx at *
          go_enter Tryz.func35, Tryz.ntmps35
          go_wp2_with fail
          generalize ((w.alloc (.cells #[.slice vo cl vc, .bool d, .string a, .int .u64 (n : Int), .slice po ml pc, .bool q, .string v] 61)).alloc (.cells #[.slice vox clx vcx, .bool dx, .string ax, .int .u64 (nx : Int), .slice pox mlx pcx, .bool q, .string v] 61)) = W0 at *
          generalize w.heap.size = g at *
          refine yk.mono ?_
          rintro e w1 ⟨rfl, k1⟩
          have K1 := kA.trans k1
          replace x4 := k1.cell x4 (fun f => f)
          replace x5 := k1.cell x5 (fun f => f)
          replace x6 := k1.cell x6 (fun f => f)
          replace z4 := k1.cell z4 (fun f => f)
          replace z5 := k1.cell z5 (fun f => f)
          replace z6 := k1.cell z6 (fun f => f)
          have yp := yp _ (hPA.keep0 k1) (hPB.keep0 k1)
          clear yk k1 kA hPA hPB x0 x1 x2 x3 z0 z1 z2 z3
          go_wp2_with fail
          refine yp.mono ?_
          rintro e w2 ⟨rfl, hw2⟩
          have K2 := K1.trans (keepN hw2)
          replace x5 := (keepN hw2).cell x5 (fun f => f)
          replace x6 := (keepN hw2).cell x6 (fun f => f)
          replace z5 := (keepN hw2).cell z5 (fun f => f)
          replace z6 := (keepN hw2).cell z6 (fun f => f)
          clear yp hw2 K1 x4 z4
          go_wp2
          go_ret
          exact ⟨rfl, K2⟩
        · rw [decide_eq_false h4]
          obtain ⟨e2, e3, e4⟩ := txt_ne h4
          have e5 : (v == vx) = false := by rw [beq_toListBytes]; exact e2
          clear e0
          go_enter Tryz.func35, Tryz.ntmps35
          go_wp2_with fail
          generalize ((w.alloc (.cells #[.slice vo c.length vc, .bool d, .string a, .int .u64 (n : Int), .slice po m.length pc, .bool q, .string v] 61)).alloc (.cells #[.slice vox cx.length vcx, .bool dx, .string ax, .int .u64 (nx : Int), .slice pox mx.length pcx, .bool q, .string vx] 61)) = W0 at *
          generalize w.heap.size = g at *
          refine yk.mono ?_
          rintro e w1 ⟨rfl, k1⟩
          have K1 := kA.trans k1
          replace x4 := k1.cell x4 (fun f => f)
          replace x5 := k1.cell x5 (fun f => f)
          replace x6 := k1.cell x6 (fun f => f)
          replace z4 := k1.cell z4 (fun f => f)
          replace z5 := k1.cell z5 (fun f => f)
          replace z6 := k1.cell z6 (fun f => f)
          have yp := yp _ (hPA.keep0 k1) (hPB.keep0 k1)
          clear yk k1 kA hPA hPB x0 x1 x2 x3 z0 z1 z2 z3
          go_wp2_with fail
          refine yp.mono ?_
          rintro e w2 ⟨rfl, hw2⟩
          have K2 := K1.trans (keepN hw2)
          replace x5 := (keepN hw2).cell x5 (fun f => f)
          replace x6 := (keepN hw2).cell x6 (fun f => f)
          replace z5 := (keepN hw2).cell z5 (fun f => f)
          replace z6 := (keepN hw2).cell z6 (fun f => f)
          clear yp hw2 K1 x4 z4
          go_wp2
          go_ret
          exact ⟨rfl, K2⟩
      · have e0 : (q == qx) = false := beq_eq_false_iff_ne.2 h3
        rw [e0, Bool.false_and]
        go_enter Tryz.func35, Tryz.ntmps35
        go_wp2_with fail
        generalize ((w.alloc (.cells #[.slice vo c.length vc, .bool d, .string a, .int .u64 (n : Int), .slice po m.length pc, .bool q, .string v] 61)).alloc (.cells #[.slice vox cx.length vcx, .bool dx, .string ax, .int .u64 (nx : Int), .slice pox mx.length pcx, .bool qx, .string vx] 61)) = W0 at *
        generalize w.heap.size = g at *
        refine yk.mono ?_
        rintro e w1 ⟨rfl, k1⟩
        have K1 := kA.trans k1
        replace x4 := k1.cell x4 (fun f => f)
        replace x5 := k1.cell x5 (fun f => f)
        replace x6 := k1.cell x6 (fun f => f)
        replace z4 := k1.cell z4 (fun f => f)
        replace z5 := k1.cell z5 (fun f => f)
        replace z6 := k1.cell z6 (fun f => f)
        have yp := yp _ (hPA.keep0 k1) (hPB.keep0 k1)
        clear yk k1 kA hPA hPB x0 x1 x2 x3 z0 z1 z2 z3
        go_wp2_with fail
        refine yp.mono ?_
        rintro e w2 ⟨rfl, hw2⟩
        have K2 := K1.trans (keepN hw2)
        replace x5 := (keepN hw2).cell x5 (fun f => f)
        replace x6 := (keepN hw2).cell x6 (fun f => f)
        replace z5 := (keepN hw2).cell z5 (fun f => f)
        replace z6 := (keepN hw2).cell z6 (fun f => f)
        clear yp hw2 K1 x4 z4
        go_wp2
        go_ret
        exact ⟨rfl, K2⟩
theorem rsame15 (w : World) (vo : Option Addr) (vc : Nat) (po : Option Addr) (pc : Nat) (x : Sb) (vo' : Option Addr) (vc' : Nat) (po' : Option Addr) (pc' : Nat) (y : Sb) (f : FitsS x) (f' : FitsS y) (h : SibIn w vo po pc x) (h' : SibIn w vo' po' pc' y) :
    Calls Tryz.prog 35 #[.agg #[.slice vo x.k.c.length vc, .bool x.k.d, .string x.k.x.a, .int .u64 (x.k.x.n : Int), .slice po x.m.length pc, .bool x.d, .string x.v], .agg #[.slice vo' y.k.c.length vc', .bool y.k.d, .string y.k.x.a, .int .u64 (y.k.x.n : Int), .slice po' y.m.length pc', .bool y.d, .string y.v]] w fun e w' => e = .returned (.bool (sSame x y)) ∧ Keep0 w w' :=
  rsame15_any w vo vc po pc x.k.c x.k.d x.k.x.a x.k.x.n x.m x.d x.v vo' vc' po' pc' y.k.c y.k.d y.k.x.a y.k.x.n y.m y.d y.v f.clk f.prs f'.clk f'.prs h.ens h.prs h'.ens h'.prs
end Go.Proofs.YtoefibkhlhmlfaaGreat
