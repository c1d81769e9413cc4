/-
  What this seat's claims lean on of the texts ObA.
  Conditions: as each theorem states.
-/
import Derived.WalkKit
import Derived.ProofKit
import Derived.Below
import Derived.Deep.Draws
import Derived.Deep.RegionHeld
import Derived.Test.YtoefibkhlhmlfaaGreatChecked
import Derived.OpenShut
import Derived.ShutString
import Derived.WalkSpells
import Derived.WalkLawsBesides
import Derived.Deep.QuietTactic
import Derived.BigQuiet
import Derived.Laws.Bits64b
import Derived.PlainAid
import Derived.Lib.AppendStr
import Derived.Deep.AppendLies
import Derived.Laws.IdiomStrings
import Derived.Laws.BytesArg
import Derived.Deep.RegionWith
import Derived.Laws.AppendOwn
import Derived.Deep.DeepAppendWide
import Derived.Deep.Upon
import Derived.Maps.AppendAt
import Derived.Laws.Rows
import Derived.Deep.Slices
import Derived.Deep.CutRange
import Derived.Deep.RegionLaw
import Derived.Test.YtoefibkhlhmlfaaGreatY39
import Derived.Test.YtoefibkhlhmlfaaGreatY36
import Derived.Test.YtoefibkhlhmlfaaGreatY34
namespace Go.Proofs.YtoefibkhlhmlfaaGreat
open Go.RowKit
set_option maxRecDepth 100000 in
set_option maxHeartbeats 8000000 in
theorem head16 (w : World) (key : ByteArray) (hk : key.size ≤ maxLen) (n : Nat) :
    Calls Tryz.prog 60 #[.string key, .int .i64 (n : Int)] w fun e w' => e = .returned (.int .i64 (outS key n)) ∧ w = w' := by
  have i0 : (key.size : Int) ≤ 9223372036854775807 := by unfold maxLen at hk; omega
  unfold outS
  by_cases h1 : 128 < key.size
  · rw [if_pos h1]
    have j1 : (128 : Int) < key.size := by omega
    go_enter Tryz.func60, Tryz.ntmps60
    go_wp2
    go_ret
    exact ⟨rfl, rfl⟩
  rw [if_neg h1]
  have j1 : ¬ (128 : Int) < key.size := by omega
  by_cases h2 : key.size = 0
  · rw [if_pos h2]
    have es := empty_eq14 h2
    subst es
    clear h1 h2 j1 i0 hk
    go_enter Tryz.func60, Tryz.ntmps60
    go_wp2
    go_ret
    exact ⟨rfl, rfl⟩
  rw [if_neg h2]
  have e1 := empty_no14 h2
  by_cases h3 : 16 < n
  · rw [if_pos h3]
    have j3 : (16 : Int) < n := by omega
    clear h1 h2 hk
    go_enter Tryz.func60, Tryz.ntmps60
    go_wp2
    go_ret
    exact ⟨rfl, rfl⟩
  rw [if_neg h3]
  have j3 : ¬ (16 : Int) < n := by omega
  by_cases h4 : n = 0
  · rw [if_pos h4]
    subst h4
    clear h1 h2 h3 hk
    go_enter Tryz.func60, Tryz.ntmps60
    go_wp2
    go_ret
    exact ⟨rfl, rfl⟩
  rw [if_neg h4]
  have j4 : ((n : Int) == 0) = false := beq_eq_false_iff_ne.2 (by omega)
  have j4' : ¬ (n : Int) = 0 := by omega
  clear h1 h2 h3 h4 hk
  go_enter Tryz.func60, Tryz.ntmps60
  go_wp2
  go_ret
  exact ⟨rfl, rfl⟩
set_option maxRecDepth 100000 in
set_option maxHeartbeats 8000000 in
theorem rise16 (w : World) (vo : Option Addr) (vc : Nat) (po : Option Addr) (pc : Nat) (x : Sb) (vo' : Option Addr) (vc' : Nat) (po' : Option Addr) (pc' : Nat) (y : Sb) (ox : Ok15 x) (oy : Ok15 y) (hx : EnsAt w vo x.k.c) (hy : EnsAt w vo' y.k.c) :
    Calls Tryz.prog 65 #[.agg #[.slice vo x.k.c.length vc, .bool x.k.d, .string x.k.x.a, .int .u64 (x.k.x.n : Int), .slice po x.m.length pc, .bool x.d, .string x.v], .agg #[.slice vo' y.k.c.length vc', .bool y.k.d, .string y.k.x.a, .int .u64 (y.k.x.n : Int), .slice po' y.m.length pc', .bool y.d, .string y.v]] w fun e w' => e = .returned (.bool (kBelow x.k y.k).1) ∧ Keep0 w w' := by
  have k0 : Keep0 w (w.alloc (.cells #[.slice vo x.k.c.length vc, .bool x.k.d, .string x.k.x.a, .int .u64 (x.k.x.n : Int), .slice po x.m.length pc, .bool x.d, .string x.v] 61)) := (Keep.refl _ w).alloc _
  have kB : Keep0 (w.alloc (.cells #[.slice vo x.k.c.length vc, .bool x.k.d, .string x.k.x.a, .int .u64 (x.k.x.n : Int), .slice po x.m.length pc, .bool x.d, .string x.v] 61)) ((w.alloc (.cells #[.slice vo x.k.c.length vc, .bool x.k.d, .string x.k.x.a, .int .u64 (x.k.x.n : Int), .slice po x.m.length pc, .bool x.d, .string x.v] 61)).alloc (.cells #[.slice vo' y.k.c.length vc', .bool y.k.d, .string y.k.x.a, .int .u64 (y.k.x.n : Int), .slice po' y.m.length pc', .bool y.d, .string y.v] 61)) := (Keep.refl _ _).alloc _
  have kA := k0.trans kB
  obtain ⟨x0, x1, x2, x3, x4, x5, x6⟩ := (sib_new w 61 x vo vc po pc).keep0 kB
  have hN := sib_new (w.alloc (.cells #[.slice vo x.k.c.length vc, .bool x.k.d, .string x.k.x.a, .int .u64 (x.k.x.n : Int), .slice po x.m.length pc, .bool x.d, .string x.v] 61)) 61 y vo' vc' po' pc'
  rw [World.size_alloc] at hN
  obtain ⟨z0, z1, z2, z3, z4, z5, z6⟩ := hN
  have yb := below13 ((w.alloc (.cells #[.slice vo x.k.c.length vc, .bool x.k.d, .string x.k.x.a, .int .u64 (x.k.x.n : Int), .slice po x.m.length pc, .bool x.d, .string x.v] 61)).alloc (.cells #[.slice vo' y.k.c.length vc', .bool y.k.d, .string y.k.x.a, .int .u64 (y.k.x.n : Int), .slice po' y.m.length pc', .bool y.d, .string y.v] 61)) vo vo' vc vc' x.k y.k ⟨ox.len, ox.fit.clk⟩ ⟨oy.len, oy.fit.clk⟩ (hx.keep0 kA) (hy.keep0 kA)
  clear k0 kB ox oy hx hy
  generalize kBelow x.k y.k = R at *
  go_enter Tryz.func65, Tryz.ntmps65
  go_wp2_with fail
  generalize ((w.alloc (.cells #[.slice vo x.k.c.length vc, .bool x.k.d, .string x.k.x.a, .int .u64 (x.k.x.n : Int), .slice po x.m.length pc, .bool x.d, .string x.v] 61)).alloc (.cells #[.slice vo' y.k.c.length vc', .bool y.k.d, .string y.k.x.a, .int .u64 (y.k.x.n : Int), .slice po' y.m.length pc', .bool y.d, .string y.v] 61)) = W0 at *
  generalize w.heap.size = g at *
  refine yb.mono ?_
  rintro e w1 ⟨rfl, k1⟩
  have K1 := kA.trans k1
  clear yb k1 kA x0 x1 x2 x3 x4 x5 x6 z0 z1 z2 z3 z4 z5 z6
  go_wp2
  go_ret
  exact ⟨rfl, K1⟩
def ordA : Option Ck → Ck → Int
  | none, _ => 0
  | some p, k => if (kBelow p k).1 = true then 0 else 6
def lastK (l : List Sb) : Option Ck := l.getLast?.map Sb.k
theorem lastK_at {l : List Sb} {j : Nat} (h : j + 1 = l.length) (hj : j < l.length) : lastK l = some l[j].k := by
  unfold lastK
  rw [List.getLast?_eq_getElem?, show l.length - 1 = j by omega, List.getElem?_eq_getElem hj]
  rfl
set_option maxRecDepth 100000 in
set_option maxHeartbeats 8000000 in
theorem order16 (w : World) (ao : Option Addr) (cap : Nat) (O : List Sb) (vo : Option Addr) (vc : Nat) (po : Option Addr) (pc : Nat) (x : Sb) (hl : O.length ≤ maxLen) (hO : ∀ y ∈ O, Ok15 y) (ox : Ok15 x) (hc : SibsAt w ao O) (hx : EnsAt w vo x.k.c) :
    Calls Tryz.prog 69 #[.slice ao O.length cap, .agg #[.slice vo x.k.c.length vc, .bool x.k.d, .string x.k.x.a, .int .u64 (x.k.x.n : Int), .slice po x.m.length pc, .bool x.d, .string x.v]] w fun e w' => e = .returned (.int .i64 (ordA (lastK O) x.k)) ∧ Keep0 w w' := by
  have hl' : (O.length : Int) ≤ 9223372036854775807 := by unfold maxLen at hl; omega
  have kA : Keep0 w (w.alloc (.cells #[.slice vo x.k.c.length vc, .bool x.k.d, .string x.k.x.a, .int .u64 (x.k.x.n : Int), .slice po x.m.length pc, .bool x.d, .string x.v] 61)) := (Keep.refl _ w).alloc _
  obtain ⟨x0, x1, x2, x3, x4, x5, x6⟩ := sib_new w 61 x vo vc po pc
  by_cases hz : O.length = 0
  · have e0 : O = [] := List.eq_nil_of_length_eq_zero hz
    subst e0
    have hT : ordA (lastK ([] : List Sb)) x.k = 0 := rfl
    rw [hT]
    clear hT hz hO hc ox hx hl hl'
    show Calls Tryz.prog 69 #[.slice ao 0 cap, .agg #[.slice vo x.k.c.length vc, .bool x.k.d, .string x.k.x.a, .int .u64 (x.k.x.n : Int), .slice po x.m.length pc, .bool x.d, .string x.v]] w _
    go_enter Tryz.func69, Tryz.ntmps69
    go_wp2_with fail
    generalize (w.alloc (.cells #[.slice vo x.k.c.length vc, .bool x.k.d, .string x.k.x.a, .int .u64 (x.k.x.n : Int), .slice po x.m.length pc, .bool x.d, .string x.v] 61)) = W0 at *
    generalize w.heap.size = g at *
    clear x0 x1 x2 x3 x4 x5 x6
    refine wp_region_held_drew (S := (fun _ => True)) (by kernel_rfl) trivial (fun hHeld => ?_)
    refine wpAnyH_take (i := 0) (v := ?z0v) (by simp only [List.getElem?_toArray, List.getElem?_cons_zero] <;> rfl) (by kernel_rfl) (by kernel_rfl) (by kernel_rfl) (by exact fun _ _ _ h => h) (Or.inl ⟨by rfl, ?z0y⟩) hHeld ?z0r
    case z0y => intro w hSw; (try dsimp only at hSw); go_simp <;> rfl
    simp only [Act.put, List.setIfInBounds_toArray, List.set_cons_zero, List.set_cons_succ]
    refine wpAnyH_take (i := 1) (v := ?z1v) (by simp only [List.getElem?_toArray, List.getElem?_cons_succ, List.getElem?_cons_zero] <;> rfl) (by kernel_rfl) (by kernel_rfl) (by kernel_rfl) (by exact fun _ _ _ h => h) (Or.inl ⟨by rfl, ?z1y⟩) hHeld ?z1r
    case z1y => intro w hSw; (try dsimp only at hSw); go_simp <;> rfl
    simp only [Act.put, List.setIfInBounds_toArray, List.set_cons_zero, List.set_cons_succ]
    refine wpAnyH_take (i := 2) (v := ?z2v) (by simp only [List.getElem?_toArray, List.getElem?_cons_succ, List.getElem?_cons_zero] <;> rfl) (by kernel_rfl) (by kernel_rfl) (by kernel_rfl) (by exact fun _ _ _ h => h) (Or.inl ⟨by rfl, ?z2y⟩) hHeld ?z2r
    case z2y => intro w hSw; (try dsimp only at hSw); go_simp <;> rfl
    simp only [Act.put, List.setIfInBounds_toArray, List.set_cons_zero, List.set_cons_succ]
    refine wpAnyH_take (i := 3) (v := undef) (by simp only [List.getElem?_toArray, List.getElem?_cons_succ, List.getElem?_cons_zero] <;> rfl) (by kernel_rfl) (by kernel_rfl) (by kernel_rfl) (by exact fun _ _ _ h => h) (Or.inr ⟨by rfl, rfl⟩) hHeld ?z3r
    simp only [Act.put, List.setIfInBounds_toArray, List.set_cons_zero, List.set_cons_succ]
    refine wpAnyH_take (i := 4) (v := undef) (by simp only [List.getElem?_toArray, List.getElem?_cons_succ, List.getElem?_cons_zero] <;> rfl) (by kernel_rfl) (by kernel_rfl) (by kernel_rfl) (by exact fun _ _ _ h => h) (Or.inr ⟨by rfl, rfl⟩) hHeld ?z4r
    simp only [Act.put, List.setIfInBounds_toArray, List.set_cons_zero, List.set_cons_succ]
    refine wpAnyH_take (i := 5) (v := undef) (by simp only [List.getElem?_toArray, List.getElem?_cons_succ, List.getElem?_cons_zero] <;> rfl) (by kernel_rfl) (by kernel_rfl) (by kernel_rfl) (by exact fun _ _ _ h => h) (Or.inr ⟨by rfl, rfl⟩) hHeld ?z5r
    simp only [Act.put, List.setIfInBounds_toArray, List.set_cons_zero, List.set_cons_succ]
    refine wpAnyH_take (i := 6) (v := undef) (by simp only [List.getElem?_toArray, List.getElem?_cons_succ, List.getElem?_cons_zero] <;> rfl) (by kernel_rfl) (by kernel_rfl) (by kernel_rfl) (by exact fun _ _ _ h => h) (Or.inr ⟨by rfl, rfl⟩) hHeld ?z6r
    simp only [Act.put, List.setIfInBounds_toArray, List.set_cons_zero, List.set_cons_succ]
    refine wpAnyH_take (i := 7) (v := undef) (by simp only [List.getElem?_toArray, List.getElem?_cons_succ, List.getElem?_cons_zero] <;> rfl) (by kernel_rfl) (by kernel_rfl) (by kernel_rfl) (by exact fun _ _ _ h => h) (Or.inr ⟨by rfl, rfl⟩) hHeld ?z7r
    simp only [Act.put, List.setIfInBounds_toArray, List.set_cons_zero, List.set_cons_succ]
    refine wpAnyH_take (i := 8) (v := undef) (by simp only [List.getElem?_toArray, List.getElem?_cons_succ, List.getElem?_cons_zero] <;> rfl) (by kernel_rfl) (by kernel_rfl) (by kernel_rfl) (by exact fun _ _ _ h => h) (Or.inr ⟨by rfl, rfl⟩) hHeld ?z8r
    simp only [Act.put, List.setIfInBounds_toArray, List.set_cons_zero, List.set_cons_succ]
    refine wpAnyH_take (i := 9) (v := undef) (by simp only [List.getElem?_toArray, List.getElem?_cons_succ, List.getElem?_cons_zero] <;> rfl) (by kernel_rfl) (by kernel_rfl) (by kernel_rfl) (by exact fun _ _ _ h => h) (Or.inr ⟨by rfl, rfl⟩) hHeld ?z9r
    simp only [Act.put, List.setIfInBounds_toArray, List.set_cons_zero, List.set_cons_succ]
    refine wpAnyH_take (i := 10) (v := ?z10v) (by simp only [List.getElem?_toArray, List.getElem?_cons_succ, List.getElem?_cons_zero] <;> rfl) (by kernel_rfl) (by kernel_rfl) (by kernel_rfl) (by exact fun _ _ _ h => h) (Or.inl ⟨by rfl, ?z10y⟩) hHeld ?z10r
    case z10y => intro w hSw; (try dsimp only at hSw); go_simp <;> rfl
    simp only [Act.put, List.setIfInBounds_toArray, List.set_cons_zero, List.set_cons_succ]
    refine wpAnyH_done (by kernel_rfl) ?_ _
    clear hHeld
    have K1 := kA.drew
    clear kA
    generalize W0.drew = W9 at *
    go_wp2
    go_ret
    exact ⟨rfl, K1⟩
  obtain ⟨j, hj⟩ : ∃ j, j + 1 = O.length := ⟨O.length - 1, by omega⟩
  have hjl : j < O.length := by omega
  obtain ⟨b, off, vj, vcj, pj, pcj, rfl, s1, s2⟩ := hc j hjl
  have oy := hO _ (List.getElem_mem hjl)
  rw [lastK_at hj hjl]
  obtain ⟨a0, a1, a2, a3, a4, a5, a6⟩ := s1.keep0 kA
  have yr := fun W (K : Keep0 w W) => rise16 W vj vcj pj pcj O[j] vo vc po pc x oy ox (s2.ens.keep0 K) (hx.keep0 K)
  clear s1 s2 oy hO hc hx ox
  have i7 : IntKind.i64.wrap ((O.length : Int) - 1) = (j : Int) := by rw [IntKind.wrap_i64]; omega
  have i6 : (O.length : Int) - 1 = (j : Int) := by omega
  have i1 : (j : Int) < O.length := by omega
  have i0 : (0 : Int) ≤ (j : Int) := by omega
  have i00 : decide ((0 : Int) ≤ (j : Int)) = true := decide_eq_true i0
  show Calls _ _ _ _ fun e w' => e = .returned (.int .i64 (if (kBelow O[j].k x.k).1 = true then 0 else 6)) ∧ Keep0 w w'
  generalize kBelow O[j].k x.k = BB at *
  obtain ⟨BV, BE⟩ := BB
  have yr : ∀ W, Keep0 w W → Calls Tryz.prog 65 #[.agg #[.slice vj O[j].k.c.length vcj, .bool O[j].k.d, .string O[j].k.x.a, .int .u64 (O[j].k.x.n : Int), .slice pj O[j].m.length pcj, .bool O[j].d, .string O[j].v], .agg #[.slice vo x.k.c.length vc, .bool x.k.d, .string x.k.x.a, .int .u64 (x.k.x.n : Int), .slice po x.m.length pc, .bool x.d, .string x.v]] W fun e w' => e = .returned (.bool BV) ∧ Keep0 W w' := yr
  show Calls _ _ _ _ fun e w' => e = .returned (.int .i64 (if BV = true then 0 else 6)) ∧ Keep0 w w'
  generalize O[j] = Y at *
  clear hj hjl hz hl
  generalize O.length = q at *
  go_enter Tryz.func69, Tryz.ntmps69
  go_wp2_with fail
  generalize (w.alloc (.cells #[.slice vo x.k.c.length vc, .bool x.k.d, .string x.k.x.a, .int .u64 (x.k.x.n : Int), .slice po x.m.length pc, .bool x.d, .string x.v] 61)) = W0 at *
  generalize w.heap.size = g at *
  refine wp_region_held_drew (S := (fun W => W.cell? ⟨b, off + j * 7, none⟩ = some (.slice vj Y.k.c.length vcj) ∧ W.cell? ⟨b, off + j * 7 + 1, none⟩ = some (.bool Y.k.d) ∧ W.cell? ⟨b, off + j * 7 + 2, none⟩ = some (.string Y.k.x.a) ∧ W.cell? ⟨b, off + j * 7 + 3, none⟩ = some (.int .u64 (Y.k.x.n : Int)) ∧ W.cell? ⟨b, off + j * 7 + 4, none⟩ = some (.slice pj Y.m.length pcj) ∧ W.cell? ⟨b, off + j * 7 + 5, none⟩ = some (.bool Y.d) ∧ W.cell? ⟨b, off + j * 7 + 6, none⟩ = some (.string Y.v) ∧ W.cell? ⟨g, 0, none⟩ = some (.slice vo x.k.c.length vc) ∧ W.cell? ⟨g, 1, none⟩ = some (.bool x.k.d) ∧ W.cell? ⟨g, 2, none⟩ = some (.string x.k.x.a) ∧ W.cell? ⟨g, 3, none⟩ = some (.int .u64 (x.k.x.n : Int)) ∧ W.cell? ⟨g, 4, none⟩ = some (.slice po x.m.length pc) ∧ W.cell? ⟨g, 5, none⟩ = some (.bool x.d) ∧ W.cell? ⟨g, 6, none⟩ = some (.string x.v))) (by kernel_rfl) ⟨a0, a1, a2, a3, a4, a5, a6, x0, x1, x2, x3, x4, x5, x6⟩ (fun hHeld => ?_)
  refine wpAnyH_take (i := 0) (v := ?t0v) (by simp only [List.getElem?_toArray, List.getElem?_cons_zero] <;> rfl) (by kernel_rfl) (by kernel_rfl) (by kernel_rfl) (by exact fun _ _ _ h => h) (Or.inl ⟨by rfl, ?t0y⟩) hHeld ?t0r
  case t0y => intro w hSw; (try dsimp only at hSw); go_simp <;> rfl
  simp only [Act.put, List.setIfInBounds_toArray, List.set_cons_zero, List.set_cons_succ]
  refine wpAnyH_take (i := 1) (v := ?t1v) (by simp only [List.getElem?_toArray, List.getElem?_cons_succ, List.getElem?_cons_zero] <;> rfl) (by kernel_rfl) (by kernel_rfl) (by kernel_rfl) (by exact fun _ _ _ h => h) (Or.inl ⟨by rfl, ?t1y⟩) hHeld ?t1r
  case t1y => intro w hSw; (try dsimp only at hSw); go_simp <;> rfl
  simp only [Act.put, List.setIfInBounds_toArray, List.set_cons_zero, List.set_cons_succ]
  refine wpAnyH_take (i := 2) (v := ?t2v) (by simp only [List.getElem?_toArray, List.getElem?_cons_succ, List.getElem?_cons_zero] <;> rfl) (by kernel_rfl) (by kernel_rfl) (by kernel_rfl) (by exact fun _ _ _ h => h) (Or.inl ⟨by rfl, ?t2y⟩) hHeld ?t2r
  case t2y => intro w hSw; (try dsimp only at hSw); go_simp <;> rfl
  simp only [Act.put, List.setIfInBounds_toArray, List.set_cons_zero, List.set_cons_succ]
  refine wpAnyH_take (i := 3) (v := ?t3v) (by simp only [List.getElem?_toArray, List.getElem?_cons_succ, List.getElem?_cons_zero] <;> rfl) (by kernel_rfl) (by kernel_rfl) (by kernel_rfl) (by exact fun _ _ _ h => h) (Or.inl ⟨by rfl, ?t3y⟩) hHeld ?t3r
  case t3y => intro w hSw; (try dsimp only at hSw); go_simp <;> rfl
  simp only [Act.put, List.setIfInBounds_toArray, List.set_cons_zero, List.set_cons_succ]
  refine wpAnyH_take (i := 4) (v := ?t4v) (by simp only [List.getElem?_toArray, List.getElem?_cons_succ, List.getElem?_cons_zero] <;> rfl) (by kernel_rfl) (by kernel_rfl) (by kernel_rfl) (by exact fun _ _ _ h => h) (Or.inl ⟨by rfl, ?t4y⟩) hHeld ?t4r
  case t4y => intro w hSw; (try dsimp only at hSw); go_simp <;> rfl
  simp only [Act.put, List.setIfInBounds_toArray, List.set_cons_zero, List.set_cons_succ]
  refine wpAnyH_take (i := 5) (v := ?t5v) (by simp only [List.getElem?_toArray, List.getElem?_cons_succ, List.getElem?_cons_zero] <;> rfl) (by kernel_rfl) (by kernel_rfl) (by kernel_rfl) (by exact fun _ _ _ h => h) (Or.inl ⟨by rfl, ?t5y⟩) hHeld ?t5r
  case t5y => intro w hSw; (try dsimp only at hSw); go_simp <;> rfl
  simp only [Act.put, List.setIfInBounds_toArray, List.set_cons_zero, List.set_cons_succ]
  refine wpAnyH_take (i := 6) (v := ?t6v) (by simp only [List.getElem?_toArray, List.getElem?_cons_succ, List.getElem?_cons_zero] <;> rfl) (by kernel_rfl) (by kernel_rfl) (by kernel_rfl) (by exact fun _ _ _ h => h) (Or.inl ⟨by rfl, ?t6y⟩) hHeld ?t6r
  case t6y => intro w hSw; (try dsimp only at hSw); go_simp <;> rfl
  simp only [Act.put, List.setIfInBounds_toArray, List.set_cons_zero, List.set_cons_succ]
  refine wpAnyH_take (i := 7) (v := ?t7v) (by simp only [List.getElem?_toArray, List.getElem?_cons_succ, List.getElem?_cons_zero] <;> rfl) (by kernel_rfl) (by kernel_rfl) (by kernel_rfl) (by exact fun _ _ _ h => h) (Or.inl ⟨by rfl, ?t7y⟩) hHeld ?t7r
  case t7y => intro w hSw; (try dsimp only at hSw); go_simp <;> rfl
  simp only [Act.put, List.setIfInBounds_toArray, List.set_cons_zero, List.set_cons_succ]
  refine wpAnyH_ready (rs := [8]) (by kernel_rfl) (by simp) ?_
  refine AllReadyH.cons (by simp only [List.getElem?_toArray, List.getElem?_cons_succ, List.getElem?_cons_zero] <;> rfl) (fun K hK => ?_) AllReadyH.nil
  go_simp
  refine (yr _ kA.drew).mono ?_
  rintro e w1 ⟨rfl, kx⟩
  have kw : Keep0 W0 w1 := ((Keep.refl _ W0).drew).trans kx
  clear kx
  go_wp2_with fail
  refine hK.out _ _ ⟨kw.cell a0 (fun f => f), kw.cell a1 (fun f => f), kw.cell a2 (fun f => f), kw.cell a3 (fun f => f), kw.cell a4 (fun f => f), kw.cell a5 (fun f => f), kw.cell a6 (fun f => f), kw.cell x0 (fun f => f), kw.cell x1 (fun f => f), kw.cell x2 (fun f => f), kw.cell x3 (fun f => f), kw.cell x4 (fun f => f), kw.cell x5 (fun f => f), kw.cell x6 (fun f => f)⟩ (fun hHeld => ?_)
  clear hK K
  refine wpAnyH_take (i := 9) (v := ?t8v) (by simp only [List.getElem?_toArray, List.getElem?_cons_succ, List.getElem?_cons_zero] <;> rfl) (by kernel_rfl) (by kernel_rfl) (by kernel_rfl) (by exact fun _ _ _ h => h) (Or.inl ⟨by rfl, ?t8y⟩) hHeld ?t8r
  case t8y => intro w hSw; (try dsimp only at hSw); go_simp <;> rfl
  simp only [Act.put, List.setIfInBounds_toArray, List.set_cons_zero, List.set_cons_succ]
  refine wpAnyH_take (i := 10) (v := ?t9v) (by simp only [List.getElem?_toArray, List.getElem?_cons_succ, List.getElem?_cons_zero] <;> rfl) (by kernel_rfl) (by kernel_rfl) (by kernel_rfl) (by exact fun _ _ _ h => h) (Or.inl ⟨by rfl, ?t9y⟩) hHeld ?t9r
  case t9y => intro w hSw; (try dsimp only at hSw); go_simp <;> rfl
  simp only [Act.put, List.setIfInBounds_toArray, List.set_cons_zero, List.set_cons_succ]
  refine wpAnyH_done (by kernel_rfl) ?_ _
  have K1 := kA.trans kw
  clear hHeld kw kA yr a0 a1 a2 a3 a4 a5 a6 x0 x1 x2 x3 x4 x5 x6
  cases BV with
  | true =>
    go_wp2
    go_ret
    exact ⟨rfl, K1⟩
  | false =>
    go_wp2
    go_ret
    exact ⟨rfl, K1⟩
theorem take_last {l : List Sb} {j : Nat} (h : j < l.length) : lastK (l.take (j + 1)) = some l[j].k := by
  have e : (l.take (j + 1)).length = j + 1 := by rw [List.length_take]; omega
  rw [lastK_at (j := j) (by rw [e]) (by rw [e]; omega), List.getElem_take]
theorem sibs_take {w : World} {ao : Option Addr} {l : List Sb} (h : SibsAt w ao l) (k : Nat) : SibsAt w ao (l.take k) := by
  intro i hi
  have hi' : i < l.length := by rw [List.length_take] at hi; omega
  obtain ⟨b, off, vo, vc, po, pc, e, h1, h2⟩ := h i hi'
  rw [List.getElem_take]
  exact ⟨b, off, vo, vc, po, pc, e, h1, h2⟩
theorem oOne_ord {l : List Sb} {k : Nat} (hk : k < l.length) (h0 : sCheck l[k] = 0) (hq : ∀ q (_ : q < l.length), q < k → sCheck l[q] = 0) : oOne (pvk l k) l[k] = ordA (lastK (l.take k)) l[k].k := by
  cases k with
  | zero => rw [pvk_zero, oOne_first h0, List.take_zero]; rfl
  | succ j =>
    have hj : j < l.length := by omega
    have e : (kBelow l[j].k l[j + 1].k).1 = bl (kb l[j]) (kb l[j + 1]) := by rw [kBelow_yes (sCheck_zero.1 (hq j hj (by omega))).1 (sCheck_zero.1 h0).1]; rfl
    rw [pvk_succ hj, take_last hj]
    show _ = if (kBelow l[j].k l[j + 1].k).1 = true then 0 else 6
    rw [e]
    cases hb : bl (kb l[j]) (kb l[j + 1]) with
    | true => rw [oOne_up h0 hb]; rfl
    | false => rw [oOne_down h0 hb]; rfl
set_option maxRecDepth 100000 in
set_option maxHeartbeats 8000000 in
theorem check16_any (w : World) (ao : Option Addr) (cap : Nat) (key : ByteArray) (l : List Sb) (hk : key.size ≤ maxLen) (hl : l.length ≤ maxLen) (hf : ∀ x ∈ l, Ok15 x) (hcap : l.length ≤ cap ∧ cap ≤ maxLen) (hc : SibsAt w ao l) :
    Calls Tryz.prog 37 #[.agg #[.string key, .slice ao l.length cap]] w fun e w' => e = .returned (.int .i64 (oCheck ⟨key, l⟩)) ∧ Keep0 w w' := by
  have i1 : (l.length : Int) ≤ 9223372036854775807 := by unfold maxLen at hl; omega
  have ica : (cap : Int) ≤ 9223372036854775807 := by have := hcap.2; unfold maxLen at this; omega
  have icb := hcap.1
  have kA : Keep0 w (w.alloc (.cells #[.string key, .slice ao l.length cap] 27)) := (Keep.refl _ w).alloc _
  have x0 : (w.alloc (.cells #[.string key, .slice ao l.length cap] 27)).cell? ⟨w.heap.size, 0, none⟩ = some (.string key) := cell_alloc w _ rfl
  have x1 : (w.alloc (.cells #[.string key, .slice ao l.length cap] 27)).cell? ⟨w.heap.size, 1, none⟩ = some (.slice ao l.length cap) := cell_alloc w _ rfl
  have yo := fun W => head16 W key hk l.length
  have hg : oCheck ⟨key, l⟩ = if outS key l.length = 0 then oGo none l else outS key l.length := rfl
  rw [hg]
  clear hg
  by_cases h0 : outS key l.length = 0
  case neg =>
    rw [if_neg h0]
    have e0 : (outS key l.length != 0) = true := by simpa using h0
    clear hc hf h0 hcap icb
    generalize outS key l.length = C at *
    go_enter Tryz.func37, Tryz.ntmps37
    go_wp2_with fail
    refine (yo _).mono ?_
    rintro e w1 ⟨rfl, rfl⟩
    go_wp2
    go_ret
    exact ⟨rfl, kA⟩
  rw [if_pos h0]
  rw [h0] at yo
  have HC : Hid (SibsAt w ao l) := hc
  have HF : Hid (∀ x ∈ l, Ok15 x) := hf
  have HL : Hid (l.length ≤ maxLen) := hl
  obtain ⟨r, hr⟩ : ∃ r, oGo none l = r := ⟨_, rfl⟩
  rw [hr]
  have HR : Hid (oGo (pvk l 0) (l.drop 0) = r) := by rw [List.drop_zero]; exact hr
  clear hc hf hr h0 hcap hl
  go_enter Tryz.func37, Tryz.ntmps37
  go_wp2_with fail
  refine (yo _).mono ?_
  rintro e w1 ⟨rfl, rfl⟩
  clear yo
  go_wp2_with fail
  generalize (w.alloc (.cells #[.string key, .slice ao l.length cap] 27)) = W0 at *
  generalize hg : w.heap.size = g at *
  go_loopw [20] (fun i wr => ∃ (k : Nat), i = .int .i64 (k : Int) ∧ k ≤ l.length ∧ Hid (oGo (pvk l k) (l.drop k) = r) ∧ Hid (∀ q (_ : q < l.length), q < k → sCheck l[q] = 0) ∧ wr.cell? ⟨g, 1, none⟩ = some (.slice ao l.length cap) ∧ Keep0 w wr) (fun i _ => l.length - (intOf i).toNat)
  case atStart => exact ⟨0, rfl, by omega, HR, (fun q _ h => absurd h (Nat.not_lt_zero q)), x1, kA⟩
  case round =>
    obtain ⟨k, rfl, hk, HK, HQ, xk, hK⟩ := hrel
    clear HR x0 x1 kA
    by_cases hlt : k < l.length
    · have j2 : (k : Int) < l.length := by omega
      obtain ⟨b, off, vo, vc, po, pc, rfl, s1, s2⟩ := HC.out k hlt
      have hfk := HF.out _ (List.getElem_mem hlt)
      obtain ⟨a0, a1, a2, a3, a4, a5, a6⟩ := s1.keep0 hK
      have kB : Keep0 wr (wr.alloc (.cells #[.slice vo l[k].k.c.length vc, .bool l[k].k.d, .string l[k].k.x.a, .int .u64 (l[k].k.x.n : Int), .slice po l[k].m.length pc, .bool l[k].d, .string l[k].v] 61)) := (Keep.refl _ wr).alloc _
      obtain ⟨q0, q1, q2, q3, q4, q5, q6⟩ := sib_new wr 61 l[k] vo vc po pc
      have KB := hK.trans kB
      replace xk := kB.cell xk (fun f => f)
      have yc := check15 (wr.alloc (.cells #[.slice vo l[k].k.c.length vc, .bool l[k].k.d, .string l[k].k.x.a, .int .u64 (l[k].k.x.n : Int), .slice po l[k].m.length pc, .bool l[k].d, .string l[k].v] 61)) vo vc po pc l[k] hfk (s2.keep0 KB)
      have etl : (l.take k).length = k := by rw [List.length_take]; omega
      have yq : ∀ W, Keep0 w W → Calls Tryz.prog 69 #[.slice (some ⟨b, off, none⟩) k cap, .agg #[.slice vo l[k].k.c.length vc, .bool l[k].k.d, .string l[k].k.x.a, .int .u64 (l[k].k.x.n : Int), .slice po l[k].m.length pc, .bool l[k].d, .string l[k].v]] W fun e w' => e = .returned (.int .i64 (ordA (lastK (l.take k)) l[k].k)) ∧ Keep0 W w' := by
        intro W KW
        have h := order16 W (some ⟨b, off, none⟩) cap (l.take k) vo vc po pc l[k] (by rw [etl]; have := HL.out; omega) (fun y hy => HF.out y (List.mem_of_mem_take hy)) hfk ((sibs_take HC.out k).keep0 KW) (s2.ens.keep0 KW)
        rw [etl] at h
        exact h
      have hd := HK.out
      rw [goS_drop hlt] at hd
      have j3 : k ≤ cap := by omega
      have j4 : (k : Int) ≤ cap := by omega
      clear s1 s2 HK etl kB hfk
      have HZ : Hid (sCheck l[k] ≠ 0 → sCheck l[k] = r) := by
        intro h1
        rw [oOne_bad h1, if_neg h1] at hd
        exact hd
      have HO : Hid (sCheck l[k] = 0 → oOne (pvk l k) l[k] = ordA (lastK (l.take k)) l[k].k) := fun h1 => oOne_ord hlt h1 HQ.out
      have HD : Hid ((if oOne (pvk l k) l[k] = 0 then oGo (pvk l (k + 1)) (l.drop (k + 1)) else oOne (pvk l k) l[k]) = r) := hd
      have HS : Hid (sCheck l[k] = 0 → ∀ q (_ : q < l.length), q < k + 1 → sCheck l[q] = 0) := by
        intro h1 q hq hq2
        by_cases e : q = k
        · subst e; exact h1
        · exact HQ.out q hq (by omega)
      clear hd HQ
      generalize sCheck l[k] = C at *
      generalize ordA (lastK (l.take k)) l[k].k = D at *
      generalize oOne (pvk l k) l[k] = E at *
      generalize l[k] = X at *
      go_wp2_with fail
      clear a0 a1 a2 a3 a4 a5 a6
      generalize (wr.alloc (.cells #[.slice vo X.k.c.length vc, .bool X.k.d, .string X.k.x.a, .int .u64 (X.k.x.n : Int), .slice po X.m.length pc, .bool X.d, .string X.v] 61)) = WB at *
      generalize wr.heap.size = h at *
      refine yc.mono ?_
      rintro e w1 ⟨rfl, k1⟩
      have K1 := KB.trans k1
      replace xk := k1.cell xk (fun f => f)
      replace q0 := k1.cell q0 (fun f => f)
      replace q1 := k1.cell q1 (fun f => f)
      replace q2 := k1.cell q2 (fun f => f)
      replace q3 := k1.cell q3 (fun f => f)
      replace q4 := k1.cell q4 (fun f => f)
      replace q5 := k1.cell q5 (fun f => f)
      replace q6 := k1.cell q6 (fun f => f)
      clear yc k1 KB hK
      by_cases h1 : C = 0
      case neg =>
        have e0 : (C != 0) = true := by simpa using h1
        have HD2 : Hid (C = r) := HZ.out h1
        clear yq HZ HO HD HS h1 q0 q1 q2 q3 q4 q5 q6
        go_wp2
        go_ret
        exact ⟨by rw [← HD2.out]; rfl, K1⟩
      subst h1
      have HO2 : Hid (E = D) := HO.out rfl
      have HS2 : Hid (∀ q (_ : q < l.length), q < k + 1 → sCheck l[q] = 0) := HS.out rfl
      clear HZ HO HS
      go_wp2_with fail
      refine wp_region_held_drew (S := (fun W => W.cell? ⟨g, 1, none⟩ = some (.slice (some ⟨b, off, none⟩) l.length cap) ∧ W.cell? ⟨h, 0, none⟩ = some (.slice vo X.k.c.length vc) ∧ W.cell? ⟨h, 1, none⟩ = some (.bool X.k.d) ∧ W.cell? ⟨h, 2, none⟩ = some (.string X.k.x.a) ∧ W.cell? ⟨h, 3, none⟩ = some (.int .u64 (X.k.x.n : Int)) ∧ W.cell? ⟨h, 4, none⟩ = some (.slice po X.m.length pc) ∧ W.cell? ⟨h, 5, none⟩ = some (.bool X.d) ∧ W.cell? ⟨h, 6, none⟩ = some (.string X.v))) (by kernel_rfl) ⟨xk, q0, q1, q2, q3, q4, q5, q6⟩ (fun hHeld => ?_)
      refine wpAnyH_take (i := 0) (v := ?c0v) (by simp only [List.getElem?_toArray, List.getElem?_cons_zero] <;> rfl) (by kernel_rfl) (by kernel_rfl) (by kernel_rfl) (by exact fun _ _ _ h => h) (Or.inl ⟨by rfl, ?c0y⟩) hHeld ?c0r
      case c0y => intro w hSw; (try dsimp only at hSw); go_simp <;> rfl
      simp only [Act.put, List.setIfInBounds_toArray, List.set_cons_zero, List.set_cons_succ]
      refine wpAnyH_take (i := 1) (v := ?c1v) (by simp only [List.getElem?_toArray, List.getElem?_cons_succ, List.getElem?_cons_zero] <;> rfl) (by kernel_rfl) (by kernel_rfl) (by kernel_rfl) (by exact fun _ _ _ h => h) (Or.inl ⟨by rfl, ?c1y⟩) hHeld ?c1r
      case c1y => intro w hSw; (try dsimp only at hSw); go_simp <;> rfl
      simp only [Act.put, List.setIfInBounds_toArray, List.set_cons_zero, List.set_cons_succ]
      refine wpAnyH_take (i := 2) (v := ?c2v) (by simp only [List.getElem?_toArray, List.getElem?_cons_succ, List.getElem?_cons_zero] <;> rfl) (by kernel_rfl) (by kernel_rfl) (by kernel_rfl) (by exact fun _ _ _ h => h) (Or.inl ⟨by rfl, ?c2y⟩) hHeld ?c2r
      case c2y => intro w hSw; (try dsimp only at hSw); go_simp <;> rfl
      simp only [Act.put, List.setIfInBounds_toArray, List.set_cons_zero, List.set_cons_succ]
      refine wpAnyH_take (i := 3) (v := ?c3v) (by simp only [List.getElem?_toArray, List.getElem?_cons_succ, List.getElem?_cons_zero] <;> rfl) (by kernel_rfl) (by kernel_rfl) (by kernel_rfl) (by exact fun _ _ _ h => h) (Or.inl ⟨by rfl, ?c3y⟩) hHeld ?c3r
      case c3y => intro w hSw; (try dsimp only at hSw); go_simp <;> rfl
      simp only [Act.put, List.setIfInBounds_toArray, List.set_cons_zero, List.set_cons_succ]
      refine wpAnyH_take (i := 4) (v := ?c4v) (by simp only [List.getElem?_toArray, List.getElem?_cons_succ, List.getElem?_cons_zero] <;> rfl) (by kernel_rfl) (by kernel_rfl) (by kernel_rfl) (by exact fun _ _ _ h => h) (Or.inl ⟨by rfl, ?c4y⟩) hHeld ?c4r
      case c4y => intro w hSw; (try dsimp only at hSw); go_simp <;> rfl
      simp only [Act.put, List.setIfInBounds_toArray, List.set_cons_zero, List.set_cons_succ]
      refine wpAnyH_ready (rs := [5]) (by kernel_rfl) (by simp) ?_
      refine AllReadyH.cons (by simp only [List.getElem?_toArray, List.getElem?_cons_succ, List.getElem?_cons_zero] <;> rfl) (fun K hK => ?_) AllReadyH.nil
      go_simp
      refine (yq _ K1.drew).mono ?_
      rintro e w3 ⟨rfl, kx⟩
      have kw : Keep0 w1 w3 := ((Keep.refl _ w1).drew).trans kx
      clear kx
      go_wp2_with fail
      refine hK.out _ _ ⟨kw.cell xk (fun f => f), kw.cell q0 (fun f => f), kw.cell q1 (fun f => f), kw.cell q2 (fun f => f), kw.cell q3 (fun f => f), kw.cell q4 (fun f => f), kw.cell q5 (fun f => f), kw.cell q6 (fun f => f)⟩ (fun hHeld => ?_)
      clear hK K
      refine wpAnyH_take (i := 6) (v := ?c5v) (by simp only [List.getElem?_toArray, List.getElem?_cons_succ, List.getElem?_cons_zero] <;> rfl) (by kernel_rfl) (by kernel_rfl) (by kernel_rfl) (by exact fun _ _ _ h => h) (Or.inl ⟨by rfl, ?c5y⟩) hHeld ?c5r
      case c5y => intro w hSw; (try dsimp only at hSw); go_simp <;> rfl
      simp only [Act.put, List.setIfInBounds_toArray, List.set_cons_zero, List.set_cons_succ]
      refine wpAnyH_done (by kernel_rfl) ?_ _
      have K3 := K1.trans kw
      have u1 := kw.cell xk (fun f => f)
      clear yq kw K1 hHeld xk q0 q1 q2 q3 q4 q5 q6
      by_cases h2 : D = 0
      case neg =>
        have e0 : (D != 0) = true := by simpa using h2
        have HD2 : Hid (D = r) := by
          have hd := HD.out
          rw [HO2.out, if_neg h2] at hd
          exact hd
        clear HD HO2 HS2 h2
        go_wp2
        go_ret
        exact ⟨by rw [← HD2.out]; rfl, K3⟩
      subst h2
      have HD2 : Hid (oGo (pvk l (k + 1)) (l.drop (k + 1)) = r) := by
        have hd := HD.out
        rw [HO2.out, if_pos rfl] at hd
        exact hd
      clear HD HO2
      go_wp2
      go_roundw
      case rel => exact ⟨k + 1, by go_num, by omega, HD2, HS2, u1, K3⟩
      case measure => simp [intOf]; omega
    · have j2 : ¬ (k : Int) < l.length := by omega
      have hd := HK.out
      rw [List.drop_eq_nil_of_le (by omega)] at hd
      have HD : Hid (0 = r) := hd
      clear hd HK HQ
      go_wp2
      go_ret
      exact ⟨by rw [← HD.out]; rfl, hK⟩
set_option maxRecDepth 100000 in
set_option maxHeartbeats 8000000 in
theorem alone16 (w : World) (ao : Option Addr) (cap : Nat) (l : List Sb) (hl : l.length ≤ maxLen) (hf : ∀ x ∈ l, Ok15 x) (hc : SibsAt w ao l) :
    Calls Tryz.prog 61 #[.slice ao l.length cap] w fun e w' => e = .returned (.int .i64 (sBad l)) ∧ Keep0 w w' := by
  have i1 : (l.length : Int) ≤ 9223372036854775807 := by unfold maxLen at hl; omega
  have HC : Hid (SibsAt w ao l) := hc
  have HF : Hid (∀ x ∈ l, Ok15 x) := hf
  obtain ⟨r, hr⟩ : ∃ r, sBad l = r := ⟨_, rfl⟩
  rw [hr]
  have HR : Hid (sBad (l.drop 0) = r) := by rw [List.drop_zero]; exact hr
  clear hc hf hr hl
  go_enter Tryz.func61, Tryz.ntmps61
  go_wp2_with fail
  go_loopw [8] (fun i wr => ∃ (k : Nat), i = .int .i64 (k : Int) ∧ k ≤ l.length ∧ Hid (sBad (l.drop k) = r) ∧ Keep0 w wr) (fun i _ => l.length - (intOf i).toNat)
  case atStart => exact ⟨0, rfl, by omega, HR, Keep.refl _ _⟩
  case round =>
    obtain ⟨k, rfl, hk, HK, hK⟩ := hrel
    clear HR
    by_cases hlt : k < l.length
    · have j2 : (k : Int) < l.length := by omega
      obtain ⟨b, off, vo, vc, po, pc, rfl, s1, s2⟩ := HC.out k hlt
      have hfk := HF.out _ (List.getElem_mem hlt)
      obtain ⟨a0, a1, a2, a3, a4, a5, a6⟩ := s1.keep0 hK
      have kB : Keep0 wr (wr.alloc (.cells #[.slice vo l[k].k.c.length vc, .bool l[k].k.d, .string l[k].k.x.a, .int .u64 (l[k].k.x.n : Int), .slice po l[k].m.length pc, .bool l[k].d, .string l[k].v] 61)) := (Keep.refl _ wr).alloc _
      obtain ⟨q0, q1, q2, q3, q4, q5, q6⟩ := sib_new wr 61 l[k] vo vc po pc
      have KB := hK.trans kB
      have yc := check15 (wr.alloc (.cells #[.slice vo l[k].k.c.length vc, .bool l[k].k.d, .string l[k].k.x.a, .int .u64 (l[k].k.x.n : Int), .slice po l[k].m.length pc, .bool l[k].d, .string l[k].v] 61)) vo vc po pc l[k] hfk (s2.keep0 KB)
      have hd := HK.out
      rw [sBad_drop hlt] at hd
      have HD : Hid ((if sCheck l[k] = 0 then sBad (l.drop (k + 1)) else sCheck l[k]) = r) := hd
      clear s1 s2 HK kB hfk hd
      generalize sCheck l[k] = C at *
      generalize l[k] = X at *
      go_wp2_with fail
      clear a0 a1 a2 a3 a4 a5 a6
      generalize (wr.alloc (.cells #[.slice vo X.k.c.length vc, .bool X.k.d, .string X.k.x.a, .int .u64 (X.k.x.n : Int), .slice po X.m.length pc, .bool X.d, .string X.v] 61)) = WB at *
      generalize wr.heap.size = h at *
      refine yc.mono ?_
      rintro e w1 ⟨rfl, k1⟩
      have K1 := KB.trans k1
      clear yc k1 KB hK q0 q1 q2 q3 q4 q5 q6
      by_cases h1 : C = 0
      case neg =>
        have e0 : (C != 0) = true := by simpa using h1
        have HD2 : Hid (C = r) := by
          have hd := HD.out
          rw [if_neg h1] at hd
          exact hd
        clear HD h1
        go_wp2
        go_ret
        exact ⟨by rw [← HD2.out]; rfl, K1⟩
      subst h1
      have HD2 : Hid (sBad (l.drop (k + 1)) = r) := HD.out
      clear HD
      go_wp2
      go_roundw
      case rel => exact ⟨k + 1, by go_num, by omega, HD2, K1⟩
      case measure => simp [intOf]; omega
    · have j2 : ¬ (k : Int) < l.length := by omega
      have hd := HK.out
      rw [List.drop_eq_nil_of_le (by omega)] at hd
      have HD : Hid (0 = r) := hd
      clear hd HK
      go_wp2
      go_ret
      exact ⟨by rw [← HD.out]; rfl, hK⟩
end Go.Proofs.YtoefibkhlhmlfaaGreat
