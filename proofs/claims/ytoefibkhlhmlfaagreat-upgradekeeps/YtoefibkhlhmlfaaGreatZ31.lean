/-
  What this seat's claims lean on of the texts RefObj5, RefObj4, SbA, DcD.
  Conditions: as each theorem states.
-/
import Derived.WalkKit
import Derived.ProofKit
import Derived.Below
import Derived.Deep.Draws
import Derived.Deep.RegionHeld
import Derived.Test.YtoefibkhlhmlfaaGreatChecked
import Derived.OpenShut
import Derived.ShutString
import Derived.WalkSpells
import Derived.WalkLawsBesides
import Derived.Deep.QuietTactic
import Derived.BigQuiet
import Derived.Laws.Bits64b
import Derived.PlainAid
import Derived.Lib.AppendStr
import Derived.Deep.AppendLies
import Derived.Laws.IdiomStrings
import Derived.Laws.BytesArg
import Derived.Deep.RegionWith
import Derived.Laws.AppendOwn
import Derived.Deep.DeepAppendWide
import Derived.Deep.Upon
import Derived.Maps.AppendAt
import Derived.Laws.Rows
import Derived.Deep.Slices
import Derived.Deep.CutRange
import Derived.Test.YtoefibkhlhmlfaaGreatZ29
import Derived.Test.YtoefibkhlhmlfaaGreatZ24
import Derived.Test.YtoefibkhlhmlfaaGreatZ30
import Derived.Test.YtoefibkhlhmlfaaGreatZ20
import Derived.Test.YtoefibkhlhmlfaaGreatZ12
import Derived.Test.YtoefibkhlhmlfaaGreatZ15
namespace Go.Proofs.YtoefibkhlhmlfaaGreat
open Go.RowKit
theorem okSib_fit {x : Sb} (h : okSib x) : FitsS x := by
  have hR := (right_iff _).1 h.1.1
  have h1 := (check_zero _).1 hR.vec
  obtain ⟨h2, h3⟩ := (qCheck_zero _).1 h.2.1
  refine ⟨⟨⟨by unfold maxLen; omega, fun y hy => ⟨by have := (hR.good.1 y hy).2.1; unfold maxLen; omega, h.1.2.1 y hy⟩⟩, ?_, h.1.2.2⟩, ⟨by unfold maxLen; omega, fun y hy => by have := h3.1 y hy; unfold Pr.ok at this; unfold maxLen; omega⟩, by have := h.2.2; unfold maxLen; omega⟩
  cases hd : x.k.d with
  | true => have := (hR.dot hd).1.2.1; unfold maxLen; omega
  | false => have := (hR.plain hd).1; omega
theorem NewL.lower {B B' : Nat} {w : World} {ao : Option Addr} {L : List Pl} (h : NewL B w ao L) (hB : B' ≤ B) : NewL B' w ao L :=
  ⟨h.at_, fun g off m e => Nat.le_trans hB (h.own g off m e), fun p hp g off m e => Nat.le_trans hB (h.vec p hp g off m e), fun p hp g off m e => Nat.le_trans hB (h.prs p hp g off m e)⟩
theorem ob_end {s : ByteArray} {a BA CA : Int} {KT : ByteArray} {N : Nat} (hk : rKey s a = (KT, BA, 0)) (hc : kErr s BA 0 16 = 0) (hN : kNum s BA 0 16 = (N : Int)) (h0 : N ≠ 0) (hA : tAt s BA 0 = CA) {R : List Sb × Int × Int} (hR : liftS [] (rSibs N none s CA) = R) : rOb s a = if R.2.2 = 0 then ((⟨KT, R.1⟩ : Ob), R.2) else (zOb, R.2) := by
  obtain ⟨h1, h2⟩ := obT_3 hc (by rw [hN]; omega)
  rw [hN, hA, Int.toNat_natCast, hR] at h1 h2
  rw [ob_rest hk, h1, h2]
theorem sb_bad {N k : Nat} (hk : k < N) {O : List Sb} {p : Option ByteArray} {s : ByteArray} {A A1 E1 : Int} {X : Sb} {R : List Sb × Int × Int} (hR : R = liftS O (rSibs (N - k) p s A)) (hS : rSib s A = (X, A1, E1)) (h : E1 ≠ 0) : R = ([], A1, E1) := by
  obtain ⟨n, hn⟩ : ∃ n, N - k = n + 1 := ⟨N - k - 1, by omega⟩
  have e := sibT_a (s := s) (a := A) (p := p) (by rw [hS]; exact h)
  rw [hR, hn, sibs_bad O (by rw [e, hS]; exact h), e, hS]
theorem sb_down {N k : Nat} (hk : k < N) {O : List Sb} {p : Option ByteArray} {s : ByteArray} {A A1 : Int} {X : Sb} {R : List Sb × Int × Int} (hR : R = liftS O (rSibs (N - k) p s A)) (hS : rSib s A = (X, A1, 0)) (h : fTest p X = 6) : R = ([], A1, 6) := by
  obtain ⟨n, hn⟩ : ∃ n, N - k = n + 1 := ⟨N - k - 1, by omega⟩
  have e := sibT_b (s := s) (a := A) (p := p) (by rw [hS]) (by rw [hS, h]; decide)
  rw [hS] at e
  rw [hR, hn, sibs_bad O (by rw [e, h]; show (6 : Int) ≠ 0; decide), e, h]
theorem sb_up {N k : Nat} (hk : k < N) {O : List Sb} {p : Option ByteArray} {s : ByteArray} {A A1 : Int} {X : Sb} {R : List Sb × Int × Int} (hR : R = liftS O (rSibs (N - k) p s A)) (hS : rSib s A = (X, A1, 0)) (h : fTest p X = 0) : R = liftS (O ++ [X]) (rSibs (N - (k + 1)) (some (kb X)) s A1) := by
  obtain ⟨n, hn⟩ : ∃ n, N - k = n + 1 := ⟨N - k - 1, by omega⟩
  have hn2 : N - (k + 1) = n := by omega
  have e := sibT_c (s := s) (a := A) (p := p) (by rw [hS]) (by rw [hS]; exact h)
  rw [hS] at e
  rw [hR, hn, hn2, sibs_more O (by rw [e]), e]
  rfl
theorem fTest_none (X : Sb) : fTest none X = 0 := fTest_zero.2 (fun q e => by cases e)
theorem fTest_up {q : ByteArray} {X : Sb} (h : bl q (kb X) = true) : fTest (some q) X = 0 := fTest_zero.2 (fun q' e => by cases e; exact h)
theorem fTest_down {q : ByteArray} {X : Sb} (h : bl q (kb X) = false) : fTest (some q) X = 6 := by
  unfold fTest
  rw [falls_some]
  have e : bl q (eClk X.k) = false := h
  rw [e]
  rfl
theorem pvk_map {O : List Pl} {j : Nat} (h : j < O.length) : pvk (O.map Pl.x) (j + 1) = some (kb O[j].x) := by
  rw [pvk_succ (by rw [List.length_map]; exact h), List.getElem_map]
theorem pvk_last {O : List Pl} {p : Pl} {k : Nat} (h : O.length = k) : pvk ((O ++ [p]).map Pl.x) (k + 1) = some (kb p.x) := by
  subst h
  rw [pvk_map (by rw [List.length_append]; exact Nat.lt_succ_self _)]
  congr 2
  rw [List.getElem_append_right (Nat.le_refl _)]
  simp
def LoopO (s : ByteArray) (N k : Nat) (O : List Pl) (A E : Int) (R : List Sb × Int × Int) : Prop :=
  (E = 0 ∧ O.length = k ∧ R = liftS (O.map Pl.x) (rSibs (N - k) (pvk (O.map Pl.x) k) s A) ∧ ∀ p ∈ O, sCheck p.x = 0 ∧ FitsS p.x) ∨ (E ≠ 0 ∧ R = ([], A, E))
theorem LoopO.up {s : ByteArray} {N k : Nat} {O : List Pl} {A A1 : Int} {R : List Sb × Int × Int} {p : Pl} (hk : k < N) (h0 : O.length = k) (hR : R = liftS (O.map Pl.x) (rSibs (N - k) (pvk (O.map Pl.x) k) s A)) (ha : ∀ p ∈ O, sCheck p.x = 0 ∧ FitsS p.x) (hS : rSib s A = (p.x, A1, 0)) (hp : sCheck p.x = 0 ∧ FitsS p.x) (h : fTest (pvk (O.map Pl.x) k) p.x = 0) : LoopO s N (k + 1) (O ++ [p]) A1 0 R := by
  refine .inl ⟨rfl, by rw [List.length_append, h0]; rfl, ?_, ?_⟩
  · rw [sb_up hk hR hS h, pvk_last h0, List.map_append]
    rfl
  · intro q hq
    rcases List.mem_append.1 hq with hq | hq
    · exact ha q hq
    · rw [List.mem_singleton.1 hq]; exact hp
end Go.Proofs.YtoefibkhlhmlfaaGreat
namespace Go.Proofs.YtoefibkhlhmlfaaGreat
open Go.RowKit
def SibsOff (w : World) (b : Nat) (ao : Option Addr) (l : List Sb) : Prop := ∀ i (_ : i < l.length), ∃ bb off vo vc po pc, ao = some ⟨bb, off, none⟩ ∧ bb ≠ b ∧ SibAt w bb (off + i * 7) l[i] vo vc po pc ∧ SibIn w vo po pc l[i] ∧ (0 < l[i].k.c.length → ApartE (fun k => k = b) vo) ∧ (0 < l[i].m.length → ApartE (fun k => k = b) po)
theorem SibsOff.sibs {w : World} {b : Nat} {ao : Option Addr} {l : List Sb} (h : SibsOff w b ao l) : SibsAt w ao l := by
  intro i hi
  obtain ⟨bb, off, vo, vc, po, pc, e, _, h1, h2, _, _⟩ := h i hi
  exact ⟨bb, off, vo, vc, po, pc, e, h1, h2⟩
theorem SibsOff.old {w0 w : World} {b : Nat} {ao : Option Addr} {l : List Sb} (h : SibsAt w0 ao l) (k : Keep0 w0 w) (hb : w0.heap.size ≤ b) : SibsOff w b ao l := by
  intro i hi
  obtain ⟨bb, off, vo, vc, po, pc, e, h1, h2⟩ := h i hi
  have hbB := World.block_lt_of_cell? w0 _ h1.c0
  simp only at hbB
  exact ⟨bb, off, vo, vc, po, pc, e, by omega, h1.keep0 k, h2.keep0 k, fun hl g o m e' hh => by have := ens_old h2.ens hl g o m e'; omega, fun hl g o m e' hh => by have := prs_old h2.prs hl g o m e'; omega⟩
theorem SibsOff.keep {w w' : World} {b : Nat} {ao : Option Addr} {l : List Sb} (h : SibsOff w b ao l) (K : Keep1 b w w') : SibsOff w' b ao l := by
  intro i hi
  obtain ⟨bb, off, vo, vc, po, pc, e, hb, h1, h2, h3, h4⟩ := h i hi
  refine ⟨bb, off, vo, vc, po, pc, e, hb, h1.keep K hb, ⟨?_, ?_, h2.room⟩, h3, h4⟩
  · by_cases hz : 0 < l[i].k.c.length
    · exact h2.ens.keep K (h3 hz)
    · exact fun j hj => absurd hj (by omega)
  · by_cases hz : 0 < l[i].m.length
    · exact h2.prs.keep K (h4 hz)
    · exact fun j hj => absurd hj (by omega)
theorem SibsOff.keep0 {w w' : World} {b : Nat} {ao : Option Addr} {l : List Sb} (h : SibsOff w b ao l) (K : Keep0 w w') : SibsOff w' b ao l := h.keep K.any
theorem wCount_fit {M m : Int} {p : ByteArray × Int} {n : Nat} (h : (n : Int) ≤ pMax m) : wCount M m p (n : Int) = pOne M p (vText n) := by
  unfold wCount
  rw [if_neg (by omega), if_pos h]
  rfl
end Go.Proofs.YtoefibkhlhmlfaaGreat
namespace Go.Proofs.YtoefibkhlhmlfaaGreat
open Go.RowKit
set_option maxRecDepth 100000 in
set_option maxHeartbeats 4000000 in
theorem check15_any (w : World) (vo : Option Addr) (vc : Nat) (po : Option Addr) (pc : Nat) (c : List En) (d : Bool) (a : ByteArray) (n : Nat) (m : List Pr) (q : Bool) (v : ByteArray) (fl : c.length ≤ 10000) (fk : FitsK ⟨c, d, ⟨a, n⟩⟩) (fp : FitsP m) (hcp : CapP m pc) (fv : v.size ≤ maxLen) (hE : EnsAt w vo c) (hP : PrsAt w po m) :
    Calls Tryz.prog 68 #[.agg #[.slice vo c.length vc, .bool d, .string a, .int .u64 (n : Int), .slice po m.length pc, .bool q, .string v]] w fun e w' => e = .returned (.int .i64 (sCheck ⟨⟨c, d, ⟨a, n⟩⟩, m, q, v⟩)) ∧ Keep0 w w' := by
  have kA : Keep0 w (w.alloc (.cells #[.slice vo c.length vc, .bool d, .string a, .int .u64 (n : Int), .slice po m.length pc, .bool q, .string v] 61)) := (Keep.refl _ w).alloc _
  obtain ⟨x0, x1, x2, x3, x4, x5, x6⟩ := sib_new w 61 ⟨⟨c, d, ⟨a, n⟩⟩, m, q, v⟩ vo vc po pc
  have yk := check12 (w.alloc (.cells #[.slice vo c.length vc, .bool d, .string a, .int .u64 (n : Int), .slice po m.length pc, .bool q, .string v] 61)) vo vc ⟨c, d, ⟨a, n⟩⟩ ⟨fl, fk⟩ (hE.keep0 kA)
  have yp := fun W (h : PrsAt W po m) => check14 W po pc m fp hcp h
  have hPA := hP.keep0 kA
  have i0 : (v.size : Int) ≤ 9223372036854775807 := by unfold maxLen at fv; omega
  have a1 := sCheck_a (x := ⟨⟨c, d, ⟨a, n⟩⟩, m, q, v⟩)
  have a2 := sCheck_b (x := ⟨⟨c, d, ⟨a, n⟩⟩, m, q, v⟩)
  have a3 := sCheck_c (x := ⟨⟨c, d, ⟨a, n⟩⟩, m, q, v⟩)
  have a4 := (sCheck_zero (x := ⟨⟨c, d, ⟨a, n⟩⟩, m, q, v⟩)).2
  by_cases h1 : kCheck ⟨c, d, ⟨a, n⟩⟩ = 0
  case neg =>
    rw [a1 h1]
    have e1 : (kCheck ⟨c, d, ⟨a, n⟩⟩ != 0) = true := by simpa using h1
    clear a1 a2 a3 a4 yp hPA fl fk fp hcp fv hE hP
    show Calls _ _ _ _ fun e w' => e = .returned (.int .i64 (kCheck ⟨c, d, ⟨a, n⟩⟩)) ∧ Keep0 w w'
    generalize kCheck ⟨c, d, ⟨a, n⟩⟩ = C at *
    go_enter Tryz.func68, Tryz.ntmps68
    go_wp2_with fail
    generalize (w.alloc (.cells #[.slice vo c.length vc, .bool d, .string a, .int .u64 (n : Int), .slice po m.length pc, .bool q, .string v] 61)) = W0 at *
    generalize w.heap.size = g at *
    refine yk.mono ?_
    rintro e w1 ⟨rfl, k1⟩
    have K1 := kA.trans k1
    clear yk k1 kA
    go_wp2
    go_ret
    exact ⟨rfl, K1⟩
  rw [h1] at yk
  by_cases h2 : qCheck m = 0
  case neg =>
    rw [a2 h1 h2]
    have e1 : (qCheck m != 0) = true := by simpa using h2
    clear a1 a2 a3 a4 fl fk fp hcp fv hE hP
    show Calls _ _ _ _ fun e w' => e = .returned (.int .i64 (qCheck m)) ∧ Keep0 w w'
    generalize qCheck m = C at *
    go_enter Tryz.func68, Tryz.ntmps68
    go_wp2_with fail
    generalize (w.alloc (.cells #[.slice vo c.length vc, .bool d, .string a, .int .u64 (n : Int), .slice po m.length pc, .bool q, .string v] 61)) = W0 at *
    generalize w.heap.size = g at *
    refine yk.mono ?_
    rintro e w1 ⟨rfl, k1⟩
    have K1 := kA.trans k1
    replace x4 := k1.cell x4 (fun f => f)
    have yp := yp _ (hPA.keep0 k1)
    clear yk k1 kA hPA x0 x1 x2 x3 x5 x6
    go_wp2_with fail
    refine yp.mono ?_
    rintro e w2 ⟨rfl, k2⟩
    have K2 := K1.trans k2
    clear yp k2 K1
    go_wp2
    go_ret
    exact ⟨rfl, K2⟩
  rw [h2] at yp
  by_cases h3 : 32768 < v.size
  · rw [a3 h1 h2 h3]
    have j1 : (32768 : Int) < v.size := by omega
    have j2 : decide ((32768 : Int) < (v.size : Int)) = true := decide_eq_true j1
    clear a1 a2 a3 a4 fl fk fp hcp fv hE hP h3
    go_enter Tryz.func68, Tryz.ntmps68
    go_wp2_with fail
    generalize (w.alloc (.cells #[.slice vo c.length vc, .bool d, .string a, .int .u64 (n : Int), .slice po m.length pc, .bool q, .string v] 61)) = W0 at *
    generalize w.heap.size = g at *
    refine yk.mono ?_
    rintro e w1 ⟨rfl, k1⟩
    have K1 := kA.trans k1
    replace x4 := k1.cell x4 (fun f => f)
    replace x6 := k1.cell x6 (fun f => f)
    have yp := yp _ (hPA.keep0 k1)
    clear yk k1 kA hPA x0 x1 x2 x3 x5
    go_wp2_with fail
    refine yp.mono ?_
    rintro e w2 ⟨rfl, k2⟩
    have K2 := K1.trans k2
    replace x6 := k2.cell x6 (fun f => f)
    clear yp k2 K1 x4
    go_wp2
    go_ret
    exact ⟨rfl, K2⟩
  · rw [a4 ⟨h1, h2, by show v.size ≤ 32768; omega⟩]
    have j1 : ¬ (32768 : Int) < v.size := by omega
    have j2 : decide ((32768 : Int) < (v.size : Int)) = false := decide_eq_false j1
    clear a1 a2 a3 a4 fl fk fp hcp fv hE hP h3
    go_enter Tryz.func68, Tryz.ntmps68
    go_wp2_with fail
    generalize (w.alloc (.cells #[.slice vo c.length vc, .bool d, .string a, .int .u64 (n : Int), .slice po m.length pc, .bool q, .string v] 61)) = W0 at *
    generalize w.heap.size = g at *
    refine yk.mono ?_
    rintro e w1 ⟨rfl, k1⟩
    have K1 := kA.trans k1
    replace x4 := k1.cell x4 (fun f => f)
    replace x6 := k1.cell x6 (fun f => f)
    have yp := yp _ (hPA.keep0 k1)
    clear yk k1 kA hPA x0 x1 x2 x3 x5
    go_wp2_with fail
    refine yp.mono ?_
    rintro e w2 ⟨rfl, k2⟩
    have K2 := K1.trans k2
    replace x6 := k2.cell x6 (fun f => f)
    clear yp k2 K1 x4
    go_wp2
    go_ret
    exact ⟨rfl, K2⟩
theorem check15 (w : World) (vo : Option Addr) (vc : Nat) (po : Option Addr) (pc : Nat) (x : Sb) (o : Ok15 x) (h : SibIn w vo po pc x) :
    Calls Tryz.prog 68 #[.agg #[.slice vo x.k.c.length vc, .bool x.k.d, .string x.k.x.a, .int .u64 (x.k.x.n : Int), .slice po x.m.length pc, .bool x.d, .string x.v]] w fun e w' => e = .returned (.int .i64 (sCheck x)) ∧ Keep0 w w' :=
  check15_any w vo vc po pc x.k.c x.k.d x.k.x.a x.k.x.n x.m x.d x.v o.len o.fit.clk o.fit.prs h.room o.fit.val h.ens h.prs
end Go.Proofs.YtoefibkhlhmlfaaGreat
namespace Go.Proofs.YtoefibkhlhmlfaaGreat
open Go.RowKit
theorem enc_pen13 {k : Ck} {M : Int} (hM : 65536 ≤ M) (hn : ∀ x ∈ k.c, U64 x.n) (hx : U64 k.x.n) : (pEnd (pClk M (⟨#[]⟩, 0) k).1 (pClk M (⟨#[]⟩, 0) k).2, (pClk M (⟨#[]⟩, 0) k).2) = encK k := by
  rw [← encK_pen hn hx]
  by_cases h0 : kCheck k = 0
  · have hs := eClk_size ⟨h0, hn, hx⟩
    rw [pClk_fit ⟨h0, hn, hx⟩ (by show ((0 : Nat) : Int) + _ ≤ _; omega), pClk_fit ⟨h0, hn, hx⟩ (by show ((0 : Nat) : Int) + _ ≤ _; omega)]
  · rw [pClk_no h0, pClk_no h0]
set_option maxRecDepth 100000 in
set_option maxHeartbeats 4000000 in
theorem encode13 (w : World) (ao : Option Addr) (cap : Nat) (k : Ck) (ok : Ok13 k) (hc : EnsAt w ao k.c) :
    Calls Tryz.prog 140 #[.agg #[.slice ao k.c.length cap, .bool k.d, .string k.x.a, .int .u64 (k.x.n : Int)]] w fun e w' => e = .returned (.tuple #[.string (encK k).1, .int .i64 (encK k).2]) ∧ Keep0 w w' := by
  have he := enc_pen13 (M := 9223372036854775807) (by decide) (fun x hx => (ok.fit.vec.2 x hx).2) ok.fit.num
  have k0 : Keep0 w (w.alloc (.cells #[.slice ao k.c.length cap, .bool k.d, .string k.x.a, .int .u64 (k.x.n : Int)] 58)) := (Keep.refl _ w).alloc _
  have q0 := QAt.new w 58 (.slice ao k.c.length cap) (.bool k.d) (.string k.x.a) (.int .u64 (k.x.n : Int))
  have z0 : (w.alloc (.cells #[.slice ao k.c.length cap, .bool k.d, .string k.x.a, .int .u64 (k.x.n : Int)] 58)).heap.size = w.heap.size + 1 := by rw [World.size_alloc]
  have yn := pnew_any (w.alloc (.cells #[.slice ao k.c.length cap, .bool k.d, .string k.x.a, .int .u64 (k.x.n : Int)] 58)) 9223372036854775807 (by decide)
  have hpm : pMax 9223372036854775807 = 9223372036854775807 := rfl
  rw [hpm, z0] at yn
  have hB : ∀ W, Pen W (w.heap.size + 1) (w.heap.size + 1) ⟨#[]⟩ 9223372036854775807 0 → Keep0 w W → Calls Tryz.prog 146 #[pptr (w.heap.size + 1), .slice (some ⟨W.heap.size, 0, none⟩) 1 1] (W.alloc (.cells #[.slice ao k.c.length cap, .bool k.d, .string k.x.a, .int .u64 (k.x.n : Int)] 58)) fun e w' => e = .returned (.tuple #[]) ∧ ∃ r', Pen w' (w.heap.size + 1) r' (pClk 9223372036854775807 (⟨#[]⟩, 0) k).1 9223372036854775807 (pClk 9223372036854775807 (⟨#[]⟩, 0) k).2 ∧ Keep0 w w' := by
    intro W hP hK
    have kA : Keep0 W (W.alloc (.cells #[.slice ao k.c.length cap, .bool k.d, .string k.x.a, .int .u64 (k.x.n : Int)] 58)) := (Keep.refl _ W).alloc _
    have hlt := hP.lt
    refine (put13g (some ⟨W.heap.size, 0, none⟩) 1 [k] (hP.keep0 kA) (by decide) (by show 1 ≤ 100; decide) (fun y hy => by rw [List.mem_singleton.1 hy]; exact ok) ?_).mono ?_
    · intro i hi
      obtain rfl : i = 0 := by simpa using hi
      refine ⟨W.heap.size, 0, ao, cap, rfl, by unfold two; omega, clk_new W _ k ao cap, hc.keep0 (hK.trans kA), fun hl g off m e hh => ?_⟩
      have := ens_old hc hl g off m e
      unfold two at hh
      omega
    · rintro e w' ⟨rfl, r', hp, k, _⟩
      exact ⟨rfl, r', hp, (hK.trans kA).step k (fun i hi hh => by omega)⟩
  have e1 : (encK k).1 = pEnd (pClk 9223372036854775807 (⟨#[]⟩, 0) k).1 (pClk 9223372036854775807 (⟨#[]⟩, 0) k).2 := by rw [← he]
  have e2 : (encK k).2 = (pClk 9223372036854775807 (⟨#[]⟩, 0) k).2 := by rw [← he]
  rw [e1, e2]
  have HB : Hid (∀ W, Pen W (w.heap.size + 1) (w.heap.size + 1) ⟨#[]⟩ 9223372036854775807 0 → Keep0 w W → Calls Tryz.prog 146 #[pptr (w.heap.size + 1), .slice (some ⟨W.heap.size, 0, none⟩) 1 1] (W.alloc (.cells #[.slice ao k.c.length cap, .bool k.d, .string k.x.a, .int .u64 (k.x.n : Int)] 58)) fun e w' => e = .returned (.tuple #[]) ∧ ∃ r', Pen w' (w.heap.size + 1) r' (pClk 9223372036854775807 (⟨#[]⟩, 0) k).1 9223372036854775807 (pClk 9223372036854775807 (⟨#[]⟩, 0) k).2 ∧ Keep0 w w') := hB
  generalize pClk 9223372036854775807 (⟨#[]⟩, 0) k = P at *
  have ye := fun W r' (h : Pen W (w.heap.size + 1) r' P.1 9223372036854775807 P.2) => pend_any h
  generalize pEnd P.1 P.2 = PE at *
  clear he e1 e2 hpm hB hc ok
  go_enter Tryz.func140, Tryz.ntmps140
  go_wp2_with fail
  generalize (w.alloc (.cells #[.slice ao k.c.length cap, .bool k.d, .string k.x.a, .int .u64 (k.x.n : Int)] 58)) = W0 at *
  obtain ⟨g, hg⟩ : ∃ g, w.heap.size = g := ⟨_, rfl⟩
  rw [hg] at q0 z0 yn ye HB ⊢
  refine yn.mono ?_
  rintro e w1 ⟨rfl, h1, k1⟩
  have K1 := k0.trans k1
  have yp := HB.out w1 h1 K1
  obtain ⟨x0, x1, x2, x3, f0, f1, f2, f3⟩ := (q0.keep0 k1).cells
  clear yn HB k0 k1 q0
  go_wp2_with fail
  refine yp.mono ?_
  rintro e w2 ⟨rfl, r2, h2, K2⟩
  have ye := ye _ _ h2
  clear yp K1 h1 x0 x1 x2 x3 f0 f1 f2 f3
  go_wp2_with fail
  refine ye.mono ?_
  rintro e w3 ⟨rfl, rfl⟩
  clear ye
  go_wp2
  go_ret2
  exact ⟨rfl, K2⟩
theorem encK_fine13 {k : Ck} (h : kCheck k = 0) : encK k = (eClk k, 0) := if_pos h
theorem encK_bad13 {k : Ck} (h : kCheck k ≠ 0) : (encK k).2 = kCheck k := by unfold encK; rw [if_neg h]
theorem kBelow_yes {a b : Ck} (h : kCheck a = 0) (h1 : kCheck b = 0) : kBelow a b = (bl (eClk a) (eClk b), 0) := if_pos ⟨h, h1⟩
theorem kBelow_no {a b : Ck} (h : ¬ (kCheck a = 0 ∧ kCheck b = 0)) : kBelow a b = (false, 1) := if_neg h
set_option maxRecDepth 100000 in
set_option maxHeartbeats 4000000 in
theorem below13 (w : World) (ao bo : Option Addr) (ca cb : Nat) (a b : Ck) (oa : Ok13 a) (ob : Ok13 b) (ha : EnsAt w ao a.c) (hb : EnsAt w bo b.c) :
    Calls Tryz.prog 100 #[.agg #[.slice ao a.c.length ca, .bool a.d, .string a.x.a, .int .u64 (a.x.n : Int)], .agg #[.slice bo b.c.length cb, .bool b.d, .string b.x.a, .int .u64 (b.x.n : Int)]] w fun e w' => e = .returned (.tuple #[.bool (kBelow a b).1, .int .i64 (kBelow a b).2]) ∧ Keep0 w w' := by
  have kA : Keep0 w ((w.alloc (.cells #[.slice ao a.c.length ca, .bool a.d, .string a.x.a, .int .u64 (a.x.n : Int)] 58)).alloc (.cells #[.slice bo b.c.length cb, .bool b.d, .string b.x.a, .int .u64 (b.x.n : Int)] 58)) := ((Keep.refl _ w).alloc _).alloc _
  have qa : QAt ((w.alloc (.cells #[.slice ao a.c.length ca, .bool a.d, .string a.x.a, .int .u64 (a.x.n : Int)] 58)).alloc (.cells #[.slice bo b.c.length cb, .bool b.d, .string b.x.a, .int .u64 (b.x.n : Int)] 58)) w.heap.size (.slice ao a.c.length ca) (.bool a.d) (.string a.x.a) (.int .u64 (a.x.n : Int)) := (QAt.new w 58 _ _ _ _).keep0 ((Keep.refl _ _).alloc _)
  have qb : QAt ((w.alloc (.cells #[.slice ao a.c.length ca, .bool a.d, .string a.x.a, .int .u64 (a.x.n : Int)] 58)).alloc (.cells #[.slice bo b.c.length cb, .bool b.d, .string b.x.a, .int .u64 (b.x.n : Int)] 58)) (w.heap.size + 1) (.slice bo b.c.length cb) (.bool b.d) (.string b.x.a) (.int .u64 (b.x.n : Int)) := by
    have := QAt.new (w.alloc (.cells #[.slice ao a.c.length ca, .bool a.d, .string a.x.a, .int .u64 (a.x.n : Int)] 58)) 58 (.slice bo b.c.length cb) (.bool b.d) (.string b.x.a) (.int .u64 (b.x.n : Int))
    rw [World.size_alloc] at this
    exact this
  have ya := encode13 ((w.alloc (.cells #[.slice ao a.c.length ca, .bool a.d, .string a.x.a, .int .u64 (a.x.n : Int)] 58)).alloc (.cells #[.slice bo b.c.length cb, .bool b.d, .string b.x.a, .int .u64 (b.x.n : Int)] 58)) ao ca a oa (ha.keep0 kA)
  have yb := fun W (K : Keep0 w W) => encode13 W bo cb b ob (hb.keep0 K)
  obtain ⟨xa0, xa1, xa2, xa3, fa0, fa1, fa2, fa3⟩ := qa.cells
  obtain ⟨xb0, xb1, xb2, xb3, fb0, fb1, fb2, fb3⟩ := qb.cells
  by_cases h1 : kCheck a = 0
  case neg =>
    rw [kBelow_no (fun h => h1 h.1)]
    have e2 := encK_bad13 h1
    have e3 : ((encK a).2 != 0) = true := by rw [e2]; simpa using h1
    clear e2 h1 oa ob ha hb
    generalize (encK a).2 = EA at *
    generalize (encK a).1 = TA at *
    generalize (encK b).2 = EB at *
    generalize (encK b).1 = TB at *
    go_enter Tryz.func100, Tryz.ntmps100
    go_wp2_with fail
    generalize ((w.alloc (.cells #[.slice ao a.c.length ca, .bool a.d, .string a.x.a, .int .u64 (a.x.n : Int)] 58)).alloc (.cells #[.slice bo b.c.length cb, .bool b.d, .string b.x.a, .int .u64 (b.x.n : Int)] 58)) = W0 at *
    generalize w.heap.size = g at *
    refine ya.mono ?_
    rintro e w1 ⟨rfl, k1⟩
    have K1 := kA.trans k1
    have yb := yb _ K1
    replace qb := qb.keep0 k1
    clear ya kA k1 qa xa0 xa1 xa2 xa3 fa0 fa1 fa2 fa3 xb0 xb1 xb2 xb3 fb0 fb1 fb2 fb3
    obtain ⟨xb0, xb1, xb2, xb3, fb0, fb1, fb2, fb3⟩ := qb.cells
    go_wp2_with fail
    refine yb.mono ?_
    rintro e w2 ⟨rfl, k2⟩
    have K2 := K1.trans k2
    clear yb k2 K1 qb xb0 xb1 xb2 xb3 fb0 fb1 fb2 fb3
    go_wp2
    go_ret2
    exact ⟨rfl, K2⟩
  by_cases h2 : kCheck b = 0
  case neg =>
    rw [kBelow_no (fun h => h2 h.2)]
    have e2 := encK_bad13 h2
    have e3 : ((encK b).2 != 0) = true := by rw [e2]; simpa using h2
    rw [encK_fine13 h1] at ya
    clear e2 h1 h2 oa ob ha hb
    generalize (encK b).2 = EB at *
    generalize (encK b).1 = TB at *
    generalize eClk a = TA at *
    go_enter Tryz.func100, Tryz.ntmps100
    go_wp2_with fail
    generalize ((w.alloc (.cells #[.slice ao a.c.length ca, .bool a.d, .string a.x.a, .int .u64 (a.x.n : Int)] 58)).alloc (.cells #[.slice bo b.c.length cb, .bool b.d, .string b.x.a, .int .u64 (b.x.n : Int)] 58)) = W0 at *
    generalize w.heap.size = g at *
    refine ya.mono ?_
    rintro e w1 ⟨rfl, k1⟩
    have K1 := kA.trans k1
    have yb := yb _ K1
    replace qb := qb.keep0 k1
    clear ya kA k1 qa xa0 xa1 xa2 xa3 fa0 fa1 fa2 fa3 xb0 xb1 xb2 xb3 fb0 fb1 fb2 fb3
    obtain ⟨xb0, xb1, xb2, xb3, fb0, fb1, fb2, fb3⟩ := qb.cells
    go_wp2_with fail
    refine yb.mono ?_
    rintro e w2 ⟨rfl, k2⟩
    have K2 := K1.trans k2
    clear yb k2 K1 qb xb0 xb1 xb2 xb3 fb0 fb1 fb2 fb3
    go_wp2
    go_ret2
    exact ⟨rfl, K2⟩
  rw [kBelow_yes h1 h2]
  rw [encK_fine13 h1] at ya
  rw [encK_fine13 h2] at yb
  clear h1 h2 oa ob ha hb
  generalize eClk a = TA at *
  generalize eClk b = TB at *
  have yr := fun (W : World) => rising6_any _ _ 2 [TA, TB] (by show 2 ≤ maxLen; unfold maxLen; omega) (texts_two10 W 9 TA TB)
  have el : [TA, TB].length = 2 := rfl
  rw [el] at yr
  cases hB : bl TA TB with
  | true =>
    rw [rise_yes hB] at yr
    clear el hB
    go_enter Tryz.func100, Tryz.ntmps100
    go_wp2_with fail
    generalize ((w.alloc (.cells #[.slice ao a.c.length ca, .bool a.d, .string a.x.a, .int .u64 (a.x.n : Int)] 58)).alloc (.cells #[.slice bo b.c.length cb, .bool b.d, .string b.x.a, .int .u64 (b.x.n : Int)] 58)) = W0 at *
    generalize w.heap.size = g at *
    refine ya.mono ?_
    rintro e w1 ⟨rfl, k1⟩
    have K1 := kA.trans k1
    have yb := yb _ K1
    replace qb := qb.keep0 k1
    clear ya kA k1 qa xa0 xa1 xa2 xa3 fa0 fa1 fa2 fa3 xb0 xb1 xb2 xb3 fb0 fb1 fb2 fb3
    obtain ⟨xb0, xb1, xb2, xb3, fb0, fb1, fb2, fb3⟩ := qb.cells
    go_wp2_with fail
    refine yb.mono ?_
    rintro e w2 ⟨rfl, k2⟩
    have K2 := K1.trans k2
    clear yb k2 K1 qb xb0 xb1 xb2 xb3 fb0 fb1 fb2 fb3
    have yr := yr w2
    have kR : Keep0 w2 (w2.alloc (.cells #[.string TA, .string TB] 9)) := (Keep.refl _ w2).alloc _
    have K3 := K2.trans kR
    clear kR
    go_wp2_with fail
    refine yr.mono ?_
    rintro e w3 ⟨rfl, k3⟩
    have K4 := K3.trans (keepN k3)
    clear yr k3 K3 K2
    go_wp2
    go_ret2
    exact ⟨rfl, K4⟩
  | false =>
    rw [rise_no hB] at yr
    clear el hB
    go_enter Tryz.func100, Tryz.ntmps100
    go_wp2_with fail
    generalize ((w.alloc (.cells #[.slice ao a.c.length ca, .bool a.d, .string a.x.a, .int .u64 (a.x.n : Int)] 58)).alloc (.cells #[.slice bo b.c.length cb, .bool b.d, .string b.x.a, .int .u64 (b.x.n : Int)] 58)) = W0 at *
    generalize w.heap.size = g at *
    refine ya.mono ?_
    rintro e w1 ⟨rfl, k1⟩
    have K1 := kA.trans k1
    have yb := yb _ K1
    replace qb := qb.keep0 k1
    clear ya kA k1 qa xa0 xa1 xa2 xa3 fa0 fa1 fa2 fa3 xb0 xb1 xb2 xb3 fb0 fb1 fb2 fb3
    obtain ⟨xb0, xb1, xb2, xb3, fb0, fb1, fb2, fb3⟩ := qb.cells
    go_wp2_with fail
    refine yb.mono ?_
    rintro e w2 ⟨rfl, k2⟩
    have K2 := K1.trans k2
    clear yb k2 K1 qb xb0 xb1 xb2 xb3 fb0 fb1 fb2 fb3
    have yr := yr w2
    have kR : Keep0 w2 (w2.alloc (.cells #[.string TA, .string TB] 9)) := (Keep.refl _ w2).alloc _
    have K3 := K2.trans kR
    clear kR
    go_wp2_with fail
    refine yr.mono ?_
    rintro e w3 ⟨rfl, k3⟩
    have K4 := K3.trans (keepN k3)
    clear yr k3 K3 K2
    go_wp2
    go_ret2
    exact ⟨rfl, K4⟩
end Go.Proofs.YtoefibkhlhmlfaaGreat
