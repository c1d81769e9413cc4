/-
  What this seat's claims lean on of the texts OwnPl, RefObj3, Law15, DcD.
  Conditions: as each theorem states.
-/
import Derived.WalkKit
import Derived.ProofKit
import Derived.Below
import Derived.Deep.Draws
import Derived.Deep.RegionHeld
import Derived.Test.YtoefibkhlhmlfaaGreatChecked
import Derived.OpenShut
import Derived.ShutString
import Derived.WalkSpells
import Derived.WalkLawsBesides
import Derived.Deep.QuietTactic
import Derived.BigQuiet
import Derived.Laws.Bits64b
import Derived.PlainAid
import Derived.Lib.AppendStr
import Derived.Deep.AppendLies
import Derived.Laws.IdiomStrings
import Derived.Laws.BytesArg
import Derived.Deep.RegionWith
import Derived.Laws.AppendOwn
import Derived.Deep.DeepAppendWide
import Derived.Deep.Upon
import Derived.Maps.AppendAt
import Derived.Laws.Rows
import Derived.Deep.Slices
import Derived.Test.YtoefibkhlhmlfaaGreatY32
import Derived.Test.YtoefibkhlhmlfaaGreatY30
import Derived.Test.YtoefibkhlhmlfaaGreatY28
import Derived.Test.YtoefibkhlhmlfaaGreatY3
import Derived.Test.YtoefibkhlhmlfaaGreatY33
namespace Go.Proofs.YtoefibkhlhmlfaaGreat
open Go.RowKit
structure OwnP (B : Nat) (w : World) (v : Value) (L : List Pl) : Prop where
  row : w.ownsRow B 61 7 v L.length (rowOf Pl.cells L)
  ins : ∀ p ∈ L, p.in w
  vec : ∀ p ∈ L, ∀ g off m, p.vo = some ⟨g, off, m⟩ → B ≤ g ∧ (p.x.k.c.length = 0 ∨ v.ownBlock ≠ some g)
  prs : ∀ p ∈ L, ∀ g off m, p.po = some ⟨g, off, m⟩ → B ≤ g ∧ (p.x.m.length = 0 ∨ v.ownBlock ≠ some g)
theorem ens_keepE {R : Nat → Prop} {w w' : World} {ao : Option Addr} {l : List En} (h : EnsAt w ao l) (K : Keep R w w') (hn : ∀ g off m, ao = some ⟨g, off, m⟩ → l.length = 0 ∨ ¬ R g) : EnsAt w' ao l := by
  by_cases h0 : l.length = 0
  · exact fun i hi => by omega
  · exact h.keep K (fun g off m e => (hn g off m e).resolve_left h0)
theorem prs_keepE {R : Nat → Prop} {w w' : World} {ao : Option Addr} {l : List Pr} (h : PrsAt w ao l) (K : Keep R w w') (hn : ∀ g off m, ao = some ⟨g, off, m⟩ → l.length = 0 ∨ ¬ R g) : PrsAt w' ao l := by
  by_cases h0 : l.length = 0
  · exact fun i hi => by omega
  · exact h.keep K (fun g off m e => (hn g off m e).resolve_left h0)
theorem ens_lt {w : World} {ao : Option Addr} {l : List En} (h : EnsAt w ao l) : ∀ g off m, ao = some ⟨g, off, m⟩ → l.length = 0 ∨ g < w.heap.size := by
  intro g off m e
  by_cases h0 : l.length = 0
  · exact .inl h0
  · obtain ⟨b, o, e', h1, _⟩ := h 0 (by omega)
    rw [e] at e'
    cases e'
    exact .inr (World.block_lt_of_cell? w _ h1)
theorem prs_lt {w : World} {ao : Option Addr} {l : List Pr} (h : PrsAt w ao l) : ∀ g off m, ao = some ⟨g, off, m⟩ → l.length = 0 ∨ g < w.heap.size := by
  intro g off m e
  by_cases h0 : l.length = 0
  · exact .inl h0
  · obtain ⟨b, o, e', h1, _⟩ := h 0 (by omega)
    rw [e] at e'
    cases e'
    exact .inr (World.block_lt_of_cell? w _ h1)
theorem OwnP.nil (B : Nat) (w : World) : OwnP B w (.slice none 0 0) [] := ⟨⟨by show 0 = 0 * 7; rfl, .inl ⟨rfl, rfl⟩⟩, (fun _ h => by cases h), (fun _ h => by cases h), (fun _ h => by cases h)⟩
theorem OwnP.keep {R : Nat → Prop} {B : Nat} {w w' : World} {v : Value} {L : List Pl} (h : OwnP B w v L) (K : Keep R w w') (hn : ∀ g, B ≤ g → ¬ R g) : OwnP B w' v L :=
  ⟨rowE_keep h.row K hn, fun p hp => ⟨(h.ins p hp).ens.keep K (fun g off m e => hn g (h.vec p hp g off m e).1), (h.ins p hp).prs.keep K (fun g off m e => hn g (h.prs p hp g off m e).1), (h.ins p hp).room⟩, h.vec, h.prs⟩
theorem OwnP.keep0 {B : Nat} {w w' : World} {v : Value} {L : List Pl} (h : OwnP B w v L) (K : Keep0 w w') : OwnP B w' v L := h.keep K (fun _ _ f => f)
theorem OwnP.newL {B : Nat} {w : World} {v : Value} {L : List Pl} (h : OwnP B w v L) : ∃ ao cap, v = .slice ao L.length cap ∧ NewL B w ao L ∧ L.length ≤ cap ∧ cap ≤ maxLen := by
  obtain ⟨ao, cap, e, h1, h2, h3, h4⟩ := row_of_own plT.len plT.pos h.row
  exact ⟨ao, cap, e, ⟨⟨h1, h.ins⟩, h2, fun p hp g off m e => (h.vec p hp g off m e).1, fun p hp g off m e => (h.prs p hp g off m e).1⟩, h3, h4⟩
theorem OwnP.lt {B : Nat} {w : World} {v : Value} {L : List Pl} (h : OwnP B w v L) : ∀ g, v.ownBlock = some g → B ≤ g ∧ g < w.heap.size := fun g e => h.row.lt g e
theorem OwnP.more {B : Nat} {w w' : World} {v v' : Value} {L : List Pl} {p : Pl} (h : OwnP B w v L) (hp : p.in w) (hv : ∀ g off m, p.vo = some ⟨g, off, m⟩ → B ≤ g ∧ (p.x.k.c.length = 0 ∨ v.ownBlock ≠ some g)) (hq : ∀ g off m, p.po = some ⟨g, off, m⟩ → B ≤ g ∧ (p.x.m.length = 0 ∨ v.ownBlock ≠ some g))
    (h1 : w'.ownsRow B 61 7 v' (L ++ [p]).length (rowOf Pl.cells (L ++ [p]))) (h2 : w.grownBy w' v.ownBlock) (h3 : v'.ownBlock = v.ownBlock ∨ v'.ownBlock = some w.heap.size) : OwnP B w' v' (L ++ [p]) := by
  have K := keep_grown h2
  have all : ∀ q ∈ L ++ [p], q.in w ∧ (∀ g off m, q.vo = some ⟨g, off, m⟩ → B ≤ g ∧ (q.x.k.c.length = 0 ∨ v.ownBlock ≠ some g)) ∧ (∀ g off m, q.po = some ⟨g, off, m⟩ → B ≤ g ∧ (q.x.m.length = 0 ∨ v.ownBlock ≠ some g)) := by
    intro q hq'
    rcases List.mem_append.1 hq' with hq' | hq'
    · exact ⟨h.ins q hq', h.vec q hq', h.prs q hq'⟩
    · rw [List.mem_singleton.1 hq']; exact ⟨hp, hv, hq⟩
  refine ⟨h1, fun q hq' => ?_, fun q hq' g off m e => ?_, fun q hq' g off m e => ?_⟩
  · obtain ⟨a1, a2, a3⟩ := all q hq'
    exact ⟨ens_keepE a1.ens K (fun g off m e => (a2 g off m e).2), prs_keepE a1.prs K (fun g off m e => (a3 g off m e).2), a1.room⟩
  · obtain ⟨a1, a2, a3⟩ := all q hq'
    refine ⟨(a2 g off m e).1, ?_⟩
    rcases h3 with e3 | e3
    · rw [e3]; exact (a2 g off m e).2
    · rcases ens_lt a1.ens g off m e with z | z
      · exact .inl z
      · exact .inr (fun e4 => by rw [e3] at e4; cases e4; omega)
  · obtain ⟨a1, a2, a3⟩ := all q hq'
    refine ⟨(a3 g off m e).1, ?_⟩
    rcases h3 with e3 | e3
    · rw [e3]; exact (a3 g off m e).2
    · rcases prs_lt a1.prs g off m e with z | z
      · exact .inl z
      · exact .inr (fun e4 => by rw [e3] at e4; cases e4; omega)
end Go.Proofs.YtoefibkhlhmlfaaGreat
namespace Go.Proofs.YtoefibkhlhmlfaaGreat
open Go.RowKit
def pvk (l : List Sb) : Nat → Option ByteArray
  | 0 => none
  | k + 1 => (l[k]?).map kb
theorem pvk_zero (l : List Sb) : pvk l 0 = none := rfl
theorem pvk_succ {l : List Sb} {k : Nat} (h : k < l.length) : pvk l (k + 1) = some (kb l[k]) := by
  show (l[k]?).map kb = _
  rw [List.getElem?_eq_getElem h]
  rfl
theorem goS_drop {l : List Sb} {k : Nat} (hk : k < l.length) : oGo (pvk l k) (l.drop k) = if oOne (pvk l k) l[k] = 0 then oGo (pvk l (k + 1)) (l.drop (k + 1)) else oOne (pvk l k) l[k] := by
  rw [List.drop_eq_getElem_cons hk, oGo, pvk_succ hk]
  rfl
theorem oOne_bad {p : Option ByteArray} {x : Sb} (h : sCheck x ≠ 0) : oOne p x = sCheck x := if_neg h
theorem oOne_first {x : Sb} (h : sCheck x = 0) : oOne none x = 0 := oOne_zero.2 ⟨h, fTest_zero.2 (fun q e => by cases e)⟩
theorem oOne_up {q : ByteArray} {x : Sb} (h : sCheck x = 0) (h1 : bl q (kb x) = true) : oOne (some q) x = 0 := oOne_zero.2 ⟨h, fTest_zero.2 (fun q' e => by cases e; exact h1)⟩
theorem oOne_down {q : ByteArray} {x : Sb} (h : sCheck x = 0) (h1 : bl q (kb x) = false) : oOne (some q) x = 6 := by
  unfold oOne fTest
  rw [if_pos h, falls_some]
  have e : bl q (eClk x.k) = false := h1
  rw [e]
  rfl
theorem clock_ok {x : Sb} (f : FitsS x) (h : sCheck x = 0) : (encK x.k).1 = kb x ∧ (kb x).size ≤ maxLen := by
  obtain ⟨h1, _, _⟩ := sCheck_zero.1 h
  have e : encK x.k = (eClk x.k, 0) := if_pos h1
  have hs := eClk_size (k := x.k) ⟨h1, f.u.1, f.u.2⟩
  exact ⟨by rw [e]; rfl, by show (eClk x.k).size ≤ maxLen; unfold maxLen; omega⟩
end Go.Proofs.YtoefibkhlhmlfaaGreat
namespace Go.Proofs.YtoefibkhlhmlfaaGreat
open Go.RowKit
structure Ok15 (x : Sb) : Prop where
  len : x.k.c.length ≤ 10000
  mlen : x.m.length ≤ 10000
  fit : FitsS x
  vec : ∀ y ∈ x.k.c, y.a.size ≤ 1000000
  dot : x.k.x.a.size ≤ 1000000
  prs : ∀ y ∈ x.m, y.n.size ≤ 1000000 ∧ y.v.size ≤ 1000000
  val : x.v.size ≤ 1000000
theorem Ok15.u64 {x : Sb} (h : Ok15 x) : (∀ y ∈ x.k.c, U64 y.n) ∧ U64 x.k.x.n := ⟨fun y hy => (h.fit.clk.vec.2 y hy).2, h.fit.clk.num⟩
theorem okSib.ok {x : Sb} (h : okSib x) : Ok15 x := by
  have hR := (right_iff _).1 h.1.1
  have h1 := (check_zero _).1 hR.vec
  obtain ⟨h2, h3⟩ := (qCheck_zero _).1 h.2.1
  refine ⟨by omega, by omega, ⟨⟨⟨by unfold maxLen; omega, fun y hy => ⟨by have := (hR.good.1 y hy).2.1; unfold maxLen; omega, h.1.2.1 y hy⟩⟩, ?_, h.1.2.2⟩, ⟨by unfold maxLen; omega, fun y hy => by have := h3.1 y hy; unfold Pr.ok at this; unfold maxLen; omega⟩, by have := h.2.2; unfold maxLen; omega⟩, fun y hy => by have := (hR.good.1 y hy).2.1; omega, ?_, fun y hy => by have := h3.1 y hy; unfold Pr.ok at this; omega, by have := h.2.2; omega⟩
  · cases hd : x.k.d with
    | true => have := (hR.dot hd).1.2.1; unfold maxLen; omega
    | false => have := (hR.plain hd).1; omega
  · cases hd : x.k.d with
    | true => have := (hR.dot hd).1.2.1; omega
    | false => have := (hR.plain hd).1; omega
theorem zSb_ok : Ok15 zSb := ⟨by show 0 ≤ 10000; omega, by show 0 ≤ 10000; omega, ⟨⟨⟨by show 0 ≤ maxLen; omega, fun x hx => by cases hx⟩, by show 0 ≤ maxLen; omega, by show 0 < 18446744073709551616; omega⟩, ⟨by show 0 ≤ maxLen; omega, fun x hx => by cases hx⟩, by show 0 ≤ maxLen; omega⟩, (fun _ h => by cases h), by show 0 ≤ 1000000; omega, (fun _ h => by cases h), by show 0 ≤ 1000000; omega⟩
def SibsBy (w : World) (b r : Nat) (ao : Option Addr) (l : List Sb) : Prop := ∀ i (_ : i < l.length), ∃ bb off vo vc po pc, ao = some ⟨bb, off, none⟩ ∧ ¬ two b r bb ∧ SibAt w bb (off + i * 7) l[i] vo vc po pc ∧ SibIn w vo po pc l[i] ∧ (0 < l[i].k.c.length → ApartE (two b r) vo) ∧ (0 < l[i].m.length → ApartE (two b r) po)
theorem SibsBy.old {w0 w : World} {b r : Nat} {ao : Option Addr} {l : List Sb} (h : SibsAt w0 ao l) (k : Keep0 w0 w) (hb : w0.heap.size ≤ b) (hr : w0.heap.size ≤ r) : SibsBy w b r ao l := by
  intro i hi
  obtain ⟨bb, off, vo, vc, po, pc, e, h1, h2⟩ := h i hi
  have hbB := World.block_lt_of_cell? w0 _ h1.c0
  simp only at hbB
  refine ⟨bb, off, vo, vc, po, pc, e, by unfold two; omega, h1.keep0 k, h2.keep0 k, fun hl g o m e' hh => ?_, fun hl g o m e' hh => ?_⟩
  · have := ens_old h2.ens hl g o m e'
    unfold two at hh
    omega
  · have := prs_old h2.prs hl g o m e'
    unfold two at hh
    omega
def RCopy (x : Sb) (w : World) (e : Ending) (w' : World) : Prop := ∃ vo vc po pc, e = .returned (.agg #[.slice vo x.k.c.length vc, .bool x.k.d, .string x.k.x.a, .int .u64 (x.k.x.n : Int), .slice po x.m.length pc, .bool x.d, .string x.v]) ∧ w'.ownsRow w.heap.size 53 2 (.slice vo x.k.c.length vc) x.k.c.length (enCells x.k.c) ∧ w'.ownsRow w.heap.size 135 2 (.slice po x.m.length pc) x.m.length (prCells x.m) ∧ Keep0 w w'
end Go.Proofs.YtoefibkhlhmlfaaGreat
namespace Go.Proofs.YtoefibkhlhmlfaaGreat
open Go.RowKit
theorem enc_pen13 {k : Ck} {M : Int} (hM : 65536 ≤ M) (hn : ∀ x ∈ k.c, U64 x.n) (hx : U64 k.x.n) : (pEnd (pClk M (⟨#[]⟩, 0) k).1 (pClk M (⟨#[]⟩, 0) k).2, (pClk M (⟨#[]⟩, 0) k).2) = encK k := by
  rw [← encK_pen hn hx]
  by_cases h0 : kCheck k = 0
  · have hs := eClk_size ⟨h0, hn, hx⟩
    rw [pClk_fit ⟨h0, hn, hx⟩ (by show ((0 : Nat) : Int) + _ ≤ _; omega), pClk_fit ⟨h0, hn, hx⟩ (by show ((0 : Nat) : Int) + _ ≤ _; omega)]
  · rw [pClk_no h0, pClk_no h0]
set_option maxRecDepth 100000 in
set_option maxHeartbeats 4000000 in
theorem encode13 (w : World) (ao : Option Addr) (cap : Nat) (k : Ck) (ok : Ok13 k) (hc : EnsAt w ao k.c) :
    Calls Tryz.prog 140 #[.agg #[.slice ao k.c.length cap, .bool k.d, .string k.x.a, .int .u64 (k.x.n : Int)]] w fun e w' => e = .returned (.tuple #[.string (encK k).1, .int .i64 (encK k).2]) ∧ Keep0 w w' := by
  have he := enc_pen13 (M := 9223372036854775807) (by decide) (fun x hx => (ok.fit.vec.2 x hx).2) ok.fit.num
  have k0 : Keep0 w (w.alloc (.cells #[.slice ao k.c.length cap, .bool k.d, .string k.x.a, .int .u64 (k.x.n : Int)] 58)) := (Keep.refl _ w).alloc _
  have q0 := QAt.new w 58 (.slice ao k.c.length cap) (.bool k.d) (.string k.x.a) (.int .u64 (k.x.n : Int))
  have z0 : (w.alloc (.cells #[.slice ao k.c.length cap, .bool k.d, .string k.x.a, .int .u64 (k.x.n : Int)] 58)).heap.size = w.heap.size + 1 := by rw [World.size_alloc]
  have yn := pnew_any (w.alloc (.cells #[.slice ao k.c.length cap, .bool k.d, .string k.x.a, .int .u64 (k.x.n : Int)] 58)) 9223372036854775807 (by decide)
  have hpm : pMax 9223372036854775807 = 9223372036854775807 := rfl
  rw [hpm, z0] at yn
  have hB : ∀ W, Pen W (w.heap.size + 1) (w.heap.size + 1) ⟨#[]⟩ 9223372036854775807 0 → Keep0 w W → Calls Tryz.prog 146 #[pptr (w.heap.size + 1), .slice (some ⟨W.heap.size, 0, none⟩) 1 1] (W.alloc (.cells #[.slice ao k.c.length cap, .bool k.d, .string k.x.a, .int .u64 (k.x.n : Int)] 58)) fun e w' => e = .returned (.tuple #[]) ∧ ∃ r', Pen w' (w.heap.size + 1) r' (pClk 9223372036854775807 (⟨#[]⟩, 0) k).1 9223372036854775807 (pClk 9223372036854775807 (⟨#[]⟩, 0) k).2 ∧ Keep0 w w' := by
    intro W hP hK
    have kA : Keep0 W (W.alloc (.cells #[.slice ao k.c.length cap, .bool k.d, .string k.x.a, .int .u64 (k.x.n : Int)] 58)) := (Keep.refl _ W).alloc _
    have hlt := hP.lt
    refine (put13g (some ⟨W.heap.size, 0, none⟩) 1 [k] (hP.keep0 kA) (by decide) (by show 1 ≤ 100; decide) (fun y hy => by rw [List.mem_singleton.1 hy]; exact ok) ?_).mono ?_
    · intro i hi
      obtain rfl : i = 0 := by simpa using hi
      refine ⟨W.heap.size, 0, ao, cap, rfl, by unfold two; omega, clk_new W _ k ao cap, hc.keep0 (hK.trans kA), fun hl g off m e hh => ?_⟩
      have := ens_old hc hl g off m e
      unfold two at hh
      omega
    · rintro e w' ⟨rfl, r', hp, k, _⟩
      exact ⟨rfl, r', hp, (hK.trans kA).step k (fun i hi hh => by omega)⟩
  have e1 : (encK k).1 = pEnd (pClk 9223372036854775807 (⟨#[]⟩, 0) k).1 (pClk 9223372036854775807 (⟨#[]⟩, 0) k).2 := by rw [← he]
  have e2 : (encK k).2 = (pClk 9223372036854775807 (⟨#[]⟩, 0) k).2 := by rw [← he]
  rw [e1, e2]
  have HB : Hid (∀ W, Pen W (w.heap.size + 1) (w.heap.size + 1) ⟨#[]⟩ 9223372036854775807 0 → Keep0 w W → Calls Tryz.prog 146 #[pptr (w.heap.size + 1), .slice (some ⟨W.heap.size, 0, none⟩) 1 1] (W.alloc (.cells #[.slice ao k.c.length cap, .bool k.d, .string k.x.a, .int .u64 (k.x.n : Int)] 58)) fun e w' => e = .returned (.tuple #[]) ∧ ∃ r', Pen w' (w.heap.size + 1) r' (pClk 9223372036854775807 (⟨#[]⟩, 0) k).1 9223372036854775807 (pClk 9223372036854775807 (⟨#[]⟩, 0) k).2 ∧ Keep0 w w') := hB
  generalize pClk 9223372036854775807 (⟨#[]⟩, 0) k = P at *
  have ye := fun W r' (h : Pen W (w.heap.size + 1) r' P.1 9223372036854775807 P.2) => pend_any h
  generalize pEnd P.1 P.2 = PE at *
  clear he e1 e2 hpm hB hc ok
  go_enter Tryz.func140, Tryz.ntmps140
  go_wp2_with fail
  generalize (w.alloc (.cells #[.slice ao k.c.length cap, .bool k.d, .string k.x.a, .int .u64 (k.x.n : Int)] 58)) = W0 at *
  obtain ⟨g, hg⟩ : ∃ g, w.heap.size = g := ⟨_, rfl⟩
  rw [hg] at q0 z0 yn ye HB ⊢
  refine yn.mono ?_
  rintro e w1 ⟨rfl, h1, k1⟩
  have K1 := k0.trans k1
  have yp := HB.out w1 h1 K1
  obtain ⟨x0, x1, x2, x3, f0, f1, f2, f3⟩ := (q0.keep0 k1).cells
  clear yn HB k0 k1 q0
  go_wp2_with fail
  refine yp.mono ?_
  rintro e w2 ⟨rfl, r2, h2, K2⟩
  have ye := ye _ _ h2
  clear yp K1 h1 x0 x1 x2 x3 f0 f1 f2 f3
  go_wp2_with fail
  refine ye.mono ?_
  rintro e w3 ⟨rfl, rfl⟩
  clear ye
  go_wp2
  go_ret2
  exact ⟨rfl, K2⟩
theorem encK_fine13 {k : Ck} (h : kCheck k = 0) : encK k = (eClk k, 0) := if_pos h
theorem encK_bad13 {k : Ck} (h : kCheck k ≠ 0) : (encK k).2 = kCheck k := by unfold encK; rw [if_neg h]
theorem kBelow_yes {a b : Ck} (h : kCheck a = 0) (h1 : kCheck b = 0) : kBelow a b = (bl (eClk a) (eClk b), 0) := if_pos ⟨h, h1⟩
theorem kBelow_no {a b : Ck} (h : ¬ (kCheck a = 0 ∧ kCheck b = 0)) : kBelow a b = (false, 1) := if_neg h
set_option maxRecDepth 100000 in
set_option maxHeartbeats 4000000 in
theorem below13 (w : World) (ao bo : Option Addr) (ca cb : Nat) (a b : Ck) (oa : Ok13 a) (ob : Ok13 b) (ha : EnsAt w ao a.c) (hb : EnsAt w bo b.c) :
    Calls Tryz.prog 100 #[.agg #[.slice ao a.c.length ca, .bool a.d, .string a.x.a, .int .u64 (a.x.n : Int)], .agg #[.slice bo b.c.length cb, .bool b.d, .string b.x.a, .int .u64 (b.x.n : Int)]] w fun e w' => e = .returned (.tuple #[.bool (kBelow a b).1, .int .i64 (kBelow a b).2]) ∧ Keep0 w w' := by
  have kA : Keep0 w ((w.alloc (.cells #[.slice ao a.c.length ca, .bool a.d, .string a.x.a, .int .u64 (a.x.n : Int)] 58)).alloc (.cells #[.slice bo b.c.length cb, .bool b.d, .string b.x.a, .int .u64 (b.x.n : Int)] 58)) := ((Keep.refl _ w).alloc _).alloc _
  have qa : QAt ((w.alloc (.cells #[.slice ao a.c.length ca, .bool a.d, .string a.x.a, .int .u64 (a.x.n : Int)] 58)).alloc (.cells #[.slice bo b.c.length cb, .bool b.d, .string b.x.a, .int .u64 (b.x.n : Int)] 58)) w.heap.size (.slice ao a.c.length ca) (.bool a.d) (.string a.x.a) (.int .u64 (a.x.n : Int)) := (QAt.new w 58 _ _ _ _).keep0 ((Keep.refl _ _).alloc _)
  have qb : QAt ((w.alloc (.cells #[.slice ao a.c.length ca, .bool a.d, .string a.x.a, .int .u64 (a.x.n : Int)] 58)).alloc (.cells #[.slice bo b.c.length cb, .bool b.d, .string b.x.a, .int .u64 (b.x.n : Int)] 58)) (w.heap.size + 1) (.slice bo b.c.length cb) (.bool b.d) (.string b.x.a) (.int .u64 (b.x.n : Int)) := by
    have := QAt.new (w.alloc (.cells #[.slice ao a.c.length ca, .bool a.d, .string a.x.a, .int .u64 (a.x.n : Int)] 58)) 58 (.slice bo b.c.length cb) (.bool b.d) (.string b.x.a) (.int .u64 (b.x.n : Int))
    rw [World.size_alloc] at this
    exact this
  have ya := encode13 ((w.alloc (.cells #[.slice ao a.c.length ca, .bool a.d, .string a.x.a, .int .u64 (a.x.n : Int)] 58)).alloc (.cells #[.slice bo b.c.length cb, .bool b.d, .string b.x.a, .int .u64 (b.x.n : Int)] 58)) ao ca a oa (ha.keep0 kA)
  have yb := fun W (K : Keep0 w W) => encode13 W bo cb b ob (hb.keep0 K)
  obtain ⟨xa0, xa1, xa2, xa3, fa0, fa1, fa2, fa3⟩ := qa.cells
  obtain ⟨xb0, xb1, xb2, xb3, fb0, fb1, fb2, fb3⟩ := qb.cells
  by_cases h1 : kCheck a = 0
  case neg =>
    rw [kBelow_no (fun h => h1 h.1)]
    have e2 := encK_bad13 h1
    have e3 : ((encK a).2 != 0) = true := by rw [e2]; simpa using h1
    clear e2 h1 oa ob ha hb
    generalize (encK a).2 = EA at *
    generalize (encK a).1 = TA at *
    generalize (encK b).2 = EB at *
    generalize (encK b).1 = TB at *
    go_enter Tryz.func100, Tryz.ntmps100
    go_wp2_with fail
    generalize ((w.alloc (.cells #[.slice ao a.c.length ca, .bool a.d, .string a.x.a, .int .u64 (a.x.n : Int)] 58)).alloc (.cells #[.slice bo b.c.length cb, .bool b.d, .string b.x.a, .int .u64 (b.x.n : Int)] 58)) = W0 at *
    generalize w.heap.size = g at *
    refine ya.mono ?_
    rintro e w1 ⟨rfl, k1⟩
    have K1 := kA.trans k1
    have yb := yb _ K1
    replace qb := qb.keep0 k1
    clear ya kA k1 qa xa0 xa1 xa2 xa3 fa0 fa1 fa2 fa3 xb0 xb1 xb2 xb3 fb0 fb1 fb2 fb3
    obtain ⟨xb0, xb1, xb2, xb3, fb0, fb1, fb2, fb3⟩ := qb.cells
    go_wp2_with fail
    refine yb.mono ?_
    rintro e w2 ⟨rfl, k2⟩
    have K2 := K1.trans k2
    clear yb k2 K1 qb xb0 xb1 xb2 xb3 fb0 fb1 fb2 fb3
    go_wp2
    go_ret2
    exact ⟨rfl, K2⟩
  by_cases h2 : kCheck b = 0
  case neg =>
    rw [kBelow_no (fun h => h2 h.2)]
    have e2 := encK_bad13 h2
    have e3 : ((encK b).2 != 0) = true := by rw [e2]; simpa using h2
    rw [encK_fine13 h1] at ya
    clear e2 h1 h2 oa ob ha hb
    generalize (encK b).2 = EB at *
    generalize (encK b).1 = TB at *
    generalize eClk a = TA at *
    go_enter Tryz.func100, Tryz.ntmps100
    go_wp2_with fail
    generalize ((w.alloc (.cells #[.slice ao a.c.length ca, .bool a.d, .string a.x.a, .int .u64 (a.x.n : Int)] 58)).alloc (.cells #[.slice bo b.c.length cb, .bool b.d, .string b.x.a, .int .u64 (b.x.n : Int)] 58)) = W0 at *
    generalize w.heap.size = g at *
    refine ya.mono ?_
    rintro e w1 ⟨rfl, k1⟩
    have K1 := kA.trans k1
    have yb := yb _ K1
    replace qb := qb.keep0 k1
    clear ya kA k1 qa xa0 xa1 xa2 xa3 fa0 fa1 fa2 fa3 xb0 xb1 xb2 xb3 fb0 fb1 fb2 fb3
    obtain ⟨xb0, xb1, xb2, xb3, fb0, fb1, fb2, fb3⟩ := qb.cells
    go_wp2_with fail
    refine yb.mono ?_
    rintro e w2 ⟨rfl, k2⟩
    have K2 := K1.trans k2
    clear yb k2 K1 qb xb0 xb1 xb2 xb3 fb0 fb1 fb2 fb3
    go_wp2
    go_ret2
    exact ⟨rfl, K2⟩
  rw [kBelow_yes h1 h2]
  rw [encK_fine13 h1] at ya
  rw [encK_fine13 h2] at yb
  clear h1 h2 oa ob ha hb
  generalize eClk a = TA at *
  generalize eClk b = TB at *
  have yr := fun (W : World) => rising6_any _ _ 2 [TA, TB] (by show 2 ≤ maxLen; unfold maxLen; omega) (texts_two10 W 9 TA TB)
  have el : [TA, TB].length = 2 := rfl
  rw [el] at yr
  cases hB : bl TA TB with
  | true =>
    rw [rise_yes hB] at yr
    clear el hB
    go_enter Tryz.func100, Tryz.ntmps100
    go_wp2_with fail
    generalize ((w.alloc (.cells #[.slice ao a.c.length ca, .bool a.d, .string a.x.a, .int .u64 (a.x.n : Int)] 58)).alloc (.cells #[.slice bo b.c.length cb, .bool b.d, .string b.x.a, .int .u64 (b.x.n : Int)] 58)) = W0 at *
    generalize w.heap.size = g at *
    refine ya.mono ?_
    rintro e w1 ⟨rfl, k1⟩
    have K1 := kA.trans k1
    have yb := yb _ K1
    replace qb := qb.keep0 k1
    clear ya kA k1 qa xa0 xa1 xa2 xa3 fa0 fa1 fa2 fa3 xb0 xb1 xb2 xb3 fb0 fb1 fb2 fb3
    obtain ⟨xb0, xb1, xb2, xb3, fb0, fb1, fb2, fb3⟩ := qb.cells
    go_wp2_with fail
    refine yb.mono ?_
    rintro e w2 ⟨rfl, k2⟩
    have K2 := K1.trans k2
    clear yb k2 K1 qb xb0 xb1 xb2 xb3 fb0 fb1 fb2 fb3
    have yr := yr w2
    have kR : Keep0 w2 (w2.alloc (.cells #[.string TA, .string TB] 9)) := (Keep.refl _ w2).alloc _
    have K3 := K2.trans kR
    clear kR
    go_wp2_with fail
    refine yr.mono ?_
    rintro e w3 ⟨rfl, k3⟩
    have K4 := K3.trans (keepN k3)
    clear yr k3 K3 K2
    go_wp2
    go_ret2
    exact ⟨rfl, K4⟩
  | false =>
    rw [rise_no hB] at yr
    clear el hB
    go_enter Tryz.func100, Tryz.ntmps100
    go_wp2_with fail
    generalize ((w.alloc (.cells #[.slice ao a.c.length ca, .bool a.d, .string a.x.a, .int .u64 (a.x.n : Int)] 58)).alloc (.cells #[.slice bo b.c.length cb, .bool b.d, .string b.x.a, .int .u64 (b.x.n : Int)] 58)) = W0 at *
    generalize w.heap.size = g at *
    refine ya.mono ?_
    rintro e w1 ⟨rfl, k1⟩
    have K1 := kA.trans k1
    have yb := yb _ K1
    replace qb := qb.keep0 k1
    clear ya kA k1 qa xa0 xa1 xa2 xa3 fa0 fa1 fa2 fa3 xb0 xb1 xb2 xb3 fb0 fb1 fb2 fb3
    obtain ⟨xb0, xb1, xb2, xb3, fb0, fb1, fb2, fb3⟩ := qb.cells
    go_wp2_with fail
    refine yb.mono ?_
    rintro e w2 ⟨rfl, k2⟩
    have K2 := K1.trans k2
    clear yb k2 K1 qb xb0 xb1 xb2 xb3 fb0 fb1 fb2 fb3
    have yr := yr w2
    have kR : Keep0 w2 (w2.alloc (.cells #[.string TA, .string TB] 9)) := (Keep.refl _ w2).alloc _
    have K3 := K2.trans kR
    clear kR
    go_wp2_with fail
    refine yr.mono ?_
    rintro e w3 ⟨rfl, k3⟩
    have K4 := K3.trans (keepN k3)
    clear yr k3 K3 K2
    go_wp2
    go_ret2
    exact ⟨rfl, K4⟩
end Go.Proofs.YtoefibkhlhmlfaaGreat
