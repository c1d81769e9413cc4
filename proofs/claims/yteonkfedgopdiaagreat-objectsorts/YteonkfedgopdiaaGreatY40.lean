/-
  What this seat's claims lean on of the texts OwnPl, Law15.
  Conditions: as each theorem states.
-/
import Derived.WalkKit
import Derived.ProofKit
import Derived.Below
import Derived.Deep.Draws
import Derived.Deep.RegionHeld
import Derived.Test.YteonkfedgopdiaaGreatChecked
import Derived.OpenShut
import Derived.ShutString
import Derived.WalkSpells
import Derived.WalkLawsBesides
import Derived.Deep.QuietTactic
import Derived.BigQuiet
import Derived.Laws.Bits64b
import Derived.PlainAid
import Derived.Lib.AppendStr
import Derived.Deep.AppendLies
import Derived.Laws.IdiomStrings
import Derived.Laws.BytesArg
import Derived.Deep.RegionWith
import Derived.Laws.AppendOwn
import Derived.Deep.DeepAppendWide
import Derived.Deep.Upon
import Derived.Maps.AppendAt
import Derived.Laws.Rows
import Derived.Deep.Slices
import Derived.Test.YteonkfedgopdiaaGreatY37
import Derived.Test.YteonkfedgopdiaaGreatY34
import Derived.Test.YteonkfedgopdiaaGreatY32
import Derived.Test.YteonkfedgopdiaaGreatY3
namespace Go.Proofs.YteonkfedgopdiaaGreat
open Go.RowKit
structure OwnP (B : Nat) (w : World) (v : Value) (L : List Pl) : Prop where
  row : w.ownsRow B 44 7 v L.length (rowOf Pl.cells L)
  ins : ∀ p ∈ L, p.in w
  vec : ∀ p ∈ L, ∀ g off m, p.vo = some ⟨g, off, m⟩ → B ≤ g ∧ (p.x.k.c.length = 0 ∨ v.ownBlock ≠ some g)
  prs : ∀ p ∈ L, ∀ g off m, p.po = some ⟨g, off, m⟩ → B ≤ g ∧ (p.x.m.length = 0 ∨ v.ownBlock ≠ some g)
theorem ens_keepE {R : Nat → Prop} {w w' : World} {ao : Option Addr} {l : List En} (h : EnsAt w ao l) (K : Keep R w w') (hn : ∀ g off m, ao = some ⟨g, off, m⟩ → l.length = 0 ∨ ¬ R g) : EnsAt w' ao l := by
  by_cases h0 : l.length = 0
  · exact fun i hi => by omega
  · exact h.keep K (fun g off m e => (hn g off m e).resolve_left h0)
theorem prs_keepE {R : Nat → Prop} {w w' : World} {ao : Option Addr} {l : List Pr} (h : PrsAt w ao l) (K : Keep R w w') (hn : ∀ g off m, ao = some ⟨g, off, m⟩ → l.length = 0 ∨ ¬ R g) : PrsAt w' ao l := by
  by_cases h0 : l.length = 0
  · exact fun i hi => by omega
  · exact h.keep K (fun g off m e => (hn g off m e).resolve_left h0)
theorem ens_lt {w : World} {ao : Option Addr} {l : List En} (h : EnsAt w ao l) : ∀ g off m, ao = some ⟨g, off, m⟩ → l.length = 0 ∨ g < w.heap.size := by
  intro g off m e
  by_cases h0 : l.length = 0
  · exact .inl h0
  · obtain ⟨b, o, e', h1, _⟩ := h 0 (by omega)
    rw [e] at e'
    cases e'
    exact .inr (World.block_lt_of_cell? w _ h1)
theorem prs_lt {w : World} {ao : Option Addr} {l : List Pr} (h : PrsAt w ao l) : ∀ g off m, ao = some ⟨g, off, m⟩ → l.length = 0 ∨ g < w.heap.size := by
  intro g off m e
  by_cases h0 : l.length = 0
  · exact .inl h0
  · obtain ⟨b, o, e', h1, _⟩ := h 0 (by omega)
    rw [e] at e'
    cases e'
    exact .inr (World.block_lt_of_cell? w _ h1)
theorem OwnP.nil (B : Nat) (w : World) : OwnP B w (.slice none 0 0) [] := ⟨⟨by show 0 = 0 * 7; rfl, .inl ⟨rfl, rfl⟩⟩, (fun _ h => by cases h), (fun _ h => by cases h), (fun _ h => by cases h)⟩
theorem OwnP.keep {R : Nat → Prop} {B : Nat} {w w' : World} {v : Value} {L : List Pl} (h : OwnP B w v L) (K : Keep R w w') (hn : ∀ g, B ≤ g → ¬ R g) : OwnP B w' v L :=
  ⟨rowE_keep h.row K hn, fun p hp => ⟨(h.ins p hp).ens.keep K (fun g off m e => hn g (h.vec p hp g off m e).1), (h.ins p hp).prs.keep K (fun g off m e => hn g (h.prs p hp g off m e).1), (h.ins p hp).room⟩, h.vec, h.prs⟩
theorem OwnP.keep0 {B : Nat} {w w' : World} {v : Value} {L : List Pl} (h : OwnP B w v L) (K : Keep0 w w') : OwnP B w' v L := h.keep K (fun _ _ f => f)
theorem OwnP.newL {B : Nat} {w : World} {v : Value} {L : List Pl} (h : OwnP B w v L) : ∃ ao cap, v = .slice ao L.length cap ∧ NewL B w ao L ∧ L.length ≤ cap ∧ cap ≤ maxLen := by
  obtain ⟨ao, cap, e, h1, h2, h3, h4⟩ := row_of_own plT.len plT.pos h.row
  exact ⟨ao, cap, e, ⟨⟨h1, h.ins⟩, h2, fun p hp g off m e => (h.vec p hp g off m e).1, fun p hp g off m e => (h.prs p hp g off m e).1⟩, h3, h4⟩
theorem OwnP.lt {B : Nat} {w : World} {v : Value} {L : List Pl} (h : OwnP B w v L) : ∀ g, v.ownBlock = some g → B ≤ g ∧ g < w.heap.size := fun g e => h.row.lt g e
theorem OwnP.more {B : Nat} {w w' : World} {v v' : Value} {L : List Pl} {p : Pl} (h : OwnP B w v L) (hp : p.in w) (hv : ∀ g off m, p.vo = some ⟨g, off, m⟩ → B ≤ g ∧ (p.x.k.c.length = 0 ∨ v.ownBlock ≠ some g)) (hq : ∀ g off m, p.po = some ⟨g, off, m⟩ → B ≤ g ∧ (p.x.m.length = 0 ∨ v.ownBlock ≠ some g))
    (h1 : w'.ownsRow B 44 7 v' (L ++ [p]).length (rowOf Pl.cells (L ++ [p]))) (h2 : w.grownBy w' v.ownBlock) (h3 : v'.ownBlock = v.ownBlock ∨ v'.ownBlock = some w.heap.size) : OwnP B w' v' (L ++ [p]) := by
  have K := keep_grown h2
  have all : ∀ q ∈ L ++ [p], q.in w ∧ (∀ g off m, q.vo = some ⟨g, off, m⟩ → B ≤ g ∧ (q.x.k.c.length = 0 ∨ v.ownBlock ≠ some g)) ∧ (∀ g off m, q.po = some ⟨g, off, m⟩ → B ≤ g ∧ (q.x.m.length = 0 ∨ v.ownBlock ≠ some g)) := by
    intro q hq'
    rcases List.mem_append.1 hq' with hq' | hq'
    · exact ⟨h.ins q hq', h.vec q hq', h.prs q hq'⟩
    · rw [List.mem_singleton.1 hq']; exact ⟨hp, hv, hq⟩
  refine ⟨h1, fun q hq' => ?_, fun q hq' g off m e => ?_, fun q hq' g off m e => ?_⟩
  · obtain ⟨a1, a2, a3⟩ := all q hq'
    exact ⟨ens_keepE a1.ens K (fun g off m e => (a2 g off m e).2), prs_keepE a1.prs K (fun g off m e => (a3 g off m e).2), a1.room⟩
  · obtain ⟨a1, a2, a3⟩ := all q hq'
    refine ⟨(a2 g off m e).1, ?_⟩
    rcases h3 with e3 | e3
    · rw [e3]; exact (a2 g off m e).2
    · rcases ens_lt a1.ens g off m e with z | z
      · exact .inl z
      · exact .inr (fun e4 => by rw [e3] at e4; cases e4; omega)
  · obtain ⟨a1, a2, a3⟩ := all q hq'
    refine ⟨(a3 g off m e).1, ?_⟩
    rcases h3 with e3 | e3
    · rw [e3]; exact (a3 g off m e).2
    · rcases prs_lt a1.prs g off m e with z | z
      · exact .inl z
      · exact .inr (fun e4 => by rw [e3] at e4; cases e4; omega)
end Go.Proofs.YteonkfedgopdiaaGreat
namespace Go.Proofs.YteonkfedgopdiaaGreat
open Go.RowKit
structure Ok15 (x : Sb) : Prop where
  len : x.k.c.length ≤ 10000
  mlen : x.m.length ≤ 10000
  fit : FitsS x
  vec : ∀ y ∈ x.k.c, y.a.size ≤ 1000000
  dot : x.k.x.a.size ≤ 1000000
  prs : ∀ y ∈ x.m, y.n.size ≤ 1000000 ∧ y.v.size ≤ 1000000
  val : x.v.size ≤ 1000000
theorem Ok15.u64 {x : Sb} (h : Ok15 x) : (∀ y ∈ x.k.c, U64 y.n) ∧ U64 x.k.x.n := ⟨fun y hy => (h.fit.clk.vec.2 y hy).2, h.fit.clk.num⟩
theorem okSib.ok {x : Sb} (h : okSib x) : Ok15 x := by
  have hR := (right_iff _).1 h.1.1
  have h1 := (check_zero _).1 hR.vec
  obtain ⟨h2, h3⟩ := (qCheck_zero _).1 h.2.1
  refine ⟨by omega, by omega, ⟨⟨⟨by unfold maxLen; omega, fun y hy => ⟨by have := (hR.good.1 y hy).2.1; unfold maxLen; omega, h.1.2.1 y hy⟩⟩, ?_, h.1.2.2⟩, ⟨by unfold maxLen; omega, fun y hy => by have := h3.1 y hy; unfold Pr.ok at this; unfold maxLen; omega⟩, by have := h.2.2; unfold maxLen; omega⟩, fun y hy => by have := (hR.good.1 y hy).2.1; omega, ?_, fun y hy => by have := h3.1 y hy; unfold Pr.ok at this; omega, by have := h.2.2; omega⟩
  · cases hd : x.k.d with
    | true => have := (hR.dot hd).1.2.1; unfold maxLen; omega
    | false => have := (hR.plain hd).1; omega
  · cases hd : x.k.d with
    | true => have := (hR.dot hd).1.2.1; omega
    | false => have := (hR.plain hd).1; omega
theorem sGreat_ok {x : Sb} (f : FitsS x) (h : sGreat x = false) : Ok15 x := by
  obtain ⟨q1, q2, q3⟩ := sGreat_no h
  unfold kGreat at q1
  rw [Bool.or_eq_false_iff] at q1
  have q4 := of_decide_eq_false q1.2
  exact ⟨by have := (great_no q1.1).1; omega, by have := (greatq_no q2).1; omega, f, fun y hy => by have := (great_no q1.1).2 y hy; omega, by omega, fun y hy => by have := (greatq_no q2).2 y hy; omega, by omega⟩
theorem zSb_ok : Ok15 zSb := ⟨by show 0 ≤ 10000; omega, by show 0 ≤ 10000; omega, ⟨⟨⟨by show 0 ≤ maxLen; omega, fun x hx => by cases hx⟩, by show 0 ≤ maxLen; omega, by show 0 < 18446744073709551616; omega⟩, ⟨by show 0 ≤ maxLen; omega, fun x hx => by cases hx⟩, by show 0 ≤ maxLen; omega⟩, (fun _ h => by cases h), by show 0 ≤ 1000000; omega, (fun _ h => by cases h), by show 0 ≤ 1000000; omega⟩
def SibsBy (w : World) (b r : Nat) (ao : Option Addr) (l : List Sb) : Prop := ∀ i (_ : i < l.length), ∃ bb off vo vc po pc, ao = some ⟨bb, off, none⟩ ∧ ¬ two b r bb ∧ SibAt w bb (off + i * 7) l[i] vo vc po pc ∧ SibIn w vo po pc l[i] ∧ (0 < l[i].k.c.length → ApartE (two b r) vo) ∧ (0 < l[i].m.length → ApartE (two b r) po)
theorem SibsBy.old {w0 w : World} {b r : Nat} {ao : Option Addr} {l : List Sb} (h : SibsAt w0 ao l) (k : Keep0 w0 w) (hb : w0.heap.size ≤ b) (hr : w0.heap.size ≤ r) : SibsBy w b r ao l := by
  intro i hi
  obtain ⟨bb, off, vo, vc, po, pc, e, h1, h2⟩ := h i hi
  have hbB := World.block_lt_of_cell? w0 _ h1.c0
  simp only at hbB
  refine ⟨bb, off, vo, vc, po, pc, e, by unfold two; omega, h1.keep0 k, h2.keep0 k, fun hl g o m e' hh => ?_, fun hl g o m e' hh => ?_⟩
  · have := ens_old h2.ens hl g o m e'
    unfold two at hh
    omega
  · have := prs_old h2.prs hl g o m e'
    unfold two at hh
    omega
def RCopy (x : Sb) (w : World) (e : Ending) (w' : World) : Prop := ∃ vo vc po pc, e = .returned (.agg #[.slice vo x.k.c.length vc, .bool x.k.d, .string x.k.x.a, .int .u64 (x.k.x.n : Int), .slice po x.m.length pc, .bool x.d, .string x.v]) ∧ w'.ownsRow w.heap.size 39 2 (.slice vo x.k.c.length vc) x.k.c.length (enCells x.k.c) ∧ w'.ownsRow w.heap.size 46 2 (.slice po x.m.length pc) x.m.length (prCells x.m) ∧ Keep0 w w'
def x15 : Sb := ⟨zCk, [], false, ⟨#[118]⟩⟩
theorem x15_ok : Ok15 x15 := ⟨by show 0 ≤ 10000; omega, by show 0 ≤ 10000; omega, ⟨⟨⟨by show 0 ≤ maxLen; omega, fun x hx => by cases hx⟩, by show 0 ≤ maxLen; omega, by show 0 < 18446744073709551616; omega⟩, ⟨by show 0 ≤ maxLen; omega, fun x hx => by cases hx⟩, by show 1 ≤ maxLen; unfold maxLen; omega⟩, (fun _ h => by cases h), by show 0 ≤ 1000000; omega, (fun _ h => by cases h), by show 1 ≤ 1000000; omega⟩
end Go.Proofs.YteonkfedgopdiaaGreat
