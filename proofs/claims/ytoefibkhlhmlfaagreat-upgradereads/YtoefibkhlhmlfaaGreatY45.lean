/-
  What this seat's claims lean on of the texts ObD.
  Conditions: as each theorem states.
-/
import Derived.WalkKit
import Derived.ProofKit
import Derived.Below
import Derived.Deep.Draws
import Derived.Deep.RegionHeld
import Derived.Test.YtoefibkhlhmlfaaGreatChecked
import Derived.OpenShut
import Derived.ShutString
import Derived.WalkSpells
import Derived.WalkLawsBesides
import Derived.Deep.QuietTactic
import Derived.BigQuiet
import Derived.Laws.Bits64b
import Derived.PlainAid
import Derived.Lib.AppendStr
import Derived.Deep.AppendLies
import Derived.Laws.IdiomStrings
import Derived.Laws.BytesArg
import Derived.Deep.RegionWith
import Derived.Laws.AppendOwn
import Derived.Deep.DeepAppendWide
import Derived.Deep.Upon
import Derived.Maps.AppendAt
import Derived.Laws.Rows
import Derived.Deep.Slices
import Derived.Deep.CutRange
import Derived.Deep.RegionLaw
import Derived.Test.YtoefibkhlhmlfaaGreatY44
namespace Go.Proofs.YtoefibkhlhmlfaaGreat
open Go.RowKit
structure CopyW (B : Nat) (w : World) (v : Value) (L : List Pl) : Prop where
  row : w.ownsRow B 61 7 v L.length (rowOf Pl.cells L)
  vec : ∀ p ∈ L, w.ownsRow B 53 2 (.slice p.vo p.x.k.c.length p.vc) p.x.k.c.length (enCells p.x.k.c) ∧ ∀ g, (Value.slice p.vo p.x.k.c.length p.vc).ownBlock = some g → v.ownBlock ≠ some g
  prs : ∀ p ∈ L, w.ownsRow B 135 2 (.slice p.po p.x.m.length p.pc) p.x.m.length (prCells p.x.m) ∧ ∀ g, (Value.slice p.po p.x.m.length p.pc).ownBlock = some g → v.ownBlock ≠ some g
  off : ∀ i j (_ : i < L.length) (_ : j < L.length), i ≠ j → ∀ g o m g' o' m', L[i].po = some ⟨g, o, m⟩ → L[j].po = some ⟨g', o', m'⟩ → g ≠ g'
theorem CopyW.nil (B : Nat) (w : World) : CopyW B w (.slice none 0 0) [] := ⟨⟨by show 0 = 0 * 7; rfl, .inl ⟨rfl, rfl⟩⟩, (fun _ h => by cases h), (fun _ h => by cases h), (fun i _ h => by cases h)⟩
theorem CopyW.keep0 {B : Nat} {w w' : World} {v : Value} {L : List Pl} (h : CopyW B w v L) (K : Keep0 w w') : CopyW B w' v L :=
  ⟨rowE_keep h.row K (fun _ _ f => f), fun p hp => ⟨rowE_keep (h.vec p hp).1 K (fun _ _ f => f), (h.vec p hp).2⟩, fun p hp => ⟨rowE_keep (h.prs p hp).1 K (fun _ _ f => f), (h.prs p hp).2⟩, h.off⟩
theorem CopyW.keepR {R : Nat → Prop} {B : Nat} {w w' : World} {v : Value} {L : List Pl} (h : CopyW B w v L) (K : Keep R w w') (hn : ∀ g, B ≤ g → ¬ R g) : CopyW B w' v L :=
  ⟨rowE_keep h.row K hn, fun p hp => ⟨rowE_keep (h.vec p hp).1 K hn, (h.vec p hp).2⟩, fun p hp => ⟨rowE_keep (h.prs p hp).1 K hn, (h.prs p hp).2⟩, h.off⟩
structure CopyLt (C : Nat) (v : Value) (L : List Pl) : Prop where
  row : ∀ g, v.ownBlock = some g → g < C
  vec : ∀ p ∈ L, ∀ g, (Value.slice p.vo p.x.k.c.length p.vc).ownBlock = some g → g < C
  prs : ∀ p ∈ L, ∀ g, (Value.slice p.po p.x.m.length p.pc).ownBlock = some g → g < C
theorem CopyW.lt {B : Nat} {w : World} {v : Value} {L : List Pl} (h : CopyW B w v L) : CopyLt w.heap.size v L :=
  ⟨fun g e => (h.row.lt g e).2, fun p hp g e => ((h.vec p hp).1.lt g e).2, fun p hp g e => ((h.prs p hp).1.lt g e).2⟩
theorem CopyW.more {B C : Nat} {w w' : World} {v v' : Value} {L : List Pl} {p : Pl} (h : CopyW B w v L) (hBC : B ≤ C) (hlt : CopyLt C v L) (hv : w.ownsRow C 53 2 (.slice p.vo p.x.k.c.length p.vc) p.x.k.c.length (enCells p.x.k.c)) (hp : w.ownsRow C 135 2 (.slice p.po p.x.m.length p.pc) p.x.m.length (prCells p.x.m))
    (h1 : w'.ownsRow B 61 7 v' (L ++ [p]).length (rowOf Pl.cells (L ++ [p]))) (h2 : w.grownBy w' v.ownBlock) (h3 : v'.ownBlock = v.ownBlock ∨ v'.ownBlock = some w.heap.size) : CopyW B w' v' (L ++ [p]) := by
  have K := keep_grown h2
  have nv : ∀ g, C ≤ g → v.ownBlock ≠ some g := fun g hg e => by have := hlt.row g e; omega
  have step : ∀ g, g < w.heap.size → v.ownBlock ≠ some g → v'.ownBlock ≠ some g := by
    intro g hg hne e
    rcases h3 with e3 | e3
    · rw [e3] at e; exact hne e
    · rw [e3] at e; cases e; omega
  refine ⟨h1, ?_, ?_, ?_⟩
  · intro q hq
    rcases List.mem_append.1 hq with hq | hq
    · obtain ⟨a1, a2⟩ := h.vec q hq
      exact ⟨rowE_own a1 K (fun g e => a2 g e), fun g e => step g (a1.lt g e).2 (a2 g e)⟩
    · rw [List.mem_singleton.1 hq]
      exact ⟨rowP_mono (rowE_own hv K (fun g e => nv g (hv.lt g e).1)) hBC, fun g e => step g (hv.lt g e).2 (nv g (hv.lt g e).1)⟩
  · intro q hq
    rcases List.mem_append.1 hq with hq | hq
    · obtain ⟨a1, a2⟩ := h.prs q hq
      exact ⟨rowE_own a1 K (fun g e => a2 g e), fun g e => step g (a1.lt g e).2 (a2 g e)⟩
    · rw [List.mem_singleton.1 hq]
      exact ⟨rowP_mono (rowE_own hp K (fun g e => nv g (hp.lt g e).1)) hBC, fun g e => step g (hp.lt g e).2 (nv g (hp.lt g e).1)⟩
  · have new : ∀ g o m, p.po = some ⟨g, o, m⟩ → C ≤ g := fun g o m e => (hp.lt g (by rw [e]; rfl)).1
    have old : ∀ i (hi : i < L.length) g o m, L[i].po = some ⟨g, o, m⟩ → g < C := fun i hi g o m e => hlt.prs L[i] (List.getElem_mem hi) g (by rw [e]; rfl)
    intro i j hi hj hne g o m g' o' m' e e'
    rw [List.length_append] at hi hj
    have hi : i < L.length + 1 := hi
    have hj : j < L.length + 1 := hj
    by_cases hi2 : i < L.length
    · rw [List.getElem_append_left hi2] at e
      by_cases hj2 : j < L.length
      · rw [List.getElem_append_left hj2] at e'
        exact h.off i j hi2 hj2 hne g o m g' o' m' e e'
      · have ej : j = L.length := by omega
        subst ej
        rw [List.getElem_append_right (Nat.le_refl _)] at e'
        simp only [Nat.sub_self, List.getElem_cons_zero] at e'
        have := new _ _ _ e'
        have := old i hi2 _ _ _ e
        omega
    · have ei : i = L.length := by omega
      subst ei
      have hj2 : j < L.length := by omega
      rw [List.getElem_append_right (Nat.le_refl _)] at e
      simp only [Nat.sub_self, List.getElem_cons_zero] at e
      rw [List.getElem_append_left hj2] at e'
      have := new _ _ _ e
      have := old j hj2 _ _ _ e'
      omega
theorem CopyW.copyL {B : Nat} {w : World} {v : Value} {L : List Pl} (h : CopyW B w v L) : ∃ ao cap, v = .slice ao L.length cap ∧ CopyL B w ao cap L := by
  obtain ⟨ao, cap, e, _⟩ := row_of_own plT.len plT.pos h.row
  subst e
  exact ⟨ao, cap, rfl, h.row, fun p hp => (h.vec p hp).1, fun p hp => (h.prs p hp).1, fun i j hi hj hne _ _ => h.off i j hi hj hne⟩
theorem take_map_more {l : List Sb} {O : List Pl} {k : Nat} {p : Pl} (hk : k < l.length) (h : O.map Pl.x = l.take k) (hp : p.x = l[k]) : (O ++ [p]).map Pl.x = l.take (k + 1) := by
  rw [List.map_append, h, List.take_succ_eq_append_getElem hk, List.map_cons, List.map_nil, hp]
set_option maxRecDepth 100000 in
set_option maxHeartbeats 8000000 in
theorem copy16_any (w : World) (ao : Option Addr) (cap : Nat) (key : ByteArray) (l : List Sb) (hl : l.length ≤ 100) (hf : ∀ x ∈ l, Ok15 x) (hc : SibsAt w ao l) :
    Calls Tryz.prog 62 #[.agg #[.string key, .slice ao l.length cap]] w fun e w' => ∃ ao2 cap2 L, e = .returned (.agg #[.string key, .slice ao2 L.length cap2]) ∧ L.map Pl.x = l ∧ (CopyW w.heap.size w' (.slice ao2 L.length cap2) L ∧ CopyL w.heap.size w' ao2 cap2 L) ∧ Keep0 w w' := by
  have HP : Hid (∀ (e : Ending) (W : World) (ao2 : Option Addr) (cap2 : Nat) (L : List Pl), e = .returned (.agg #[.string key, .slice ao2 L.length cap2]) → L.map Pl.x = l → CopyW w.heap.size W (.slice ao2 L.length cap2) L → Keep0 w W → ∃ ao2 cap2 L, e = .returned (.agg #[.string key, .slice ao2 L.length cap2]) ∧ L.map Pl.x = l ∧ (CopyW w.heap.size W (.slice ao2 L.length cap2) L ∧ CopyL w.heap.size W ao2 cap2 L) ∧ Keep0 w W) := by
    intro e W ao2 cap2 L h1 h2 h3 h4
    obtain ⟨a, c, e5, h5⟩ := h3.copyL
    cases e5
    exact ⟨_, _, L, h1, h2, ⟨h3, h5⟩, h4⟩
  have i1 : (l.length : Int) ≤ 9223372036854775807 := by omega
  have HL : Hid (l.length ≤ 100) := hl
  have k0 : Keep0 w (w.alloc (.cells #[.string key, .slice ao l.length cap] 27)) := (Keep.refl _ w).alloc _
  have kB : Keep0 (w.alloc (.cells #[.string key, .slice ao l.length cap] 27)) ((w.alloc (.cells #[.string key, .slice ao l.length cap] 27)).alloc (.cells #[.string ⟨#[]⟩, .slice none 0 0] 27)) := (Keep.refl _ _).alloc _
  have kA := k0.trans kB
  have q1 := (DAt.new w 27 (.string key) (.slice ao l.length cap)).keep0 kB
  have q2 := DAt.new (w.alloc (.cells #[.string key, .slice ao l.length cap] 27)) 27 (.string ⟨#[]⟩) (.slice none 0 0)
  rw [World.size_alloc] at q2
  have z0 : ((w.alloc (.cells #[.string key, .slice ao l.length cap] 27)).alloc (.cells #[.string ⟨#[]⟩, .slice none 0 0] 27)).heap.size = w.heap.size + 2 := by rw [World.size_alloc, World.size_alloc]
  obtain ⟨x0, x1, f0, f1⟩ := q1.cells
  have HC : Hid (SibsAt w ao l) := hc
  have HF : Hid (∀ x ∈ l, Ok15 x) := hf
  clear hc hf hl k0 kB
  go_enter Tryz.func62, Tryz.ntmps62
  go_wp2_with fail
  generalize ((w.alloc (.cells #[.string key, .slice ao l.length cap] 27)).alloc (.cells #[.string ⟨#[]⟩, .slice none 0 0] 27)) = W0 at *
  obtain ⟨g1, hg1⟩ : ∃ g1, w.heap.size = g1 := ⟨_, rfl⟩
  rw [hg1] at q1 q2 z0 x0 x1 f0 f1 ⊢
  obtain ⟨g2, hg2⟩ : ∃ g2, g1 + 1 = g2 := ⟨_, rfl⟩
  rw [hg2] at q2 ⊢
  have n12 : g1 ≠ g2 := by omega
  have HG1 : Hid (w.heap.size = g1) := hg1
  have HG2 : Hid (g1 + 1 = g2) := hg2
  have HQ1 : Hid (DAt W0 g1 (.string key) (.slice ao l.length cap)) := q1
  have HQ2 : Hid (DAt W0 g2 (.string ⟨#[]⟩) (.slice none 0 0)) := q2
  have HKA : Hid (Keep0 w W0) := kA
  have HZ : Hid (g2 + 1 ≤ W0.heap.size) := by show _ ≤ _; omega
  clear q1 q2 kA z0 hg1 hg2 x0 x1 f0 f1
  go_loopw [3, 9] (fun u i wr => ∃ (k : Nat) (O : List Pl), i = .int .i64 (k : Int) ∧ k ≤ l.length ∧ Hid (O.map Pl.x = l.take k) ∧ Hid (CopyW (g2 + 1) wr u O) ∧ Hid (DAt wr g1 (.string key) (.slice ao l.length cap)) ∧ Hid (DAt wr g2 (.string ⟨#[]⟩) (.slice none 0 0)) ∧ Hid (Keep0 w wr) ∧ Hid (g2 + 1 ≤ wr.heap.size)) (fun _ i _ => l.length - (intOf i).toNat)
  case atStart => exact ⟨0, [], rfl, by omega, rfl, CopyW.nil _ _, HQ1, HQ2, HKA, HZ⟩
  case round =>
    obtain ⟨k, O, rfl, hk, HO, HW, HR1, HR2, HKw, HZw⟩ := hrel
    clear HQ1 HQ2 HKA HZ
    by_cases hlt : k < l.length
    · have j2 : (k : Int) < l.length := by omega
      obtain ⟨b, off, vo, vc, po, pc, rfl, s1, s2⟩ := HC.out k hlt
      obtain ⟨a0, a1, a2, a3, a4, a5, a6⟩ := s1.keep0 HKw.out
      have kX : Keep0 wr (wr.alloc (.cells #[.slice vo l[k].k.c.length vc, .bool l[k].k.d, .string l[k].k.x.a, .int .u64 (l[k].k.x.n : Int), .slice po l[k].m.length pc, .bool l[k].d, .string l[k].v] 61)) := (Keep.refl _ wr).alloc _
      obtain ⟨c0, c1, c2, c3, c4, c5, c6⟩ := sib_new wr 61 l[k] vo vc po pc
      have KX := HKw.out.trans kX
      have yc := copy15 (wr.alloc (.cells #[.slice vo l[k].k.c.length vc, .bool l[k].k.d, .string l[k].k.x.a, .int .u64 (l[k].k.x.n : Int), .slice po l[k].m.length pc, .bool l[k].d, .string l[k].v] 61)) vo vc po pc l[k] (HF.out _ (List.getElem_mem hlt)) (s2.keep0 KX)
      have hz : (wr.alloc (.cells #[.slice vo l[k].k.c.length vc, .bool l[k].k.d, .string l[k].k.x.a, .int .u64 (l[k].k.x.n : Int), .slice po l[k].m.length pc, .bool l[k].d, .string l[k].v] 61)).heap.size = wr.heap.size + 1 := by rw [World.size_alloc]
      obtain ⟨X, hX⟩ : ∃ X, l[k] = X := ⟨_, rfl⟩
      have HX : Hid (l[k] = X) := hX
      rw [hX] at yc a0 a1 a2 a3 a4 a5 a6 c0 c1 c2 c3 c4 c5 c6 kX KX hz
      have HWb : Hid (CopyW (g2 + 1) (wr.alloc (.cells #[.slice vo X.k.c.length vc, .bool X.k.d, .string X.k.x.a, .int .u64 (X.k.x.n : Int), .slice po X.m.length pc, .bool X.d, .string X.v] 61)) u3 O) := HW.out.keep0 kX
      have HLt : Hid (CopyLt wr.heap.size u3 O) := HW.out.lt
      have HR1b : Hid (DAt (wr.alloc (.cells #[.slice vo X.k.c.length vc, .bool X.k.d, .string X.k.x.a, .int .u64 (X.k.x.n : Int), .slice po X.m.length pc, .bool X.d, .string X.v] 61)) g1 (.string key) (.slice (some ⟨b, off, none⟩) l.length cap)) := HR1.out.keep0 kX
      have HR2b : Hid (DAt (wr.alloc (.cells #[.slice vo X.k.c.length vc, .bool X.k.d, .string X.k.x.a, .int .u64 (X.k.x.n : Int), .slice po X.m.length pc, .bool X.d, .string X.v] 61)) g2 (.string ⟨#[]⟩) (.slice none 0 0)) := HR2.out.keep0 kX
      have HKb : Hid (Keep0 w (wr.alloc (.cells #[.slice vo X.k.c.length vc, .bool X.k.d, .string X.k.x.a, .int .u64 (X.k.x.n : Int), .slice po X.m.length pc, .bool X.d, .string X.v] 61))) := KX
      have HZb : Hid (g2 + 1 ≤ (wr.alloc (.cells #[.slice vo X.k.c.length vc, .bool X.k.d, .string X.k.x.a, .int .u64 (X.k.x.n : Int), .slice po X.m.length pc, .bool X.d, .string X.v] 61)).heap.size) := by show _ ≤ _; have := HZw.out; omega
      have hB : g2 + 1 ≤ wr.heap.size := HZw.out
      have HBC : Hid (g2 + 1 ≤ wr.heap.size) := hB
      have HZ1 : Hid ((wr.alloc (.cells #[.slice vo X.k.c.length vc, .bool X.k.d, .string X.k.x.a, .int .u64 (X.k.x.n : Int), .slice po X.m.length pc, .bool X.d, .string X.v] 61)).heap.size = wr.heap.size + 1) := hz
      clear s1 s2 hX HW HR1 HR2 HKw HZw kX KX hB hz
      go_wp2_with fail
      clear a0 a1 a2 a3 a4 a5 a6
      generalize (wr.alloc (.cells #[.slice vo X.k.c.length vc, .bool X.k.d, .string X.k.x.a, .int .u64 (X.k.x.n : Int), .slice po X.m.length pc, .bool X.d, .string X.v] 61)) = W2 at *
      generalize wr.heap.size = C at *
      refine yc.mono ?_
      rintro e w1 ⟨wo, wc, qo, qc, rfl, hv, hp, k1⟩
      have HVr : Hid (w1.ownsRow W2.heap.size 53 2 (.slice wo X.k.c.length wc) X.k.c.length (enCells X.k.c)) := hv
      have HPr : Hid (w1.ownsRow W2.heap.size 135 2 (.slice qo X.m.length qc) X.m.length (prCells X.m)) := hp
      have kS : Keep0 w1 (w1.alloc (.cells #[.slice wo X.k.c.length wc, .bool X.k.d, .string X.k.x.a, .int .u64 (X.k.x.n : Int), .slice qo X.m.length qc, .bool X.d, .string X.v] 61)) := (Keep.refl _ w1).alloc _
      have kT := k1.trans kS
      have hsrc := pl_new w1 61 ⟨X, wo, wc, qo, qc⟩
      have hWS := HWb.out.keep0 kT
      have hrow := hWS.row
      have hB2 : g2 + 1 ≤ (w1.alloc (.cells #[.slice wo X.k.c.length wc, .bool X.k.d, .string X.k.x.a, .int .u64 (X.k.x.n : Int), .slice qo X.m.length qc, .bool X.d, .string X.v] 61)).heap.size := by have := kT.size; have := HZb.out; omega
      have hO : O.length = k := by
        have := congrArg List.length HO.out
        rw [List.length_map, List.length_take] at this
        omega
      have hlen : O.length + [(⟨X, wo, wc, qo, qc⟩ : Pl)].length ≤ 1000000 := by show _ + 1 ≤ _; have := HL.out; omega
      have HvS : Hid ((w1.alloc (.cells #[.slice wo X.k.c.length wc, .bool X.k.d, .string X.k.x.a, .int .u64 (X.k.x.n : Int), .slice qo X.m.length qc, .bool X.d, .string X.v] 61)).ownsRow C 53 2 (.slice wo X.k.c.length wc) X.k.c.length (enCells X.k.c)) := rowP_mono (rowE_keep hv kS (fun _ _ f => f)) (by have := HZ1.out; omega)
      have HpS : Hid ((w1.alloc (.cells #[.slice wo X.k.c.length wc, .bool X.k.d, .string X.k.x.a, .int .u64 (X.k.x.n : Int), .slice qo X.m.length qc, .bool X.d, .string X.v] 61)).ownsRow C 135 2 (.slice qo X.m.length qc) X.m.length (prCells X.m)) := rowP_mono (rowE_keep hp kS (fun _ _ f => f)) (by have := HZ1.out; omega)
      have HWS : Hid (CopyW (g2 + 1) (w1.alloc (.cells #[.slice wo X.k.c.length wc, .bool X.k.d, .string X.k.x.a, .int .u64 (X.k.x.n : Int), .slice qo X.m.length qc, .bool X.d, .string X.v] 61)) u3 O) := hWS
      have HR1c : Hid (DAt (w1.alloc (.cells #[.slice wo X.k.c.length wc, .bool X.k.d, .string X.k.x.a, .int .u64 (X.k.x.n : Int), .slice qo X.m.length qc, .bool X.d, .string X.v] 61)) g1 (.string key) (.slice (some ⟨b, off, none⟩) l.length cap)) := HR1b.out.keep0 kT
      have HR2c : Hid (DAt (w1.alloc (.cells #[.slice wo X.k.c.length wc, .bool X.k.d, .string X.k.x.a, .int .u64 (X.k.x.n : Int), .slice qo X.m.length qc, .bool X.d, .string X.v] 61)) g2 (.string ⟨#[]⟩) (.slice none 0 0)) := HR2b.out.keep0 kT
      have HKc : Hid (Keep0 w (w1.alloc (.cells #[.slice wo X.k.c.length wc, .bool X.k.d, .string X.k.x.a, .int .u64 (X.k.x.n : Int), .slice qo X.m.length qc, .bool X.d, .string X.v] 61))) := HKb.out.trans kT
      have HOl : Hid (O.length = k) := hO
      clear yc k1 kS kT hWS hv hp HWb HR1b HR2b HKb HZb hO c0 c1 c2 c3 c4 c5 c6 HVr HPr
      go_wp2_with (at_builtin; refine wpList_append_row_at plT rfl _ _ rfl rfl rfl hrow hsrc hB2 hlen ?_)
      intro v' w4 r1 r4 r5
      have r1 : w4.ownsRow (g2 + 1) 61 7 v' (O ++ [(⟨X, wo, wc, qo, qc⟩ : Pl)]).length (rowOf Pl.cells (O ++ [(⟨X, wo, wc, qo, qc⟩ : Pl)])) := by first | exact r1 | (rw [List.length_append]; exact r1)
      have HW4 : Hid (CopyW (g2 + 1) w4 v' (O ++ [(⟨X, wo, wc, qo, qc⟩ : Pl)])) := HWS.out.more (p := ⟨X, wo, wc, qo, qc⟩) HBC.out HLt.out HvS.out HpS.out r1 r4 (by first | exact r5 | (rw [World.size_alloc]; exact r5))
      have k4 := keep_grown r4
      have nR : ∀ g, g ≤ g2 → ¬ (fun k => u3.ownBlock = some k) g := fun g hg e => by have := (HWS.out.row.lt g e).1; omega
      have HR1d : Hid (DAt w4 g1 (.string key) (.slice (some ⟨b, off, none⟩) l.length cap)) := HR1c.out.keep k4 (nR g1 (by have := HG2.out; omega))
      have HR2d : Hid (DAt w4 g2 (.string ⟨#[]⟩) (.slice none 0 0)) := HR2c.out.keep k4 (nR g2 (Nat.le_refl _))
      have HKd : Hid (Keep0 w w4) := HKc.out.step k4 (fun i hi e => by have := (HWS.out.row.lt i e).1; have := HG1.out; have := HG2.out; omega)
      have HZd : Hid (g2 + 1 ≤ w4.heap.size) := by show _ ≤ _; have := r4.size; omega
      have HOd : Hid ((O ++ [(⟨X, wo, wc, qo, qc⟩ : Pl)]).map Pl.x = l.take (k + 1)) := take_map_more hlt HO.out HX.out.symm
      clear r1 r4 r5 k4 nR hsrc hrow hB2 hlen HWS HR1c HR2c HKc HvS HpS HLt HBC
      go_wp2
      go_roundw
      case rel => exact ⟨k + 1, O ++ [⟨X, wo, wc, qo, qc⟩], by go_num, by omega, HOd, HW4, HR1d, HR2d, HKd, HZd⟩
      case measure => simp [intOf]; omega
    · have j2 : ¬ (k : Int) < l.length := by omega
      have HD : Hid (O.map Pl.x = l) := by
        have h := HO.out
        rw [List.take_of_length_le (by omega)] at h
        exact h
      obtain ⟨ao2, cap2, e2, _⟩ := HW.out.copyL
      subst e2
      obtain ⟨y0, y1, h0, h1⟩ := HR1.out.cells
      obtain ⟨y2, y3, h2, h3⟩ := HR2.out.cells
      clear HO
      go_wp2
      refine bodyPost_ret (retOb rfl _ _ _ rfl (HR2.out.put (.string key) (.slice ao2 O.length cap2))) rfl ?_
      have hk2 := put2_keep wr g2 (.string key) (.slice ao2 O.length cap2)
      have hW2 := HW.out.keepR hk2 (fun g hg e => by omega)
      refine HP.out _ _ ao2 cap2 O rfl HD.out ?_ (HKw.out.step hk2 (fun i hi e => by have := HG1.out; have := HG2.out; omega))
      have hle : w.heap.size ≤ g2 + 1 := by have := HG1.out; have := HG2.out; omega
      exact ⟨rowP_mono hW2.row hle, fun p hp => ⟨rowP_mono (hW2.vec p hp).1 hle, (hW2.vec p hp).2⟩, fun p hp => ⟨rowP_mono (hW2.prs p hp).1 hle, (hW2.prs p hp).2⟩, hW2.off⟩
end Go.Proofs.YtoefibkhlhmlfaaGreat
