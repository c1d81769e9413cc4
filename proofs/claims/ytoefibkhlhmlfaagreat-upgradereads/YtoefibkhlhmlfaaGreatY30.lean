/-
  What this seat's claims lean on of the texts RefObj, RefSib3, Beside, RefSib2.
  Conditions: as each theorem states.
-/
import Derived.WalkKit
import Derived.ProofKit
import Derived.Below
import Derived.Deep.Draws
import Derived.Deep.RegionHeld
import Derived.Test.YtoefibkhlhmlfaaGreatChecked
import Derived.OpenShut
import Derived.ShutString
import Derived.WalkSpells
import Derived.WalkLawsBesides
import Derived.Deep.QuietTactic
import Derived.BigQuiet
import Derived.Laws.Bits64b
import Derived.PlainAid
import Derived.Lib.AppendStr
import Derived.Deep.AppendLies
import Derived.Laws.IdiomStrings
import Derived.Laws.BytesArg
import Derived.Deep.RegionWith
import Derived.Laws.AppendOwn
import Derived.Deep.DeepAppendWide
import Derived.Deep.Upon
import Derived.Maps.AppendAt
import Derived.Laws.Rows
import Derived.Deep.Slices
import Derived.Test.YtoefibkhlhmlfaaGreatY17
import Derived.Test.YtoefibkhlhmlfaaGreatY28
import Derived.Test.YtoefibkhlhmlfaaGreatY21
import Derived.Test.YtoefibkhlhmlfaaGreatY6
import Derived.Test.YtoefibkhlhmlfaaGreatY1
import Derived.Test.YtoefibkhlhmlfaaGreatY26
import Derived.Test.YtoefibkhlhmlfaaGreatY16
import Derived.Test.YtoefibkhlhmlfaaGreatY11
import Derived.Test.YtoefibkhlhmlfaaGreatY13
namespace Go.Proofs.YtoefibkhlhmlfaaGreat
open Go.RowKit
structure FitsO (o : Ob) : Prop where
  key : o.key.size ≤ maxLen
  len : o.l.length ≤ maxLen
  sib : ∀ x ∈ o.l, FitsS x
theorem FitsS.u {x : Sb} (h : FitsS x) : sbU x := ⟨fun y hy => (h.clk.vec.2 y hy).2, h.clk.num⟩
set_option maxRecDepth 100000 in
set_option maxHeartbeats 8000000 in
theorem rclock16 (w : World) (vo : Option Addr) (vc : Nat) (po : Option Addr) (pc : Nat) (x : Sb) (f : FitsS x) (h : SibIn w vo po pc x) :
    Calls Tryz.prog 51 #[.agg #[.slice vo x.k.c.length vc, .bool x.k.d, .string x.k.x.a, .int .u64 (x.k.x.n : Int), .slice po x.m.length pc, .bool x.d, .string x.v]] w fun e w' => e = .returned (.string (encK x.k).1) ∧ Keep0 w w' := by
  have kA : Keep0 w (w.alloc (.cells #[.slice vo x.k.c.length vc, .bool x.k.d, .string x.k.x.a, .int .u64 (x.k.x.n : Int), .slice po x.m.length pc, .bool x.d, .string x.v] 61)) := (Keep.refl _ w).alloc _
  obtain ⟨x0, x1, x2, x3, x4, x5, x6⟩ := sib_new w 61 x vo vc po pc
  have yk := rencode13 (w.alloc (.cells #[.slice vo x.k.c.length vc, .bool x.k.d, .string x.k.x.a, .int .u64 (x.k.x.n : Int), .slice po x.m.length pc, .bool x.d, .string x.v] 61)) vo vc x.k f.clk (h.ens.keep0 kA)
  generalize encK x.k = E at *
  go_enter Tryz.func51, Tryz.ntmps51
  go_wp2_with fail
  generalize (w.alloc (.cells #[.slice vo x.k.c.length vc, .bool x.k.d, .string x.k.x.a, .int .u64 (x.k.x.n : Int), .slice po x.m.length pc, .bool x.d, .string x.v] 61)) = W0 at *
  generalize w.heap.size = g at *
  refine yk.mono ?_
  rintro e w1 ⟨rfl, k1⟩
  have K1 := kA.trans k1
  clear yk k1 kA
  go_wp2
  go_ret
  exact ⟨rfl, K1⟩
set_option maxRecDepth 100000 in
set_option maxHeartbeats 8000000 in
theorem routside16 (w : World) (key : ByteArray) (hk : key.size ≤ maxLen) (n : Nat) :
    Calls Tryz.prog 48 #[.string key, .int .i64 (n : Int)] w fun e w' => e = .returned (.int .i64 (outS key n)) ∧ w = w' := by
  have i0 : (key.size : Int) ≤ 9223372036854775807 := by unfold maxLen at hk; omega
  unfold outS
  by_cases h1 : 128 < key.size
  · rw [if_pos h1]
    have j1 : (128 : Int) < key.size := by omega
    go_enter Tryz.func48, Tryz.ntmps48
    go_wp2
    go_ret
    exact ⟨rfl, rfl⟩
  rw [if_neg h1]
  have j1 : ¬ (128 : Int) < key.size := by omega
  by_cases h2 : key.size = 0
  · rw [if_pos h2]
    have j2 : (key.size : Int) = 0 := by omega
    go_enter Tryz.func48, Tryz.ntmps48
    go_wp2
    go_ret
    exact ⟨rfl, rfl⟩
  rw [if_neg h2]
  have j2 : ((key.size : Int) == 0) = false := beq_eq_false_iff_ne.2 (by omega)
  have j2' : ¬ (key.size : Int) = 0 := by omega
  by_cases h3 : 16 < n
  · rw [if_pos h3]
    have j3 : (16 : Int) < n := by omega
    go_enter Tryz.func48, Tryz.ntmps48
    go_wp2
    go_ret
    exact ⟨rfl, rfl⟩
  rw [if_neg h3]
  have j3 : ¬ (16 : Int) < n := by omega
  by_cases h4 : n = 0
  · rw [if_pos h4]
    have j4 : (n : Int) = 0 := by omega
    go_enter Tryz.func48, Tryz.ntmps48
    go_wp2
    go_ret
    exact ⟨rfl, rfl⟩
  rw [if_neg h4]
  have j4 : ((n : Int) == 0) = false := beq_eq_false_iff_ne.2 (by omega)
  have j4' : ¬ (n : Int) = 0 := by omega
  go_enter Tryz.func48, Tryz.ntmps48
  go_wp2
  go_ret
  exact ⟨rfl, rfl⟩
end Go.Proofs.YtoefibkhlhmlfaaGreat
namespace Go.Proofs.YtoefibkhlhmlfaaGreat
open Go.RowKit
def RTakeS (r : Sb × Int × Int) (s : ByteArray) (b : Nat) (w : World) (e : Ending) (w' : World) : Prop := ∃ vo vc po pc, e = .returned (.agg #[.slice vo r.1.k.c.length vc, .bool r.1.k.d, .string r.1.k.x.a, .int .u64 (r.1.k.x.n : Int), .slice po r.1.m.length pc, .bool r.1.d, .string r.1.v]) ∧ Cur w' b s r.2.1 r.2.2 ∧ SibIn w' vo po pc r.1 ∧ (∀ g off m, vo = some ⟨g, off, m⟩ → w.heap.size ≤ g) ∧ (∀ g off m, po = some ⟨g, off, m⟩ → w.heap.size ≤ g) ∧ Keep1 b w w'
theorem sibIn_zero (w : World) : SibIn w none none 0 zSb := ⟨ens_nil _ _, prs_nil _ _, Nat.le_refl _, Nat.zero_le _⟩
theorem RTakeS.bare {r : Sb × Int × Int} {s : ByteArray} {b : Nat} {w w' : World} {e : Ending} {A E : Int} (hr : r = (zSb, A, E)) (h : e = .returned (.agg #[.slice none 0 0, .bool false, .string ⟨#[]⟩, .int .u64 0, .slice none 0 0, .bool false, .string ⟨#[]⟩])) (h1 : Cur w' b s A E) (h4 : Keep1 b w w') : RTakeS r s b w e w' := by
  subst hr
  exact ⟨none, 0, none, 0, h, h1, sibIn_zero _, (fun _ _ _ e => by cases e), (fun _ _ _ e => by cases e), h4⟩
theorem RTakeS.mk {r : Sb × Int × Int} {s : ByteArray} {b : Nat} {w w' : World} {e : Ending} {A E : Int} {KK : Ck} {PP : List Pr} {GB : Bool} {BT : ByteArray} {vo po : Option Addr} {vc pc : Nat} (hr : r = (⟨KK, PP, GB, BT⟩, A, E)) (h : e = .returned (.agg #[.slice vo KK.c.length vc, .bool KK.d, .string KK.x.a, .int .u64 (KK.x.n : Int), .slice po PP.length pc, .bool GB, .string BT])) (h1 : Cur w' b s A E) (h2 : EnsAt w' vo KK.c) (h2' : PrsAt w' po PP) (hcp : CapP PP pc) (h3 : ∀ g off m, vo = some ⟨g, off, m⟩ → w.heap.size ≤ g) (h3' : ∀ g off m, po = some ⟨g, off, m⟩ → w.heap.size ≤ g) (h4 : Keep1 b w w') : RTakeS r s b w e w' := by
  subst hr
  exact ⟨vo, vc, po, pc, h, h1, ⟨h2, h2', hcp⟩, h3, h3', h4⟩
set_option maxRecDepth 100000 in
set_option maxHeartbeats 8000000 in
theorem rtake15 {w : World} {b : Nat} {s : ByteArray} {a x : Int} (h : Cur w b s a x) :
    Calls Tryz.prog 123 #[ptr b] w (RTakeS (rX zSb rSib s a x) s b w) := by
  have HE : Hid (∀ (W : World) (e : Ending) (A E : Int), rX zSb rSib s a x = (zSb, A, E) → e = .returned (.agg #[.slice none 0 0, .bool false, .string ⟨#[]⟩, .int .u64 0, .slice none 0 0, .bool false, .string ⟨#[]⟩]) → Cur W b s A E → Keep1 b w W → RTakeS (rX zSb rSib s a x) s b w e W) := fun _ _ _ _ h1 h2 h3 h4 => RTakeS.bare h1 h2 h3 h4
  have HM : Hid (∀ (W : World) (e : Ending) (A E : Int) (KK : Ck) (PP : List Pr) (GB : Bool) (BT : ByteArray) (vo po : Option Addr) (vc pc : Nat), rX zSb rSib s a x = (⟨KK, PP, GB, BT⟩, A, E) → e = .returned (.agg #[.slice vo KK.c.length vc, .bool KK.d, .string KK.x.a, .int .u64 (KK.x.n : Int), .slice po PP.length pc, .bool GB, .string BT]) → Cur W b s A E → EnsAt W vo KK.c → PrsAt W po PP → CapP PP pc → (∀ g off m, vo = some ⟨g, off, m⟩ → w.heap.size ≤ g) → (∀ g off m, po = some ⟨g, off, m⟩ → w.heap.size ≤ g) → Keep1 b w W → RTakeS (rX zSb rSib s a x) s b w e W) := fun _ _ _ _ _ _ _ _ _ _ _ _ h1 h2 h3 h4 h5 h6 h7 h8 h9 => RTakeS.mk h1 h2 h3 h4 h5 h6 h7 h8 h9
  have HB : Hid (b < w.heap.size) := h.lt
  obtain ⟨RV, hRV⟩ : ∃ RV, rX zCk rClk s a x = RV := ⟨_, rfl⟩
  obtain ⟨KK, b1, E1⟩ := RV
  obtain ⟨RR, hRR⟩ : ∃ RR, rX zSb rSib s a x = RR := ⟨_, rfl⟩
  rw [hRR] at HE HM ⊢
  have HR : Hid (rX zSb rSib s a x = RR) := hRR
  clear hRR
  have kA : Keep0 w ((w.alloc (.cells #[.slice none 0 0, .bool false, .string ⟨#[]⟩, .int .u64 0, .slice none 0 0, .bool false, .string ⟨#[]⟩] 61)).alloc (.cells #[.slice none 0 0, .bool false, .string ⟨#[]⟩, .int .u64 0, .slice none 0 0, .bool false, .string ⟨#[]⟩] 61)) := ((Keep.refl _ w).alloc _).alloc _
  have q2 : SAt ((w.alloc (.cells #[.slice none 0 0, .bool false, .string ⟨#[]⟩, .int .u64 0, .slice none 0 0, .bool false, .string ⟨#[]⟩] 61)).alloc (.cells #[.slice none 0 0, .bool false, .string ⟨#[]⟩, .int .u64 0, .slice none 0 0, .bool false, .string ⟨#[]⟩] 61)) w.heap.size (.slice none 0 0) (.bool false) (.string ⟨#[]⟩) (.int .u64 0) (.slice none 0 0) (.bool false) (.string ⟨#[]⟩) := (SAt.new w 61 (.slice none 0 0) (.bool false) (.string ⟨#[]⟩) (.int .u64 0) (.slice none 0 0) (.bool false) (.string ⟨#[]⟩)).keep0 ((Keep.refl _ _).alloc _)
  have q3 : SAt ((w.alloc (.cells #[.slice none 0 0, .bool false, .string ⟨#[]⟩, .int .u64 0, .slice none 0 0, .bool false, .string ⟨#[]⟩] 61)).alloc (.cells #[.slice none 0 0, .bool false, .string ⟨#[]⟩, .int .u64 0, .slice none 0 0, .bool false, .string ⟨#[]⟩] 61)) (w.heap.size + 1) (.slice none 0 0) (.bool false) (.string ⟨#[]⟩) (.int .u64 0) (.slice none 0 0) (.bool false) (.string ⟨#[]⟩) := by
    have := SAt.new (w.alloc (.cells #[.slice none 0 0, .bool false, .string ⟨#[]⟩, .int .u64 0, .slice none 0 0, .bool false, .string ⟨#[]⟩] 61)) 61 (.slice none 0 0) (.bool false) (.string ⟨#[]⟩) (.int .u64 0) (.slice none 0 0) (.bool false) (.string ⟨#[]⟩)
    rw [World.size_alloc] at this
    exact this
  have hcl := h.lt
  have z1 : ((w.alloc (.cells #[.slice none 0 0, .bool false, .string ⟨#[]⟩, .int .u64 0, .slice none 0 0, .bool false, .string ⟨#[]⟩] 61)).alloc (.cells #[.slice none 0 0, .bool false, .string ⟨#[]⟩, .int .u64 0, .slice none 0 0, .bool false, .string ⟨#[]⟩] 61)).heap.size = w.heap.size + 2 := by rw [World.size_alloc, World.size_alloc]
  have yt := rtake13 (h.keep0 kA)
  rw [hRV] at yt
  go_enter Tryz.func123, Tryz.ntmps123
  go_wp2_with fail
  generalize ((w.alloc (.cells #[.slice none 0 0, .bool false, .string ⟨#[]⟩, .int .u64 0, .slice none 0 0, .bool false, .string ⟨#[]⟩] 61)).alloc (.cells #[.slice none 0 0, .bool false, .string ⟨#[]⟩, .int .u64 0, .slice none 0 0, .bool false, .string ⟨#[]⟩] 61)) = WB at *
  obtain ⟨g2, hg2⟩ : ∃ g2, w.heap.size = g2 := ⟨_, rfl⟩
  rw [hg2] at q2 q3 z1 hcl ⊢
  obtain ⟨g3, hg3⟩ : ∃ g3, g2 + 1 = g3 := ⟨_, rfl⟩
  rw [hg3] at q3 ⊢
  have n2 : g2 ≠ b := by omega
  have n3 : g3 ≠ b := by omega
  have n23 : g2 ≠ g3 := by omega
  refine yt.mono ?_
  rintro e w1 ⟨vo, vc, rfl, c1, hE1, hF1, k1⟩
  replace c1 : Cur w1 b s b1 E1 := c1
  replace hE1 : EnsAt w1 vo KK.c := hE1
  dsimp only
  have K1 : Keep1 b w w1 := (kA.any (R := fun i => i = b)).trans k1
  have q2a := q2.keep k1 n2
  have q3a := q3.keep k1 n3
  have HF : Hid (∀ g off m, vo = some ⟨g, off, m⟩ → g2 + 2 ≤ g) := fun g off m e => by have := hF1 g off m e; omega
  have HZ : Hid (g2 + 2 ≤ w1.heap.size) := by show _ ≤ _; have := k1.size; omega
  have HG2 : Hid (w.heap.size = g2) := hg2
  have HG3 : Hid (g2 + 1 = g3) := hg3
  clear yt kA k1 q2 q3 hF1 z1 hcl hg2 hg3
  have kS1 : Keep1 g3 w1 ((((w1.setCell ⟨g3, 0, none⟩ (.slice vo KK.c.length vc)).setCell ⟨g3, 1, none⟩ (.bool KK.d)).setCell ⟨g3, 2, none⟩ (.string KK.x.a)).setCell ⟨g3, 3, none⟩ (.int .u64 (KK.x.n : Int))) := (((((Keep.refl _ w1).set1 _ _).set1 _ _).set1 _ _).set1 _ _)
  have cS1 := c1.keep kS1 (fun e => n3 e.symm)
  have q2S1 := q2a.keep kS1 n23
  have q3S1 := ((((q3a.set0 (.slice vo KK.c.length vc)).set1 (.bool KK.d)).set2 (.string KK.x.a)).set3 (.int .u64 (KK.x.n : Int)))
  have hES1 := hE1.keep kS1 (fun g off m e hh => by have := HF.out g off m e; have := HG3.out; omega)
  have KS1 := K1.step1 kS1 (by have := HG2.out; have := HG3.out; omega)
  have HZ1 : Hid (g2 + 2 ≤ ((((w1.setCell ⟨g3, 0, none⟩ (.slice vo KK.c.length vc)).setCell ⟨g3, 1, none⟩ (.bool KK.d)).setCell ⟨g3, 2, none⟩ (.string KK.x.a)).setCell ⟨g3, 3, none⟩ (.int .u64 (KK.x.n : Int))).heap.size) := by show _ ≤ _; have := kS1.size; have := HZ.out; omega
  obtain ⟨e0, e1, e2, e3, e4⟩ := c1.cells
  obtain ⟨u0, u1, u2, u3, u4, u5, u6, f0, f1, f2, f3, f4, f5, f6⟩ := q2a.cells
  obtain ⟨t0, t1, t2, t3, t4, t5, t6, h0, h1, h2, h3, h4, h5, h6⟩ := q3a.cells
  obtain ⟨xe0, xe1, xe2, xe3, xe4⟩ := cS1.cells
  obtain ⟨xu0, xu1, xu2, xu3, xu4, xu5, xu6, xf0, xf1, xf2, xf3, xf4, xf5, xf6⟩ := q2S1.cells
  obtain ⟨xt0, xt1, xt2, xt3, xt4, xt5, xt6, xh0, xh1, xh2, xh3, xh4, xh5, xh6⟩ := q3S1.cells
  by_cases d0 : E1 = 0
  case neg =>
    have HV : Hid (RR = (zSb, b1, E1)) := by
      show _ = _
      rw [← HR.out]
      by_cases hx : x = 0
      · subst hx
        rw [rX_yes] at hRV ⊢
        rw [sib_1 (by rw [hRV]; exact d0), hRV]
      · rw [rX_no hx] at hRV ⊢
        cases hRV
        rfl
    have e0 : (E1 != 0) = true := by simpa using d0
    have e1 : (E1 == 0) = false := beq_eq_false_iff_ne.2 d0
    clear HM
    go_wp2
    refine bodyPost_ret (retSb rfl _ _ _ rfl (q2S1.put (.slice none 0 0) (.bool false) (.string ⟨#[]⟩) (.int .u64 0) (.slice none 0 0) (.bool false) (.string ⟨#[]⟩))) rfl ?_
    exact HE.out _ _ _ _ HV.out rfl (cS1.keep (put7_keep _ _ _ _ _ _ _ _ _) (fun e => n2 e.symm)) (KS1.step1 (put7_keep _ _ _ _ _ _ _ _ _) (by have := HG2.out; omega))
  subst d0
  have hx : x = 0 := by
    refine Decidable.byContradiction fun hx => ?_
    rw [rX_no hx] at hRV
    exact hx (congrArg (fun q : Ck × Int × Int => q.2.2) hRV)
  subst hx
  have hK : rClk s a = (KK, b1, 0) := by rw [← rX_yes zCk rClk s a]; exact hRV
  have HC : Hid (RR = rSib s a) := by
    have e := HR.out
    rw [rX_yes] at e
    exact e.symm
  clear hRV HR
  obtain ⟨RP, hRP⟩ : ∃ RP, rPrs s b1 = RP := ⟨_, rfl⟩
  obtain ⟨PP, b2, E2⟩ := RP
  go_wp2_with fail
  clear e0 e1 e2 e3 e4 u0 u1 u2 u3 u4 u5 u6 f0 f1 f2 f3 f4 f5 f6 t0 t1 t2 t3 t4 t5 t6 h0 h1 h2 h3 h4 h5 h6
  clear xe0 xe1 xe2 xe3 xe4 xu0 xu1 xu2 xu3 xu4 xu5 xu6 xf0 xf1 xf2 xf3 xf4 xf5 xf6 xt0 xt1 xt2 xt3 xt4 xt5 xt6 xh0 xh1 xh2 xh3 xh4 xh5 xh6
  clear kS1 c1 q2a q3a K1 hE1 HZ
  have HZ := HZ1
  clear HZ1
  generalize ((((w1.setCell ⟨g3, 0, none⟩ (.slice vo KK.c.length vc)).setCell ⟨g3, 1, none⟩ (.bool KK.d)).setCell ⟨g3, 2, none⟩ (.string KK.x.a)).setCell ⟨g3, 3, none⟩ (.int .u64 (KK.x.n : Int))) = V1 at *
  have yp := rtake14 cS1
  rw [rX_yes, hRP] at yp
  refine (yp).mono ?_
  rintro e w3 ⟨po, pc, rfl, c3, hP1, hFP, hCP, k3⟩
  have q2b3 := q2S1.keep k3 n2
  have q3b3 := q3S1.keep k3 n3
  have hEb3 := hES1.keep k3 (fun g off mm e hh => by have := HF.out g off mm e; have := HB.out; have := HG2.out; omega)
  have Kb3 := KS1.trans k3
  have HZb : Hid (g2 + 2 ≤ w3.heap.size) := by show _ ≤ _; have := k3.size; have := HZ.out; omega
  have HFP : Hid (∀ g off m, po = some ⟨g, off, m⟩ → g2 + 2 ≤ g) := fun g off m e => by have := hFP g off m e; have := HZ.out; omega
  clear hFP
  clear k3 cS1 q2S1 q3S1 KS1 hES1 HZ
  have HZ := HZb
  clear HZb
  clear yp
  replace c3 : Cur w3 b s b2 E2 := c3
  replace hP1 : PrsAt w3 po PP := hP1
  have HCP : Hid (CapP PP pc) := hCP
  clear hCP
  dsimp only
  have kS4 : Keep1 g3 w3 (w3.setCell ⟨g3, 4, none⟩ (.slice po PP.length pc)) := ((Keep.refl _ w3).set1 _ _)
  have cS4 := c3.keep kS4 (fun e => n3 e.symm)
  have q2S4 := q2b3.keep kS4 n23
  have q3S4 := (q3b3.set4 (.slice po PP.length pc))
  have hES4 := hEb3.keep kS4 (fun g off m e hh => by have := HF.out g off m e; have := HG3.out; omega)
  have hPS4 := hP1.keep kS4 (fun g off m e hh => by have := HFP.out g off m e; have := HG3.out; omega)
  have KS4 := Kb3.step1 kS4 (by have := HG2.out; have := HG3.out; omega)
  have HZ4 : Hid (g2 + 2 ≤ (w3.setCell ⟨g3, 4, none⟩ (.slice po PP.length pc)).heap.size) := by show _ ≤ _; have := kS4.size; have := HZ.out; omega
  obtain ⟨e0, e1, e2, e3, e4⟩ := c3.cells
  obtain ⟨u0, u1, u2, u3, u4, u5, u6, f0, f1, f2, f3, f4, f5, f6⟩ := q2b3.cells
  obtain ⟨t0, t1, t2, t3, t4, t5, t6, h0, h1, h2, h3, h4, h5, h6⟩ := q3b3.cells
  obtain ⟨xe0, xe1, xe2, xe3, xe4⟩ := cS4.cells
  obtain ⟨xu0, xu1, xu2, xu3, xu4, xu5, xu6, xf0, xf1, xf2, xf3, xf4, xf5, xf6⟩ := q2S4.cells
  obtain ⟨xt0, xt1, xt2, xt3, xt4, xt5, xt6, xh0, xh1, xh2, xh3, xh4, xh5, xh6⟩ := q3S4.cells
  by_cases d1 : E2 = 0
  case neg =>
    have HV : Hid (RR = (zSb, b2, E2)) := by
      show _ = _
      rw [HC.out, sib_2 hK (by rw [hRP]; exact d1), hRP]
    have e0 : (E2 != 0) = true := by simpa using d1
    have e1 : (E2 == 0) = false := beq_eq_false_iff_ne.2 d1
    clear HM
    go_wp2
    refine bodyPost_ret (retSb rfl _ _ _ rfl (q2S4.put (.slice none 0 0) (.bool false) (.string ⟨#[]⟩) (.int .u64 0) (.slice none 0 0) (.bool false) (.string ⟨#[]⟩))) rfl ?_
    exact HE.out _ _ _ _ HV.out rfl (cS4.keep (put7_keep _ _ _ _ _ _ _ _ _) (fun e => n2 e.symm)) (KS4.step1 (put7_keep _ _ _ _ _ _ _ _ _) (by have := HG2.out; omega))
  subst d1
  obtain ⟨GB, hGB⟩ : ∃ z, gSet s b2 0 = z := ⟨_, rfl⟩
  obtain ⟨GA, hGA⟩ : ∃ z, cAt s b2 0 1 = z := ⟨_, rfl⟩
  obtain ⟨GE, hGE⟩ : ∃ z, gErr s b2 0 = z := ⟨_, rfl⟩
  go_wp2_with fail
  clear e0 e1 e2 e3 e4 u0 u1 u2 u3 u4 u5 u6 f0 f1 f2 f3 f4 f5 f6 t0 t1 t2 t3 t4 t5 t6 h0 h1 h2 h3 h4 h5 h6
  clear xe0 xe1 xe2 xe3 xe4 xu0 xu1 xu2 xu3 xu4 xu5 xu6 xf0 xf1 xf2 xf3 xf4 xf5 xf6 xt0 xt1 xt2 xt3 xt4 xt5 xt6 xh0 xh1 xh2 xh3 xh4 xh5 xh6
  clear kS4 c3 q2b3 q3b3 Kb3 hEb3 hP1 HZ
  have HZ := HZ4
  clear HZ4
  generalize (w3.setCell ⟨g3, 4, none⟩ (.slice po PP.length pc)) = V4 at *
  refine (rflag_any cS4).mono ?_
  rintro e w6 ⟨rfl, c6, k6⟩
  have q2b6 := q2S4.keep k6 n2
  have q3b6 := q3S4.keep k6 n3
  have hEb6 := hES4.keep k6 (fun g off mm e hh => by have := HF.out g off mm e; have := HB.out; have := HG2.out; omega)
  have hPb6 := hPS4.keep k6 (fun g off mm e hh => by have := HFP.out g off mm e; have := HB.out; have := HG2.out; omega)
  have Kb6 := KS4.trans k6
  have HZb : Hid (g2 + 2 ≤ w6.heap.size) := by show _ ≤ _; have := k6.size; have := HZ.out; omega
  clear k6 cS4 q2S4 q3S4 KS4 hES4 hPS4 HZ
  have HZ := HZb
  clear HZb
  rw [hGB]
  rw [hGA, hGE] at c6
  have kS7 : Keep1 g3 w6 (w6.setCell ⟨g3, 5, none⟩ (.bool GB)) := ((Keep.refl _ w6).set1 _ _)
  have cS7 := c6.keep kS7 (fun e => n3 e.symm)
  have q2S7 := q2b6.keep kS7 n23
  have q3S7 := (q3b6.set5 (.bool GB))
  have hES7 := hEb6.keep kS7 (fun g off m e hh => by have := HF.out g off m e; have := HG3.out; omega)
  have hPS7 := hPb6.keep kS7 (fun g off m e hh => by have := HFP.out g off m e; have := HG3.out; omega)
  have KS7 := Kb6.step1 kS7 (by have := HG2.out; have := HG3.out; omega)
  have HZ7 : Hid (g2 + 2 ≤ (w6.setCell ⟨g3, 5, none⟩ (.bool GB)).heap.size) := by show _ ≤ _; have := kS7.size; have := HZ.out; omega
  obtain ⟨e0, e1, e2, e3, e4⟩ := c6.cells
  obtain ⟨u0, u1, u2, u3, u4, u5, u6, f0, f1, f2, f3, f4, f5, f6⟩ := q2b6.cells
  obtain ⟨t0, t1, t2, t3, t4, t5, t6, h0, h1, h2, h3, h4, h5, h6⟩ := q3b6.cells
  obtain ⟨xe0, xe1, xe2, xe3, xe4⟩ := cS7.cells
  obtain ⟨xu0, xu1, xu2, xu3, xu4, xu5, xu6, xf0, xf1, xf2, xf3, xf4, xf5, xf6⟩ := q2S7.cells
  obtain ⟨xt0, xt1, xt2, xt3, xt4, xt5, xt6, xh0, xh1, xh2, xh3, xh4, xh5, xh6⟩ := q3S7.cells
  by_cases d2 : GE = 0
  case neg =>
    have HV : Hid (RR = (zSb, GA, GE)) := by
      show _ = _
      rw [HC.out, sib_3 hK hRP (by rw [hGE]; exact d2), hGA, hGE]
    have e0 : (GE != 0) = true := by simpa using d2
    have e1 : (GE == 0) = false := beq_eq_false_iff_ne.2 d2
    clear HM
    go_wp2
    refine bodyPost_ret (retSb rfl _ _ _ rfl (q2S7.put (.slice none 0 0) (.bool false) (.string ⟨#[]⟩) (.int .u64 0) (.slice none 0 0) (.bool false) (.string ⟨#[]⟩))) rfl ?_
    exact HE.out _ _ _ _ HV.out rfl (cS7.keep (put7_keep _ _ _ _ _ _ _ _ _) (fun e => n2 e.symm)) (KS7.step1 (put7_keep _ _ _ _ _ _ _ _ _) (by have := HG2.out; omega))
  subst d2
  obtain ⟨BT, hBT⟩ : ∃ z, bTxt s GA 0 32768 = z := ⟨_, rfl⟩
  obtain ⟨BA, hBA⟩ : ∃ z, bAt s GA 0 32768 = z := ⟨_, rfl⟩
  obtain ⟨BE, hBE⟩ : ∃ z, bErr s GA 0 32768 = z := ⟨_, rfl⟩
  go_wp2_with fail
  clear e0 e1 e2 e3 e4 u0 u1 u2 u3 u4 u5 u6 f0 f1 f2 f3 f4 f5 f6 t0 t1 t2 t3 t4 t5 t6 h0 h1 h2 h3 h4 h5 h6
  clear xe0 xe1 xe2 xe3 xe4 xu0 xu1 xu2 xu3 xu4 xu5 xu6 xf0 xf1 xf2 xf3 xf4 xf5 xf6 xt0 xt1 xt2 xt3 xt4 xt5 xt6 xh0 xh1 xh2 xh3 xh4 xh5 xh6
  clear kS7 c6 q2b6 q3b6 Kb6 hEb6 hPb6 HZ
  have HZ := HZ7
  clear HZ7
  generalize (w6.setCell ⟨g3, 5, none⟩ (.bool GB)) = V7 at *
  refine (rblob_any 32768 (by decide) cS7).mono ?_
  rintro e w9 ⟨rfl, c9, k9⟩
  have q2b9 := q2S7.keep k9 n2
  have q3b9 := q3S7.keep k9 n3
  have hEb9 := hES7.keep k9 (fun g off mm e hh => by have := HF.out g off mm e; have := HB.out; have := HG2.out; omega)
  have hPb9 := hPS7.keep k9 (fun g off mm e hh => by have := HFP.out g off mm e; have := HB.out; have := HG2.out; omega)
  have Kb9 := KS7.trans k9
  have HZb : Hid (g2 + 2 ≤ w9.heap.size) := by show _ ≤ _; have := k9.size; have := HZ.out; omega
  clear k9 cS7 q2S7 q3S7 KS7 hES7 hPS7 HZ
  have HZ := HZb
  clear HZb
  rw [hBT]
  rw [hBA, hBE] at c9
  have kS10 : Keep1 g3 w9 (w9.setCell ⟨g3, 6, none⟩ (.string BT)) := ((Keep.refl _ w9).set1 _ _)
  have cS10 := c9.keep kS10 (fun e => n3 e.symm)
  have q2S10 := q2b9.keep kS10 n23
  have q3S10 := (q3b9.set6 (.string BT))
  have hES10 := hEb9.keep kS10 (fun g off m e hh => by have := HF.out g off m e; have := HG3.out; omega)
  have hPS10 := hPb9.keep kS10 (fun g off m e hh => by have := HFP.out g off m e; have := HG3.out; omega)
  have KS10 := Kb9.step1 kS10 (by have := HG2.out; have := HG3.out; omega)
  have HZ10 : Hid (g2 + 2 ≤ (w9.setCell ⟨g3, 6, none⟩ (.string BT)).heap.size) := by show _ ≤ _; have := kS10.size; have := HZ.out; omega
  obtain ⟨e0, e1, e2, e3, e4⟩ := c9.cells
  obtain ⟨u0, u1, u2, u3, u4, u5, u6, f0, f1, f2, f3, f4, f5, f6⟩ := q2b9.cells
  obtain ⟨t0, t1, t2, t3, t4, t5, t6, h0, h1, h2, h3, h4, h5, h6⟩ := q3b9.cells
  obtain ⟨xe0, xe1, xe2, xe3, xe4⟩ := cS10.cells
  obtain ⟨xu0, xu1, xu2, xu3, xu4, xu5, xu6, xf0, xf1, xf2, xf3, xf4, xf5, xf6⟩ := q2S10.cells
  obtain ⟨xt0, xt1, xt2, xt3, xt4, xt5, xt6, xh0, xh1, xh2, xh3, xh4, xh5, xh6⟩ := q3S10.cells
  by_cases d3 : BE = 0
  case neg =>
    have HV : Hid (RR = (zSb, BA, BE)) := by
      show _ = _
      rw [HC.out, sib_4 hK hRP hGE (by rw [hGA, hBE]; exact d3), hGA, hBA, hBE]
    have e0 : (BE != 0) = true := by simpa using d3
    clear HM
    go_wp2
    refine bodyPost_ret (retSb rfl _ _ _ rfl (q2S10.put (.slice none 0 0) (.bool false) (.string ⟨#[]⟩) (.int .u64 0) (.slice none 0 0) (.bool false) (.string ⟨#[]⟩))) rfl ?_
    exact HE.out _ _ _ _ HV.out rfl (cS10.keep (put7_keep _ _ _ _ _ _ _ _ _) (fun e => n2 e.symm)) (KS10.step1 (put7_keep _ _ _ _ _ _ _ _ _) (by have := HG2.out; omega))
  subst d3
  have HV : Hid (RR = (⟨KK, PP, GB, BT⟩, BA, 0)) := by
    show _ = _
    rw [HC.out, sib_5 hK hRP hGE (by rw [hGA, hBE]), hGA, hBA, hBT, hGB]
  clear HE
  go_wp2
  refine bodyPost_ret (retSb rfl _ _ _ rfl (q2S10.put (.slice vo KK.c.length vc) (.bool KK.d) (.string KK.x.a) (.int .u64 (KK.x.n : Int)) (.slice po PP.length pc) (.bool GB) (.string BT))) rfl ?_
  exact HM.out _ _ _ _ KK PP GB BT vo po vc pc HV.out rfl (cS10.keep (put7_keep _ _ _ _ _ _ _ _ _) (fun e => n2 e.symm)) (hES10.keep (put7_keep _ _ _ _ _ _ _ _ _) (fun g off m e hh => by have := HF.out g off m e; omega)) (hPS10.keep (put7_keep _ _ _ _ _ _ _ _ _) (fun g off m e hh => by have := HFP.out g off m e; omega)) HCP.out (fun g off m e => by have := HF.out g off m e; have := HG2.out; omega) (fun g off m e => by have := HFP.out g off m e; have := HG2.out; omega) (KS10.step1 (put7_keep _ _ _ _ _ _ _ _ _) (by have := HG2.out; omega))
end Go.Proofs.YtoefibkhlhmlfaaGreat
namespace Go.Proofs.YtoefibkhlhmlfaaGreat
open Go.RowKit
theorem DAt.idx {w : World} {g : Nat} {v0 v1 : Value} (h : DAt w g v0 v1) {o : Nat} {u : Value} (hc : w.cell? ⟨g, o, none⟩ = some u) : (o = 0 ∧ u = v0) ∨ (o = 1 ∧ u = v1) := by
  obtain ⟨ty, hk⟩ := h.blk
  match o, hc with
  | 0, hc => simp [World.cell?, hk] at hc; exact .inl ⟨rfl, hc.symm⟩
  | 1, hc => simp [World.cell?, hk] at hc; exact .inr ⟨rfl, hc.symm⟩
  | o + 2, hc => simp [World.cell?, hk] at hc
theorem ens_beside {w w' : World} {g : Nat} {a : ByteArray} {b : Option Addr} {n c : Nat} (hd : DAt w g (.string a) (.slice b n c)) (K : Keep1 g w w') {ao : Option Addr} {l : List En} (h : EnsAt w ao l) : EnsAt w' ao l := by
  intro i hi
  obtain ⟨bb, off, e, h1, h2⟩ := h i hi
  have hb : ¬ bb = g := by
    intro e2
    subst e2
    rcases hd.idx h2 with ⟨_, e3⟩ | ⟨_, e3⟩
    · cases e3
    · cases e3
  exact ⟨bb, off, e, K.cell h1 hb, K.cell h2 hb⟩
theorem prs_beside {w w' : World} {g : Nat} {a : ByteArray} {b : Option Addr} {n c : Nat} (hd : DAt w g (.string a) (.slice b n c)) (K : Keep1 g w w') {ao : Option Addr} {l : List Pr} (h : PrsAt w ao l) : PrsAt w' ao l := by
  intro i hi
  obtain ⟨bb, off, e, h1, h2⟩ := h i hi
  have hb : ¬ bb = g := by
    intro e2
    subst e2
    rcases hd.idx h2 with ⟨e3, _⟩ | ⟨_, e3⟩
    · omega
    · cases e3
  exact ⟨bb, off, e, K.cell h1 hb, K.cell h2 hb⟩
theorem pls_beside {w w' : World} {g : Nat} {a : ByteArray} {b : Option Addr} {n c : Nat} (hd : DAt w g (.string a) (.slice b n c)) (K : Keep1 g w w') {ao : Option Addr} {L : List Pl} (h : PlsAt w ao L) : PlsAt w' ao L := by
  refine ⟨fun i hi => ?_, fun p hp => ⟨ens_beside hd K (h.ins p hp).ens, prs_beside hd K (h.ins p hp).prs, (h.ins p hp).room⟩⟩
  obtain ⟨bb, off, e, h1⟩ := h.row i hi
  have hb : ¬ bb = g := by
    intro e2
    subst e2
    rcases hd.idx (h1 0 _ rfl) with ⟨_, e3⟩ | ⟨e3, _⟩
    · cases e3
    · rcases hd.idx (h1 1 _ rfl) with ⟨e4, _⟩ | ⟨e4, _⟩ <;> omega
  exact ⟨bb, off, e, fun j u hu => K.cell (h1 j u hu) hb⟩
end Go.Proofs.YtoefibkhlhmlfaaGreat
namespace Go.Proofs.YtoefibkhlhmlfaaGreat
open Go.RowKit
theorem prs_old {w : World} {ao : Option Addr} {l : List Pr} (h : PrsAt w ao l) (hl : 0 < l.length) : ∀ g off m, ao = some ⟨g, off, m⟩ → g < w.heap.size := by
  intro g off m e
  obtain ⟨b, o, e', h1, _⟩ := h 0 hl
  rw [e] at e'
  cases e'
  exact World.block_lt_of_cell? w _ h1
end Go.Proofs.YtoefibkhlhmlfaaGreat
