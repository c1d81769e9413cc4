/-
  What this seat's claims lean on of the texts SbB, OlE.
  Conditions: as each theorem states.
-/
import Derived.WalkKit
import Derived.ProofKit
import Derived.Below
import Derived.Deep.Draws
import Derived.Deep.RegionHeld
import Derived.Test.YtoefibkhlhmlfaaGreatChecked
import Derived.OpenShut
import Derived.ShutString
import Derived.WalkSpells
import Derived.WalkLawsBesides
import Derived.Deep.QuietTactic
import Derived.BigQuiet
import Derived.Laws.Bits64b
import Derived.PlainAid
import Derived.Lib.AppendStr
import Derived.Deep.AppendLies
import Derived.Laws.IdiomStrings
import Derived.Laws.BytesArg
import Derived.Deep.RegionWith
import Derived.Laws.AppendOwn
import Derived.Deep.DeepAppendWide
import Derived.Deep.Upon
import Derived.Laws.Rows
import Derived.Deep.Slices
import Derived.Test.YtoefibkhlhmlfaaGreatZ30
import Derived.Test.YtoefibkhlhmlfaaGreatZ27
import Derived.Test.YtoefibkhlhmlfaaGreatZ17
import Derived.Maps.AppendAt
namespace Go.Proofs.YtoefibkhlhmlfaaGreat
open Go.RowKit
theorem blob_bad15 {s : ByteArray} {a x : Int} (m : Int) (h : x ≠ 0) : bAt s a x m = a ∧ bErr s a x m = x := by
  have h1 : kErr s a x m = x := by unfold kErr; rw [tErr_err h, if_neg (fun e => h e.1)]
  unfold bAt bErr
  rw [tAt_err h, h1, cAt_bad _ h, cErr_bad _ h]
  exact ⟨rfl, rfl⟩
theorem chain15 {s : ByteArray} {a x : Int} {KK : Ck} {b1 E1 : Int} {PP : List Pr} {b2 E2 : Int} {GB : Bool} {GA GE : Int} {BT : ByteArray} {BA BE : Int} (h1 : rX zCk rClk s a x = (KK, b1, E1)) (h2 : rX [] rPrs s b1 E1 = (PP, b2, E2))
    (h3 : gSet s b2 E2 = GB) (h4 : cAt s b2 E2 1 = GA) (h5 : gErr s b2 E2 = GE) (h6 : bTxt s GA GE 32768 = BT) (h7 : bAt s GA GE 32768 = BA) (h8 : bErr s GA GE 32768 = BE) :
    (BE = 0 → rX zSb rSib s a x = (⟨KK, PP, GB, BT⟩, BA, 0)) ∧ (BE ≠ 0 → rX zSb rSib s a x = (zSb, BA, BE)) := by
  by_cases d1 : E1 = 0
  case neg =>
    rw [rX_no d1] at h2
    have h2 : (([] : List Pr), b1, E1) = (PP, b2, E2) := h2
    cases h2
    obtain ⟨_, g1, g2⟩ := set_err (s := s) (a := b1) d1
    rw [g2] at h4
    rw [g1] at h5
    subst h4 h5
    obtain ⟨g3, g4⟩ := blob_bad15 (s := s) (a := b1) 32768 d1
    rw [g3] at h7
    rw [g4] at h8
    subst h7 h8
    refine ⟨fun e => absurd e d1, fun _ => ?_⟩
    by_cases hx : x = 0
    · subst hx
      rw [rX_yes] at h1 ⊢
      rw [sib_1 (by rw [h1]; exact d1), h1]
    · rw [rX_no hx] at h1 ⊢
      cases h1
      rfl
  subst d1
  have hx : x = 0 := by
    refine Decidable.byContradiction fun hx => ?_
    rw [rX_no hx] at h1
    exact hx (congrArg (fun q : Ck × Int × Int => q.2.2) h1)
  subst hx
  rw [rX_yes] at h1 h2
  rw [rX_yes]
  by_cases d2 : E2 = 0
  case neg =>
    obtain ⟨_, g1, g2⟩ := set_err (s := s) (a := b2) d2
    rw [g2] at h4
    rw [g1] at h5
    subst h4 h5
    obtain ⟨g3, g4⟩ := blob_bad15 (s := s) (a := b2) 32768 d2
    rw [g3] at h7
    rw [g4] at h8
    subst h7 h8
    refine ⟨fun e => absurd e d2, fun _ => ?_⟩
    rw [sib_2 h1 (by rw [h2]; exact d2), h2]
  subst d2
  by_cases d3 : GE = 0
  case neg =>
    obtain ⟨g3, g4⟩ := blob_bad15 (s := s) (a := GA) 32768 d3
    rw [g3] at h7
    rw [g4] at h8
    subst h7 h8
    refine ⟨fun e => absurd e d3, fun _ => ?_⟩
    rw [sib_3 h1 h2 (by rw [h5]; exact d3), h4, h5]
  subst d3
  refine ⟨fun e => ?_, fun e => ?_⟩
  · subst e
    rw [sib_5 h1 h2 h5 (by rw [h4]; exact h8), h4, h6, h7, h3]
  · rw [sib_4 h1 h2 h5 (by rw [h4, h8]; exact e), h4, h7, h8]
set_option maxRecDepth 100000 in
set_option maxHeartbeats 8000000 in
theorem take15 {w : World} {b : Nat} {s : ByteArray} {a x : Int} (h : Cur w b s a x) :
    Calls Tryz.prog 78 #[ptr b] w (RTakeS (rX zSb rSib s a x) s b w) := by
  have HE : Hid (∀ (W : World) (e : Ending) (A E : Int), rX zSb rSib s a x = (zSb, A, E) → e = .returned (.agg #[.slice none 0 0, .bool false, .string ⟨#[]⟩, .int .u64 0, .slice none 0 0, .bool false, .string ⟨#[]⟩]) → Cur W b s A E → Keep1 b w W → RTakeS (rX zSb rSib s a x) s b w e W) := fun _ _ _ _ h1 h2 h3 h4 => RTakeS.bare h1 h2 h3 h4
  have HM : Hid (∀ (W : World) (e : Ending) (A E : Int) (KK : Ck) (PP : List Pr) (GB : Bool) (BT : ByteArray) (vo po : Option Addr) (vc pc : Nat), rX zSb rSib s a x = (⟨KK, PP, GB, BT⟩, A, E) → e = .returned (.agg #[.slice vo KK.c.length vc, .bool KK.d, .string KK.x.a, .int .u64 (KK.x.n : Int), .slice po PP.length pc, .bool GB, .string BT]) → Cur W b s A E → EnsAt W vo KK.c → PrsAt W po PP → CapP PP pc → (∀ g off m, vo = some ⟨g, off, m⟩ → w.heap.size ≤ g) → (∀ g off m, po = some ⟨g, off, m⟩ → w.heap.size ≤ g) → Keep1 b w W → RTakeS (rX zSb rSib s a x) s b w e W) := fun _ _ _ _ _ _ _ _ _ _ _ _ h1 h2 h3 h4 h5 h6 h7 h8 h9 => RTakeS.mk h1 h2 h3 h4 h5 h6 h7 h8 h9
  have HB : Hid (b < w.heap.size) := h.lt
  obtain ⟨RV, hRV⟩ : ∃ RV, rX zCk rClk s a x = RV := ⟨_, rfl⟩
  obtain ⟨KK, b1, E1⟩ := RV
  obtain ⟨RP, hRP⟩ : ∃ RP, rX [] rPrs s b1 E1 = RP := ⟨_, rfl⟩
  obtain ⟨PP, b2, E2⟩ := RP
  obtain ⟨GB, hGB⟩ : ∃ z, gSet s b2 E2 = z := ⟨_, rfl⟩
  obtain ⟨GA, hGA⟩ : ∃ z, cAt s b2 E2 1 = z := ⟨_, rfl⟩
  obtain ⟨GE, hGE⟩ : ∃ z, gErr s b2 E2 = z := ⟨_, rfl⟩
  obtain ⟨BT, hBT⟩ : ∃ z, bTxt s GA GE 32768 = z := ⟨_, rfl⟩
  obtain ⟨BA, hBA⟩ : ∃ z, bAt s GA GE 32768 = z := ⟨_, rfl⟩
  obtain ⟨BE, hBE⟩ : ∃ z, bErr s GA GE 32768 = z := ⟨_, rfl⟩
  obtain ⟨hch1, hch2⟩ := chain15 hRV hRP hGB hGA hGE hBT hBA hBE
  have HV1 : Hid (BE = 0 → rX zSb rSib s a x = (⟨KK, PP, GB, BT⟩, BA, 0)) := hch1
  have HV2 : Hid (BE ≠ 0 → rX zSb rSib s a x = (zSb, BA, BE)) := hch2
  clear hch1 hch2
  generalize rX zSb rSib s a x = RR at *
  have kA : Keep0 w ((w.alloc (.cells #[.slice none 0 0, .bool false, .string ⟨#[]⟩, .int .u64 0, .slice none 0 0, .bool false, .string ⟨#[]⟩] 61)).alloc (.cells #[.slice none 0 0, .bool false, .string ⟨#[]⟩, .int .u64 0, .slice none 0 0, .bool false, .string ⟨#[]⟩] 61)) := ((Keep.refl _ w).alloc _).alloc _
  have q2 : SAt ((w.alloc (.cells #[.slice none 0 0, .bool false, .string ⟨#[]⟩, .int .u64 0, .slice none 0 0, .bool false, .string ⟨#[]⟩] 61)).alloc (.cells #[.slice none 0 0, .bool false, .string ⟨#[]⟩, .int .u64 0, .slice none 0 0, .bool false, .string ⟨#[]⟩] 61)) w.heap.size (.slice none 0 0) (.bool false) (.string ⟨#[]⟩) (.int .u64 0) (.slice none 0 0) (.bool false) (.string ⟨#[]⟩) := (SAt.new w 61 (.slice none 0 0) (.bool false) (.string ⟨#[]⟩) (.int .u64 0) (.slice none 0 0) (.bool false) (.string ⟨#[]⟩)).keep0 ((Keep.refl _ _).alloc _)
  have q3 : SAt ((w.alloc (.cells #[.slice none 0 0, .bool false, .string ⟨#[]⟩, .int .u64 0, .slice none 0 0, .bool false, .string ⟨#[]⟩] 61)).alloc (.cells #[.slice none 0 0, .bool false, .string ⟨#[]⟩, .int .u64 0, .slice none 0 0, .bool false, .string ⟨#[]⟩] 61)) (w.heap.size + 1) (.slice none 0 0) (.bool false) (.string ⟨#[]⟩) (.int .u64 0) (.slice none 0 0) (.bool false) (.string ⟨#[]⟩) := by
    have := SAt.new (w.alloc (.cells #[.slice none 0 0, .bool false, .string ⟨#[]⟩, .int .u64 0, .slice none 0 0, .bool false, .string ⟨#[]⟩] 61)) 61 (.slice none 0 0) (.bool false) (.string ⟨#[]⟩) (.int .u64 0) (.slice none 0 0) (.bool false) (.string ⟨#[]⟩)
    rw [World.size_alloc] at this
    exact this
  have hcl := h.lt
  have z1 : ((w.alloc (.cells #[.slice none 0 0, .bool false, .string ⟨#[]⟩, .int .u64 0, .slice none 0 0, .bool false, .string ⟨#[]⟩] 61)).alloc (.cells #[.slice none 0 0, .bool false, .string ⟨#[]⟩, .int .u64 0, .slice none 0 0, .bool false, .string ⟨#[]⟩] 61)).heap.size = w.heap.size + 2 := by rw [World.size_alloc, World.size_alloc]
  have yt := take13 (h.keep0 kA)
  rw [hRV] at yt
  have yp := fun W (h : Cur W b s b1 E1) => take14 h
  rw [hRP] at yp
  have yg := fun W (h : Cur W b s b2 E2) => flag6_any h
  rw [hGB, hGA, hGE] at yg
  have yb := fun W (h : Cur W b s GA GE) => blob6_any 32768 (by decide) h
  rw [hBT, hBA, hBE] at yb
  clear hRV hRP hGB hGA hGE hBT hBA hBE
  obtain ⟨u0, u1, u2, u3, u4, u5, u6, f0, f1, f2, f3, f4, f5, f6⟩ := q2.cells
  obtain ⟨t0, t1, t2, t3, t4, t5, t6, h0, h1, h2, h3, h4, h5, h6⟩ := q3.cells
  go_enter Tryz.func78, Tryz.ntmps78
  go_wp2_with fail
  generalize ((w.alloc (.cells #[.slice none 0 0, .bool false, .string ⟨#[]⟩, .int .u64 0, .slice none 0 0, .bool false, .string ⟨#[]⟩] 61)).alloc (.cells #[.slice none 0 0, .bool false, .string ⟨#[]⟩, .int .u64 0, .slice none 0 0, .bool false, .string ⟨#[]⟩] 61)) = WB at *
  obtain ⟨g2, hg2⟩ : ∃ g2, w.heap.size = g2 := ⟨_, rfl⟩
  rw [hg2] at q2 q3 z1 hcl ⊢
  obtain ⟨g3, hg3⟩ : ∃ g3, g2 + 1 = g3 := ⟨_, rfl⟩
  rw [hg3] at q3 ⊢
  have n2 : g2 ≠ b := by omega
  have n3 : g3 ≠ b := by omega
  have n23 : g2 ≠ g3 := by omega
  refine yt.mono ?_
  rintro e w1 ⟨vo, vc, rfl, c1, hE1, hF1, k1⟩
  replace c1 : Cur w1 b s b1 E1 := c1
  replace hE1 : EnsAt w1 vo KK.c := hE1
  dsimp only
  have K1 : Keep1 b w w1 := (kA.any (R := fun i => i = b)).trans k1
  have q2a := q2.keep k1 n2
  have q3a := q3.keep k1 n3
  have HF : Hid (∀ g off m, vo = some ⟨g, off, m⟩ → g2 + 2 ≤ g) := fun g off m e => by have := hF1 g off m e; omega
  have HZ : Hid (g2 + 2 ≤ w1.heap.size) := by show _ ≤ _; have := k1.size; omega
  have HG2 : Hid (w.heap.size = g2) := hg2
  have HG3 : Hid (g2 + 1 = g3) := hg3
  clear yt kA k1 q2 q3 hF1 z1 hcl hg2 hg3 h u0 u1 u2 u3 u4 u5 u6 f0 f1 f2 f3 f4 f5 f6 t0 t1 t2 t3 t4 t5 t6 h0 h1 h2 h3 h4 h5 h6
  have kS1 : Keep1 g3 w1 ((((w1.setCell ⟨g3, 0, none⟩ (.slice vo KK.c.length vc)).setCell ⟨g3, 1, none⟩ (.bool KK.d)).setCell ⟨g3, 2, none⟩ (.string KK.x.a)).setCell ⟨g3, 3, none⟩ (.int .u64 (KK.x.n : Int))) := (((((Keep.refl _ w1).set1 _ _).set1 _ _).set1 _ _).set1 _ _)
  have cS1 := c1.keep kS1 (fun e => n3 e.symm)
  have q2S1 := q2a.keep kS1 n23
  have q3S1 := ((((q3a.set0 (.slice vo KK.c.length vc)).set1 (.bool KK.d)).set2 (.string KK.x.a)).set3 (.int .u64 (KK.x.n : Int)))
  have hES1 := hE1.keep kS1 (fun g off m e hh => by have := HF.out g off m e; have := HG3.out; omega)
  have KS1 := K1.step1 kS1 (by have := HG2.out; have := HG3.out; omega)
  have HZ1 : Hid (g2 + 2 ≤ ((((w1.setCell ⟨g3, 0, none⟩ (.slice vo KK.c.length vc)).setCell ⟨g3, 1, none⟩ (.bool KK.d)).setCell ⟨g3, 2, none⟩ (.string KK.x.a)).setCell ⟨g3, 3, none⟩ (.int .u64 (KK.x.n : Int))).heap.size) := by show _ ≤ _; have := kS1.size; have := HZ.out; omega
  obtain ⟨u0, u1, u2, u3, u4, u5, u6, f0, f1, f2, f3, f4, f5, f6⟩ := q2a.cells
  obtain ⟨t0, t1, t2, t3, t4, t5, t6, h0, h1, h2, h3, h4, h5, h6⟩ := q3a.cells
  obtain ⟨xu0, xu1, xu2, xu3, xu4, xu5, xu6, xf0, xf1, xf2, xf3, xf4, xf5, xf6⟩ := q2S1.cells
  obtain ⟨xt0, xt1, xt2, xt3, xt4, xt5, xt6, xh0, xh1, xh2, xh3, xh4, xh5, xh6⟩ := q3S1.cells
  go_wp2_with fail
  clear u0 u1 u2 u3 u4 u5 u6 f0 f1 f2 f3 f4 f5 f6 t0 t1 t2 t3 t4 t5 t6 h0 h1 h2 h3 h4 h5 h6
  clear xu0 xu1 xu2 xu3 xu4 xu5 xu6 xf0 xf1 xf2 xf3 xf4 xf5 xf6 xt0 xt1 xt2 xt3 xt4 xt5 xt6 xh0 xh1 xh2 xh3 xh4 xh5 xh6
  clear kS1 c1 q2a q3a K1 hE1 HZ
  have HZ := HZ1
  clear HZ1
  generalize ((((w1.setCell ⟨g3, 0, none⟩ (.slice vo KK.c.length vc)).setCell ⟨g3, 1, none⟩ (.bool KK.d)).setCell ⟨g3, 2, none⟩ (.string KK.x.a)).setCell ⟨g3, 3, none⟩ (.int .u64 (KK.x.n : Int))) = V1 at *
  refine (yp _ cS1).mono ?_
  rintro e w3 ⟨po, pc, rfl, c3, hP1, hFP, hCP, k3⟩
  have q2b3 := q2S1.keep k3 n2
  have q3b3 := q3S1.keep k3 n3
  have hEb3 := hES1.keep k3 (fun g off mm e hh => by have := HF.out g off mm e; have := HB.out; have := HG2.out; omega)
  have Kb3 := KS1.trans k3
  have HZb : Hid (g2 + 2 ≤ w3.heap.size) := by show _ ≤ _; have := k3.size; have := HZ.out; omega
  have HFP : Hid (∀ g off m, po = some ⟨g, off, m⟩ → g2 + 2 ≤ g) := fun g off m e => by have := hFP g off m e; have := HZ.out; omega
  clear hFP
  clear k3 cS1 q2S1 q3S1 KS1 hES1 HZ
  have HZ := HZb
  clear HZb
  clear yp
  replace c3 : Cur w3 b s b2 E2 := c3
  replace hP1 : PrsAt w3 po PP := hP1
  have hPb3 := hP1
  clear hP1
  have HCP : Hid (CapP PP pc) := hCP
  clear hCP
  dsimp only
  have kS4 : Keep1 g3 w3 (w3.setCell ⟨g3, 4, none⟩ (.slice po PP.length pc)) := ((Keep.refl _ w3).set1 _ _)
  have cS4 := c3.keep kS4 (fun e => n3 e.symm)
  have q2S4 := q2b3.keep kS4 n23
  have q3S4 := (q3b3.set4 (.slice po PP.length pc))
  have hES4 := hEb3.keep kS4 (fun g off m e hh => by have := HF.out g off m e; have := HG3.out; omega)
  have hPS4 := hPb3.keep kS4 (fun g off m e hh => by have := HFP.out g off m e; have := HG3.out; omega)
  have KS4 := Kb3.step1 kS4 (by have := HG2.out; have := HG3.out; omega)
  have HZ4 : Hid (g2 + 2 ≤ (w3.setCell ⟨g3, 4, none⟩ (.slice po PP.length pc)).heap.size) := by show _ ≤ _; have := kS4.size; have := HZ.out; omega
  obtain ⟨u0, u1, u2, u3, u4, u5, u6, f0, f1, f2, f3, f4, f5, f6⟩ := q2b3.cells
  obtain ⟨t0, t1, t2, t3, t4, t5, t6, h0, h1, h2, h3, h4, h5, h6⟩ := q3b3.cells
  obtain ⟨xu0, xu1, xu2, xu3, xu4, xu5, xu6, xf0, xf1, xf2, xf3, xf4, xf5, xf6⟩ := q2S4.cells
  obtain ⟨xt0, xt1, xt2, xt3, xt4, xt5, xt6, xh0, xh1, xh2, xh3, xh4, xh5, xh6⟩ := q3S4.cells
  go_wp2_with fail
  clear u0 u1 u2 u3 u4 u5 u6 f0 f1 f2 f3 f4 f5 f6 t0 t1 t2 t3 t4 t5 t6 h0 h1 h2 h3 h4 h5 h6
  clear xu0 xu1 xu2 xu3 xu4 xu5 xu6 xf0 xf1 xf2 xf3 xf4 xf5 xf6 xt0 xt1 xt2 xt3 xt4 xt5 xt6 xh0 xh1 xh2 xh3 xh4 xh5 xh6
  clear kS4 c3 q2b3 q3b3 Kb3 hEb3 hPb3 HZ
  have HZ := HZ4
  clear HZ4
  generalize (w3.setCell ⟨g3, 4, none⟩ (.slice po PP.length pc)) = V4 at *
  refine (yg _ cS4).mono ?_
  rintro e w6 ⟨rfl, c6, k6⟩
  have q2b6 := q2S4.keep k6 n2
  have q3b6 := q3S4.keep k6 n3
  have hEb6 := hES4.keep k6 (fun g off mm e hh => by have := HF.out g off mm e; have := HB.out; have := HG2.out; omega)
  have hPb6 := hPS4.keep k6 (fun g off mm e hh => by have := HFP.out g off mm e; have := HB.out; have := HG2.out; omega)
  have Kb6 := KS4.trans k6
  have HZb : Hid (g2 + 2 ≤ w6.heap.size) := by show _ ≤ _; have := k6.size; have := HZ.out; omega
  clear k6 cS4 q2S4 q3S4 KS4 hES4 hPS4 HZ
  have HZ := HZb
  clear HZb
  clear yg
  have kS7 : Keep1 g3 w6 (w6.setCell ⟨g3, 5, none⟩ (.bool GB)) := ((Keep.refl _ w6).set1 _ _)
  have cS7 := c6.keep kS7 (fun e => n3 e.symm)
  have q2S7 := q2b6.keep kS7 n23
  have q3S7 := (q3b6.set5 (.bool GB))
  have hES7 := hEb6.keep kS7 (fun g off m e hh => by have := HF.out g off m e; have := HG3.out; omega)
  have hPS7 := hPb6.keep kS7 (fun g off m e hh => by have := HFP.out g off m e; have := HG3.out; omega)
  have KS7 := Kb6.step1 kS7 (by have := HG2.out; have := HG3.out; omega)
  have HZ7 : Hid (g2 + 2 ≤ (w6.setCell ⟨g3, 5, none⟩ (.bool GB)).heap.size) := by show _ ≤ _; have := kS7.size; have := HZ.out; omega
  obtain ⟨u0, u1, u2, u3, u4, u5, u6, f0, f1, f2, f3, f4, f5, f6⟩ := q2b6.cells
  obtain ⟨t0, t1, t2, t3, t4, t5, t6, h0, h1, h2, h3, h4, h5, h6⟩ := q3b6.cells
  obtain ⟨xu0, xu1, xu2, xu3, xu4, xu5, xu6, xf0, xf1, xf2, xf3, xf4, xf5, xf6⟩ := q2S7.cells
  obtain ⟨xt0, xt1, xt2, xt3, xt4, xt5, xt6, xh0, xh1, xh2, xh3, xh4, xh5, xh6⟩ := q3S7.cells
  go_wp2_with fail
  clear u0 u1 u2 u3 u4 u5 u6 f0 f1 f2 f3 f4 f5 f6 t0 t1 t2 t3 t4 t5 t6 h0 h1 h2 h3 h4 h5 h6
  clear xu0 xu1 xu2 xu3 xu4 xu5 xu6 xf0 xf1 xf2 xf3 xf4 xf5 xf6 xt0 xt1 xt2 xt3 xt4 xt5 xt6 xh0 xh1 xh2 xh3 xh4 xh5 xh6
  clear kS7 c6 q2b6 q3b6 Kb6 hEb6 hPb6 HZ
  have HZ := HZ7
  clear HZ7
  generalize (w6.setCell ⟨g3, 5, none⟩ (.bool GB)) = V7 at *
  refine (yb _ cS7).mono ?_
  rintro e w9 ⟨rfl, c9, k9⟩
  have q2b9 := q2S7.keep k9 n2
  have q3b9 := q3S7.keep k9 n3
  have hEb9 := hES7.keep k9 (fun g off mm e hh => by have := HF.out g off mm e; have := HB.out; have := HG2.out; omega)
  have hPb9 := hPS7.keep k9 (fun g off mm e hh => by have := HFP.out g off mm e; have := HB.out; have := HG2.out; omega)
  have Kb9 := KS7.trans k9
  have HZb : Hid (g2 + 2 ≤ w9.heap.size) := by show _ ≤ _; have := k9.size; have := HZ.out; omega
  clear k9 cS7 q2S7 q3S7 KS7 hES7 hPS7 HZ
  have HZ := HZb
  clear HZb
  clear yb
  have kS10 : Keep1 g3 w9 (w9.setCell ⟨g3, 6, none⟩ (.string BT)) := ((Keep.refl _ w9).set1 _ _)
  have cS10 := c9.keep kS10 (fun e => n3 e.symm)
  have q2S10 := q2b9.keep kS10 n23
  have q3S10 := (q3b9.set6 (.string BT))
  have hES10 := hEb9.keep kS10 (fun g off m e hh => by have := HF.out g off m e; have := HG3.out; omega)
  have hPS10 := hPb9.keep kS10 (fun g off m e hh => by have := HFP.out g off m e; have := HG3.out; omega)
  have KS10 := Kb9.step1 kS10 (by have := HG2.out; have := HG3.out; omega)
  have HZ10 : Hid (g2 + 2 ≤ (w9.setCell ⟨g3, 6, none⟩ (.string BT)).heap.size) := by show _ ≤ _; have := kS10.size; have := HZ.out; omega
  obtain ⟨u0, u1, u2, u3, u4, u5, u6, f0, f1, f2, f3, f4, f5, f6⟩ := q2b9.cells
  obtain ⟨t0, t1, t2, t3, t4, t5, t6, h0, h1, h2, h3, h4, h5, h6⟩ := q3b9.cells
  obtain ⟨xu0, xu1, xu2, xu3, xu4, xu5, xu6, xf0, xf1, xf2, xf3, xf4, xf5, xf6⟩ := q2S10.cells
  obtain ⟨xt0, xt1, xt2, xt3, xt4, xt5, xt6, xh0, xh1, xh2, xh3, xh4, xh5, xh6⟩ := q3S10.cells
  have ye := err_any cS10
  go_wp2_with fail
  clear u0 u1 u2 u3 u4 u5 u6 f0 f1 f2 f3 f4 f5 f6 t0 t1 t2 t3 t4 t5 t6 h0 h1 h2 h3 h4 h5 h6
  clear xu0 xu1 xu2 xu3 xu4 xu5 xu6 xf0 xf1 xf2 xf3 xf4 xf5 xf6 xt0 xt1 xt2 xt3 xt4 xt5 xt6 xh0 xh1 xh2 xh3 xh4 xh5 xh6
  clear kS10 c9 q2b9 q3b9 Kb9 hEb9 hPb9 HZ
  have HZ := HZ10
  clear HZ10
  generalize (w9.setCell ⟨g3, 6, none⟩ (.string BT)) = V10 at *
  refine ye.mono ?_
  rintro e w10 ⟨rfl, rfl⟩
  clear ye
  obtain ⟨u0, u1, u2, u3, u4, u5, u6, f0, f1, f2, f3, f4, f5, f6⟩ := q2S10.cells
  obtain ⟨t0, t1, t2, t3, t4, t5, t6, h0, h1, h2, h3, h4, h5, h6⟩ := q3S10.cells
  by_cases d3 : BE = 0
  case neg =>
    have HV : Hid (RR = (zSb, BA, BE)) := HV2.out d3
    have e0 : (BE != 0) = true := by simpa using d3
    clear HM
    go_wp2
    refine bodyPost_ret (retSb rfl _ _ _ rfl (q2S10.put (.slice none 0 0) (.bool false) (.string ⟨#[]⟩) (.int .u64 0) (.slice none 0 0) (.bool false) (.string ⟨#[]⟩))) rfl ?_
    exact HE.out _ _ _ _ HV.out rfl (cS10.keep (put7_keep _ _ _ _ _ _ _ _ _) (fun e => n2 e.symm)) (KS10.step1 (put7_keep _ _ _ _ _ _ _ _ _) (by have := HG2.out; omega))
  subst d3
  have HV : Hid (RR = (⟨KK, PP, GB, BT⟩, BA, 0)) := HV1.out rfl
  clear HE
  go_wp2
  refine bodyPost_ret (retSb rfl _ _ _ rfl (q2S10.put (.slice vo KK.c.length vc) (.bool KK.d) (.string KK.x.a) (.int .u64 (KK.x.n : Int)) (.slice po PP.length pc) (.bool GB) (.string BT))) rfl ?_
  exact HM.out _ _ _ _ KK PP GB BT vo po vc pc HV.out rfl (cS10.keep (put7_keep _ _ _ _ _ _ _ _ _) (fun e => n2 e.symm)) (hES10.keep (put7_keep _ _ _ _ _ _ _ _ _) (fun g off m e hh => by have := HF.out g off m e; omega)) (hPS10.keep (put7_keep _ _ _ _ _ _ _ _ _) (fun g off m e hh => by have := HFP.out g off m e; omega)) HCP.out (fun g off m e => by have := HF.out g off m e; have := HG2.out; omega) (fun g off m e => by have := HFP.out g off m e; have := HG2.out; omega) (KS10.step1 (put7_keep _ _ _ _ _ _ _ _ _) (by have := HG2.out; omega))
end Go.Proofs.YtoefibkhlhmlfaaGreat
namespace Go.Proofs.YtoefibkhlhmlfaaGreat
open Go.RowKit
set_option maxRecDepth 100000 in
set_option maxHeartbeats 8000000 in
theorem alike17 (w : World) (key : ByteArray) (ao : Option Addr) (cap : Nat) (L : List Po) (key' : ByteArray) (ao' : Option Addr) (cap' : Nat) (M : List Po) (ok : Ok17 key L) (h1 : L.length ≤ cap) (h2 : cap ≤ maxLen) (hc : PosAt w ao L) (ok' : Ok17 key' M) (h1' : M.length ≤ cap') (h2' : cap' ≤ maxLen) (hc' : PosAt w ao' M) :
    Calls Tryz.prog 21 #[.agg #[.string key, .slice ao L.length cap], .agg #[.string key', .slice ao' M.length cap']] w fun e w' => e = .returned (.bool (olAlike ⟨key, L.map Po.x⟩ ⟨key', M.map Po.x⟩)) ∧ Keep0 w w' := by
  have i1 : (L.length : Int) ≤ 9223372036854775807 := by have := ok.len; omega
  have i2 : (M.length : Int) ≤ 9223372036854775807 := by have := ok'.len; omega
  have k0 : Keep0 w (w.alloc (.cells #[.string key, .slice ao L.length cap] 24)) := (Keep.refl _ w).alloc _
  have kB : Keep0 (w.alloc (.cells #[.string key, .slice ao L.length cap] 24)) ((w.alloc (.cells #[.string key, .slice ao L.length cap] 24)).alloc (.cells #[.string key', .slice ao' M.length cap'] 24)) := (Keep.refl _ _).alloc _
  have kA := k0.trans kB
  have q0 : DAt ((w.alloc (.cells #[.string key, .slice ao L.length cap] 24)).alloc (.cells #[.string key', .slice ao' M.length cap'] 24)) w.heap.size (.string key) (.slice ao L.length cap) := (DAt.new w 24 (.string key) (.slice ao L.length cap)).keep0 kB
  have q1 : DAt ((w.alloc (.cells #[.string key, .slice ao L.length cap] 24)).alloc (.cells #[.string key', .slice ao' M.length cap'] 24)) (w.heap.size + 1) (.string key') (.slice ao' M.length cap') := by
    have := DAt.new (w.alloc (.cells #[.string key, .slice ao L.length cap] 24)) 24 (.string key') (.slice ao' M.length cap')
    rw [World.size_alloc] at this
    exact this
  have ya := check17 ((w.alloc (.cells #[.string key, .slice ao L.length cap] 24)).alloc (.cells #[.string key', .slice ao' M.length cap'] 24)) key ao cap L ok h1 h2 (hc.keep0 kA)
  have yb := fun W (K : Keep0 w W) => check17 W key' ao' cap' M ok' h1' h2' (hc'.keep0 K)
  have yw := fun W (K : Keep0 w W) => within17 W ao cap L ao' cap' M (by have := ok.len; unfold maxLen; omega) (by have := ok'.len; unfold maxLen; omega) ok.s ok'.s (hc.keep0 K) (hc'.keep0 K)
  have el : (L.map Po.x).length = L.length := List.length_map ..
  have em : (M.map Po.x).length = M.length := List.length_map ..
  have hg : olAlike ⟨key, L.map Po.x⟩ ⟨key', M.map Po.x⟩ = (decide (olCheck ⟨key, L.map Po.x⟩ = 0) && (decide (olCheck ⟨key', M.map Po.x⟩ = 0) && (decide (key = key') && (decide (L.length = M.length) && allOnce (L.map Po.x) (M.map Po.x))))) := by
    rw [← el, ← em]
    rfl
  rw [hg]
  clear hg k0 kB el em hc hc' ok ok' h1 h2 h1' h2'
  by_cases c1 : olCheck ⟨key, L.map Po.x⟩ = 0
  case neg =>
    rw [decide_eq_false c1, Bool.false_and]
    have e1 : (olCheck ⟨key, L.map Po.x⟩ != 0) = true := by simpa using c1
    generalize olCheck ⟨key, L.map Po.x⟩ = C at *
    go_enter Tryz.func21, Tryz.ntmps21
    go_wp2_with fail
    generalize ((w.alloc (.cells #[.string key, .slice ao L.length cap] 24)).alloc (.cells #[.string key', .slice ao' M.length cap'] 24)) = W0 at *
    generalize w.heap.size = g at *
    obtain ⟨x0, x1, -⟩ := q0.cells
    obtain ⟨z0, z1, -⟩ := q1.cells
    refine ya.mono ?_
    rintro e w1 ⟨rfl, k1⟩
    have K1 := kA.trans k1
    replace q0 := q0.keep0 k1
    replace q1 := q1.keep0 k1
    have yb := yb _ K1
    clear ya k1 kA x0 x1 z0 z1
    obtain ⟨x0, x1, -⟩ := q0.cells
    obtain ⟨z0, z1, -⟩ := q1.cells
    go_wp2
    go_ret
    exact ⟨rfl, K1⟩
  rw [c1] at ya
  rw [decide_eq_true c1, Bool.true_and]
  clear c1
  by_cases c2 : olCheck ⟨key', M.map Po.x⟩ = 0
  case neg =>
    rw [decide_eq_false c2, Bool.false_and]
    have e1 : (olCheck ⟨key', M.map Po.x⟩ != 0) = true := by simpa using c2
    generalize olCheck ⟨key', M.map Po.x⟩ = C at *
    go_enter Tryz.func21, Tryz.ntmps21
    go_wp2_with fail
    generalize ((w.alloc (.cells #[.string key, .slice ao L.length cap] 24)).alloc (.cells #[.string key', .slice ao' M.length cap'] 24)) = W0 at *
    generalize w.heap.size = g at *
    obtain ⟨x0, x1, -⟩ := q0.cells
    obtain ⟨z0, z1, -⟩ := q1.cells
    refine ya.mono ?_
    rintro e w1 ⟨rfl, k1⟩
    have K1 := kA.trans k1
    replace q0 := q0.keep0 k1
    replace q1 := q1.keep0 k1
    have yb := yb _ K1
    clear ya k1 kA x0 x1 z0 z1
    obtain ⟨x0, x1, -⟩ := q0.cells
    obtain ⟨z0, z1, -⟩ := q1.cells
    go_wp2_with fail
    refine yb.mono ?_
    rintro e w2 ⟨rfl, k2⟩
    have K2 := K1.trans k2
    replace q0 := q0.keep0 k2
    replace q1 := q1.keep0 k2
    clear yb K1 x0 x1 z0 z1
    obtain ⟨x0, x1, -⟩ := q0.cells
    obtain ⟨z0, z1, -⟩ := q1.cells
    go_wp2
    go_ret
    exact ⟨rfl, K2⟩
  have hu := (olCheck_zero.1 c2).2.2
  have hal : allOnce (L.map Po.x) (M.map Po.x) = inAll L M := allOnce_in hu
  rw [hal]
  simp only [c2] at yb
  rw [decide_eq_true c2, Bool.true_and]
  clear c2 hu hal
  by_cases c3 : key = key'
  case neg =>
    rw [decide_eq_false c3, Bool.false_and]
    obtain ⟨e2, e3, e4⟩ := txt_ne c3
    have e5 : (key == key') = false := by rw [beq_toListBytes]; exact e2
    go_enter Tryz.func21, Tryz.ntmps21
    go_wp2_with fail
    generalize ((w.alloc (.cells #[.string key, .slice ao L.length cap] 24)).alloc (.cells #[.string key', .slice ao' M.length cap'] 24)) = W0 at *
    generalize w.heap.size = g at *
    obtain ⟨x0, x1, -⟩ := q0.cells
    obtain ⟨z0, z1, -⟩ := q1.cells
    refine ya.mono ?_
    rintro e w1 ⟨rfl, k1⟩
    have K1 := kA.trans k1
    replace q0 := q0.keep0 k1
    replace q1 := q1.keep0 k1
    have yb := yb _ K1
    clear ya k1 kA x0 x1 z0 z1
    obtain ⟨x0, x1, -⟩ := q0.cells
    obtain ⟨z0, z1, -⟩ := q1.cells
    go_wp2_with fail
    refine yb.mono ?_
    rintro e w2 ⟨rfl, k2⟩
    have K2 := K1.trans k2
    replace q0 := q0.keep0 k2
    replace q1 := q1.keep0 k2
    clear yb K1 x0 x1 z0 z1
    obtain ⟨x0, x1, -⟩ := q0.cells
    obtain ⟨z0, z1, -⟩ := q1.cells
    go_wp2
    go_ret
    exact ⟨rfl, K2⟩
  subst c3
  rw [decide_eq_true rfl, Bool.true_and]
  by_cases c4 : L.length = M.length
  case neg =>
    rw [decide_eq_false c4, Bool.false_and]
    have j1 : ((L.length : Int) == (M.length : Int)) = false := beq_eq_false_iff_ne.2 (by omega)
    have j2 : ¬ (L.length : Int) = (M.length : Int) := by omega
    go_enter Tryz.func21, Tryz.ntmps21
    go_wp2_with fail
    generalize ((w.alloc (.cells #[.string key, .slice ao L.length cap] 24)).alloc (.cells #[.string key, .slice ao' M.length cap'] 24)) = W0 at *
    generalize w.heap.size = g at *
    obtain ⟨x0, x1, -⟩ := q0.cells
    obtain ⟨z0, z1, -⟩ := q1.cells
    refine ya.mono ?_
    rintro e w1 ⟨rfl, k1⟩
    have K1 := kA.trans k1
    replace q0 := q0.keep0 k1
    replace q1 := q1.keep0 k1
    have yb := yb _ K1
    clear ya k1 kA x0 x1 z0 z1
    obtain ⟨x0, x1, -⟩ := q0.cells
    obtain ⟨z0, z1, -⟩ := q1.cells
    go_wp2_with fail
    refine yb.mono ?_
    rintro e w2 ⟨rfl, k2⟩
    have K2 := K1.trans k2
    replace q0 := q0.keep0 k2
    replace q1 := q1.keep0 k2
    clear yb K1 x0 x1 z0 z1
    obtain ⟨x0, x1, -⟩ := q0.cells
    obtain ⟨z0, z1, -⟩ := q1.cells
    go_wp2
    go_ret
    exact ⟨rfl, K2⟩
  rw [decide_eq_true c4, Bool.true_and]
  have j1 : ((L.length : Int) == (M.length : Int)) = true := beq_iff_eq.2 (by omega)
  clear c4
  generalize inAll L M = R at *
  go_enter Tryz.func21, Tryz.ntmps21
  go_wp2_with fail
  generalize ((w.alloc (.cells #[.string key, .slice ao L.length cap] 24)).alloc (.cells #[.string key, .slice ao' M.length cap'] 24)) = W0 at *
  generalize w.heap.size = g at *
  obtain ⟨x0, x1, -⟩ := q0.cells
  obtain ⟨z0, z1, -⟩ := q1.cells
  refine ya.mono ?_
  rintro e w1 ⟨rfl, k1⟩
  have K1 := kA.trans k1
  replace q0 := q0.keep0 k1
  replace q1 := q1.keep0 k1
  have yb := yb _ K1
  clear ya k1 kA x0 x1 z0 z1
  obtain ⟨x0, x1, -⟩ := q0.cells
  obtain ⟨z0, z1, -⟩ := q1.cells
  go_wp2_with fail
  refine yb.mono ?_
  rintro e w2 ⟨rfl, k2⟩
  have K2 := K1.trans k2
  replace q0 := q0.keep0 k2
  replace q1 := q1.keep0 k2
  clear yb K1 x0 x1 z0 z1
  obtain ⟨x0, x1, -⟩ := q0.cells
  obtain ⟨z0, z1, -⟩ := q1.cells
  have yw := yw _ K2
  go_wp2_with fail
  refine yw.mono ?_
  rintro e w3 ⟨rfl, k3⟩
  have K3 := K2.trans k3
  clear yw k3 x0 x1 z0 z1
  go_wp2
  go_ret
  exact ⟨rfl, K3⟩
end Go.Proofs.YtoefibkhlhmlfaaGreat
