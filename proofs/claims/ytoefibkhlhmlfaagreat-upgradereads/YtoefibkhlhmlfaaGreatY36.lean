/-
  What this seat's claims lean on of the texts RefObj4, SbA, SbB.
  Conditions: as each theorem states.
-/
import Derived.WalkKit
import Derived.ProofKit
import Derived.Below
import Derived.Deep.Draws
import Derived.Deep.RegionHeld
import Derived.Test.YtoefibkhlhmlfaaGreatChecked
import Derived.OpenShut
import Derived.ShutString
import Derived.WalkSpells
import Derived.WalkLawsBesides
import Derived.Deep.QuietTactic
import Derived.BigQuiet
import Derived.Laws.Bits64b
import Derived.PlainAid
import Derived.Lib.AppendStr
import Derived.Deep.AppendLies
import Derived.Laws.IdiomStrings
import Derived.Laws.BytesArg
import Derived.Deep.RegionWith
import Derived.Laws.AppendOwn
import Derived.Deep.DeepAppendWide
import Derived.Deep.Upon
import Derived.Maps.AppendAt
import Derived.Laws.Rows
import Derived.Deep.Slices
import Derived.Test.YtoefibkhlhmlfaaGreatY34
import Derived.Test.YtoefibkhlhmlfaaGreatY30
import Derived.Test.YtoefibkhlhmlfaaGreatY24
import Derived.Test.YtoefibkhlhmlfaaGreatY14
import Derived.Test.YtoefibkhlhmlfaaGreatY20
import Derived.Test.YtoefibkhlhmlfaaGreatY31
import Derived.Test.YtoefibkhlhmlfaaGreatY21
namespace Go.Proofs.YtoefibkhlhmlfaaGreat
open Go.RowKit
def SibsOff (w : World) (b : Nat) (ao : Option Addr) (l : List Sb) : Prop := ∀ i (_ : i < l.length), ∃ bb off vo vc po pc, ao = some ⟨bb, off, none⟩ ∧ bb ≠ b ∧ SibAt w bb (off + i * 7) l[i] vo vc po pc ∧ SibIn w vo po pc l[i] ∧ (0 < l[i].k.c.length → ApartE (fun k => k = b) vo) ∧ (0 < l[i].m.length → ApartE (fun k => k = b) po)
theorem SibsOff.sibs {w : World} {b : Nat} {ao : Option Addr} {l : List Sb} (h : SibsOff w b ao l) : SibsAt w ao l := by
  intro i hi
  obtain ⟨bb, off, vo, vc, po, pc, e, _, h1, h2, _, _⟩ := h i hi
  exact ⟨bb, off, vo, vc, po, pc, e, h1, h2⟩
theorem SibsOff.old {w0 w : World} {b : Nat} {ao : Option Addr} {l : List Sb} (h : SibsAt w0 ao l) (k : Keep0 w0 w) (hb : w0.heap.size ≤ b) : SibsOff w b ao l := by
  intro i hi
  obtain ⟨bb, off, vo, vc, po, pc, e, h1, h2⟩ := h i hi
  have hbB := World.block_lt_of_cell? w0 _ h1.c0
  simp only at hbB
  exact ⟨bb, off, vo, vc, po, pc, e, by omega, h1.keep0 k, h2.keep0 k, fun hl g o m e' hh => by have := ens_old h2.ens hl g o m e'; omega, fun hl g o m e' hh => by have := prs_old h2.prs hl g o m e'; omega⟩
theorem SibsOff.keep {w w' : World} {b : Nat} {ao : Option Addr} {l : List Sb} (h : SibsOff w b ao l) (K : Keep1 b w w') : SibsOff w' b ao l := by
  intro i hi
  obtain ⟨bb, off, vo, vc, po, pc, e, hb, h1, h2, h3, h4⟩ := h i hi
  refine ⟨bb, off, vo, vc, po, pc, e, hb, h1.keep K hb, ⟨?_, ?_, h2.room⟩, h3, h4⟩
  · by_cases hz : 0 < l[i].k.c.length
    · exact h2.ens.keep K (h3 hz)
    · exact fun j hj => absurd hj (by omega)
  · by_cases hz : 0 < l[i].m.length
    · exact h2.prs.keep K (h4 hz)
    · exact fun j hj => absurd hj (by omega)
theorem SibsOff.keep0 {w w' : World} {b : Nat} {ao : Option Addr} {l : List Sb} (h : SibsOff w b ao l) (K : Keep0 w w') : SibsOff w' b ao l := h.keep K.any
end Go.Proofs.YtoefibkhlhmlfaaGreat
namespace Go.Proofs.YtoefibkhlhmlfaaGreat
open Go.RowKit
set_option maxRecDepth 100000 in
set_option maxHeartbeats 4000000 in
theorem check15_any (w : World) (vo : Option Addr) (vc : Nat) (po : Option Addr) (pc : Nat) (c : List En) (d : Bool) (a : ByteArray) (n : Nat) (m : List Pr) (q : Bool) (v : ByteArray) (fl : c.length ≤ 10000) (fk : FitsK ⟨c, d, ⟨a, n⟩⟩) (fp : FitsP m) (hcp : CapP m pc) (fv : v.size ≤ maxLen) (hE : EnsAt w vo c) (hP : PrsAt w po m) :
    Calls Tryz.prog 68 #[.agg #[.slice vo c.length vc, .bool d, .string a, .int .u64 (n : Int), .slice po m.length pc, .bool q, .string v]] w fun e w' => e = .returned (.int .i64 (sCheck ⟨⟨c, d, ⟨a, n⟩⟩, m, q, v⟩)) ∧ Keep0 w w' := by
  have kA : Keep0 w (w.alloc (.cells #[.slice vo c.length vc, .bool d, .string a, .int .u64 (n : Int), .slice po m.length pc, .bool q, .string v] 61)) := (Keep.refl _ w).alloc _
  obtain ⟨x0, x1, x2, x3, x4, x5, x6⟩ := sib_new w 61 ⟨⟨c, d, ⟨a, n⟩⟩, m, q, v⟩ vo vc po pc
  have yk := check12 (w.alloc (.cells #[.slice vo c.length vc, .bool d, .string a, .int .u64 (n : Int), .slice po m.length pc, .bool q, .string v] 61)) vo vc ⟨c, d, ⟨a, n⟩⟩ ⟨fl, fk⟩ (hE.keep0 kA)
  have yp := fun W (h : PrsAt W po m) => check14 W po pc m fp hcp h
  have hPA := hP.keep0 kA
  have i0 : (v.size : Int) ≤ 9223372036854775807 := by unfold maxLen at fv; omega
  have a1 := sCheck_a (x := ⟨⟨c, d, ⟨a, n⟩⟩, m, q, v⟩)
  have a2 := sCheck_b (x := ⟨⟨c, d, ⟨a, n⟩⟩, m, q, v⟩)
  have a3 := sCheck_c (x := ⟨⟨c, d, ⟨a, n⟩⟩, m, q, v⟩)
  have a4 := (sCheck_zero (x := ⟨⟨c, d, ⟨a, n⟩⟩, m, q, v⟩)).2
  by_cases h1 : kCheck ⟨c, d, ⟨a, n⟩⟩ = 0
  case neg =>
    rw [a1 h1]
    have e1 : (kCheck ⟨c, d, ⟨a, n⟩⟩ != 0) = true := by simpa using h1
    clear a1 a2 a3 a4 yp hPA fl fk fp hcp fv hE hP
    show Calls _ _ _ _ fun e w' => e = .returned (.int .i64 (kCheck ⟨c, d, ⟨a, n⟩⟩)) ∧ Keep0 w w'
    generalize kCheck ⟨c, d, ⟨a, n⟩⟩ = C at *
    go_enter Tryz.func68, Tryz.ntmps68
    go_wp2_with fail
    generalize (w.alloc (.cells #[.slice vo c.length vc, .bool d, .string a, .int .u64 (n : Int), .slice po m.length pc, .bool q, .string v] 61)) = W0 at *
    generalize w.heap.size = g at *
    refine yk.mono ?_
    rintro e w1 ⟨rfl, k1⟩
    have K1 := kA.trans k1
    clear yk k1 kA
    go_wp2
    go_ret
    exact ⟨rfl, K1⟩
  rw [h1] at yk
  by_cases h2 : qCheck m = 0
  case neg =>
    rw [a2 h1 h2]
    have e1 : (qCheck m != 0) = true := by simpa using h2
    clear a1 a2 a3 a4 fl fk fp hcp fv hE hP
    show Calls _ _ _ _ fun e w' => e = .returned (.int .i64 (qCheck m)) ∧ Keep0 w w'
    generalize qCheck m = C at *
    go_enter Tryz.func68, Tryz.ntmps68
    go_wp2_with fail
    generalize (w.alloc (.cells #[.slice vo c.length vc, .bool d, .string a, .int .u64 (n : Int), .slice po m.length pc, .bool q, .string v] 61)) = W0 at *
    generalize w.heap.size = g at *
    refine yk.mono ?_
    rintro e w1 ⟨rfl, k1⟩
    have K1 := kA.trans k1
    replace x4 := k1.cell x4 (fun f => f)
    have yp := yp _ (hPA.keep0 k1)
    clear yk k1 kA hPA x0 x1 x2 x3 x5 x6
    go_wp2_with fail
    refine yp.mono ?_
    rintro e w2 ⟨rfl, k2⟩
    have K2 := K1.trans k2
    clear yp k2 K1
    go_wp2
    go_ret
    exact ⟨rfl, K2⟩
  rw [h2] at yp
  by_cases h3 : 32768 < v.size
  · rw [a3 h1 h2 h3]
    have j1 : (32768 : Int) < v.size := by omega
    have j2 : decide ((32768 : Int) < (v.size : Int)) = true := decide_eq_true j1
    clear a1 a2 a3 a4 fl fk fp hcp fv hE hP h3
    go_enter Tryz.func68, Tryz.ntmps68
    go_wp2_with fail
    generalize (w.alloc (.cells #[.slice vo c.length vc, .bool d, .string a, .int .u64 (n : Int), .slice po m.length pc, .bool q, .string v] 61)) = W0 at *
    generalize w.heap.size = g at *
    refine yk.mono ?_
    rintro e w1 ⟨rfl, k1⟩
    have K1 := kA.trans k1
    replace x4 := k1.cell x4 (fun f => f)
    replace x6 := k1.cell x6 (fun f => f)
    have yp := yp _ (hPA.keep0 k1)
    clear yk k1 kA hPA x0 x1 x2 x3 x5
    go_wp2_with fail
    refine yp.mono ?_
    rintro e w2 ⟨rfl, k2⟩
    have K2 := K1.trans k2
    replace x6 := k2.cell x6 (fun f => f)
    clear yp k2 K1 x4
    go_wp2
    go_ret
    exact ⟨rfl, K2⟩
  · rw [a4 ⟨h1, h2, by show v.size ≤ 32768; omega⟩]
    have j1 : ¬ (32768 : Int) < v.size := by omega
    have j2 : decide ((32768 : Int) < (v.size : Int)) = false := decide_eq_false j1
    clear a1 a2 a3 a4 fl fk fp hcp fv hE hP h3
    go_enter Tryz.func68, Tryz.ntmps68
    go_wp2_with fail
    generalize (w.alloc (.cells #[.slice vo c.length vc, .bool d, .string a, .int .u64 (n : Int), .slice po m.length pc, .bool q, .string v] 61)) = W0 at *
    generalize w.heap.size = g at *
    refine yk.mono ?_
    rintro e w1 ⟨rfl, k1⟩
    have K1 := kA.trans k1
    replace x4 := k1.cell x4 (fun f => f)
    replace x6 := k1.cell x6 (fun f => f)
    have yp := yp _ (hPA.keep0 k1)
    clear yk k1 kA hPA x0 x1 x2 x3 x5
    go_wp2_with fail
    refine yp.mono ?_
    rintro e w2 ⟨rfl, k2⟩
    have K2 := K1.trans k2
    replace x6 := k2.cell x6 (fun f => f)
    clear yp k2 K1 x4
    go_wp2
    go_ret
    exact ⟨rfl, K2⟩
theorem check15 (w : World) (vo : Option Addr) (vc : Nat) (po : Option Addr) (pc : Nat) (x : Sb) (o : Ok15 x) (h : SibIn w vo po pc x) :
    Calls Tryz.prog 68 #[.agg #[.slice vo x.k.c.length vc, .bool x.k.d, .string x.k.x.a, .int .u64 (x.k.x.n : Int), .slice po x.m.length pc, .bool x.d, .string x.v]] w fun e w' => e = .returned (.int .i64 (sCheck x)) ∧ Keep0 w w' :=
  check15_any w vo vc po pc x.k.c x.k.d x.k.x.a x.k.x.n x.m x.d x.v o.len o.fit.clk o.fit.prs h.room o.fit.val h.ens h.prs
end Go.Proofs.YtoefibkhlhmlfaaGreat
namespace Go.Proofs.YtoefibkhlhmlfaaGreat
open Go.RowKit
theorem blob_bad15 {s : ByteArray} {a x : Int} (m : Int) (h : x ≠ 0) : bAt s a x m = a ∧ bErr s a x m = x := by
  have h1 : kErr s a x m = x := by unfold kErr; rw [tErr_err h, if_neg (fun e => h e.1)]
  unfold bAt bErr
  rw [tAt_err h, h1, cAt_bad _ h, cErr_bad _ h]
  exact ⟨rfl, rfl⟩
theorem chain15 {s : ByteArray} {a x : Int} {KK : Ck} {b1 E1 : Int} {PP : List Pr} {b2 E2 : Int} {GB : Bool} {GA GE : Int} {BT : ByteArray} {BA BE : Int} (h1 : rX zCk rClk s a x = (KK, b1, E1)) (h2 : rX [] rPrs s b1 E1 = (PP, b2, E2))
    (h3 : gSet s b2 E2 = GB) (h4 : cAt s b2 E2 1 = GA) (h5 : gErr s b2 E2 = GE) (h6 : bTxt s GA GE 32768 = BT) (h7 : bAt s GA GE 32768 = BA) (h8 : bErr s GA GE 32768 = BE) :
    (BE = 0 → rX zSb rSib s a x = (⟨KK, PP, GB, BT⟩, BA, 0)) ∧ (BE ≠ 0 → rX zSb rSib s a x = (zSb, BA, BE)) := by
  by_cases d1 : E1 = 0
  case neg =>
    rw [rX_no d1] at h2
    have h2 : (([] : List Pr), b1, E1) = (PP, b2, E2) := h2
    cases h2
    obtain ⟨_, g1, g2⟩ := set_err (s := s) (a := b1) d1
    rw [g2] at h4
    rw [g1] at h5
    subst h4 h5
    obtain ⟨g3, g4⟩ := blob_bad15 (s := s) (a := b1) 32768 d1
    rw [g3] at h7
    rw [g4] at h8
    subst h7 h8
    refine ⟨fun e => absurd e d1, fun _ => ?_⟩
    by_cases hx : x = 0
    · subst hx
      rw [rX_yes] at h1 ⊢
      rw [sib_1 (by rw [h1]; exact d1), h1]
    · rw [rX_no hx] at h1 ⊢
      cases h1
      rfl
  subst d1
  have hx : x = 0 := by
    refine Decidable.byContradiction fun hx => ?_
    rw [rX_no hx] at h1
    exact hx (congrArg (fun q : Ck × Int × Int => q.2.2) h1)
  subst hx
  rw [rX_yes] at h1 h2
  rw [rX_yes]
  by_cases d2 : E2 = 0
  case neg =>
    obtain ⟨_, g1, g2⟩ := set_err (s := s) (a := b2) d2
    rw [g2] at h4
    rw [g1] at h5
    subst h4 h5
    obtain ⟨g3, g4⟩ := blob_bad15 (s := s) (a := b2) 32768 d2
    rw [g3] at h7
    rw [g4] at h8
    subst h7 h8
    refine ⟨fun e => absurd e d2, fun _ => ?_⟩
    rw [sib_2 h1 (by rw [h2]; exact d2), h2]
  subst d2
  by_cases d3 : GE = 0
  case neg =>
    obtain ⟨g3, g4⟩ := blob_bad15 (s := s) (a := GA) 32768 d3
    rw [g3] at h7
    rw [g4] at h8
    subst h7 h8
    refine ⟨fun e => absurd e d3, fun _ => ?_⟩
    rw [sib_3 h1 h2 (by rw [h5]; exact d3), h4, h5]
  subst d3
  refine ⟨fun e => ?_, fun e => ?_⟩
  · subst e
    rw [sib_5 h1 h2 h5 (by rw [h4]; exact h8), h4, h6, h7, h3]
  · rw [sib_4 h1 h2 h5 (by rw [h4, h8]; exact e), h4, h7, h8]
set_option maxRecDepth 100000 in
set_option maxHeartbeats 8000000 in
theorem take15 {w : World} {b : Nat} {s : ByteArray} {a x : Int} (h : Cur w b s a x) :
    Calls Tryz.prog 78 #[ptr b] w (RTakeS (rX zSb rSib s a x) s b w) := by
  have HE : Hid (∀ (W : World) (e : Ending) (A E : Int), rX zSb rSib s a x = (zSb, A, E) → e = .returned (.agg #[.slice none 0 0, .bool false, .string ⟨#[]⟩, .int .u64 0, .slice none 0 0, .bool false, .string ⟨#[]⟩]) → Cur W b s A E → Keep1 b w W → RTakeS (rX zSb rSib s a x) s b w e W) := fun _ _ _ _ h1 h2 h3 h4 => RTakeS.bare h1 h2 h3 h4
  have HM : Hid (∀ (W : World) (e : Ending) (A E : Int) (KK : Ck) (PP : List Pr) (GB : Bool) (BT : ByteArray) (vo po : Option Addr) (vc pc : Nat), rX zSb rSib s a x = (⟨KK, PP, GB, BT⟩, A, E) → e = .returned (.agg #[.slice vo KK.c.length vc, .bool KK.d, .string KK.x.a, .int .u64 (KK.x.n : Int), .slice po PP.length pc, .bool GB, .string BT]) → Cur W b s A E → EnsAt W vo KK.c → PrsAt W po PP → CapP PP pc → (∀ g off m, vo = some ⟨g, off, m⟩ → w.heap.size ≤ g) → (∀ g off m, po = some ⟨g, off, m⟩ → w.heap.size ≤ g) → Keep1 b w W → RTakeS (rX zSb rSib s a x) s b w e W) := fun _ _ _ _ _ _ _ _ _ _ _ _ h1 h2 h3 h4 h5 h6 h7 h8 h9 => RTakeS.mk h1 h2 h3 h4 h5 h6 h7 h8 h9
  have HB : Hid (b < w.heap.size) := h.lt
  obtain ⟨RV, hRV⟩ : ∃ RV, rX zCk rClk s a x = RV := ⟨_, rfl⟩
  obtain ⟨KK, b1, E1⟩ := RV
  obtain ⟨RP, hRP⟩ : ∃ RP, rX [] rPrs s b1 E1 = RP := ⟨_, rfl⟩
  obtain ⟨PP, b2, E2⟩ := RP
  obtain ⟨GB, hGB⟩ : ∃ z, gSet s b2 E2 = z := ⟨_, rfl⟩
  obtain ⟨GA, hGA⟩ : ∃ z, cAt s b2 E2 1 = z := ⟨_, rfl⟩
  obtain ⟨GE, hGE⟩ : ∃ z, gErr s b2 E2 = z := ⟨_, rfl⟩
  obtain ⟨BT, hBT⟩ : ∃ z, bTxt s GA GE 32768 = z := ⟨_, rfl⟩
  obtain ⟨BA, hBA⟩ : ∃ z, bAt s GA GE 32768 = z := ⟨_, rfl⟩
  obtain ⟨BE, hBE⟩ : ∃ z, bErr s GA GE 32768 = z := ⟨_, rfl⟩
  obtain ⟨hch1, hch2⟩ := chain15 hRV hRP hGB hGA hGE hBT hBA hBE
  have HV1 : Hid (BE = 0 → rX zSb rSib s a x = (⟨KK, PP, GB, BT⟩, BA, 0)) := hch1
  have HV2 : Hid (BE ≠ 0 → rX zSb rSib s a x = (zSb, BA, BE)) := hch2
  clear hch1 hch2
  generalize rX zSb rSib s a x = RR at *
  have kA : Keep0 w ((w.alloc (.cells #[.slice none 0 0, .bool false, .string ⟨#[]⟩, .int .u64 0, .slice none 0 0, .bool false, .string ⟨#[]⟩] 61)).alloc (.cells #[.slice none 0 0, .bool false, .string ⟨#[]⟩, .int .u64 0, .slice none 0 0, .bool false, .string ⟨#[]⟩] 61)) := ((Keep.refl _ w).alloc _).alloc _
  have q2 : SAt ((w.alloc (.cells #[.slice none 0 0, .bool false, .string ⟨#[]⟩, .int .u64 0, .slice none 0 0, .bool false, .string ⟨#[]⟩] 61)).alloc (.cells #[.slice none 0 0, .bool false, .string ⟨#[]⟩, .int .u64 0, .slice none 0 0, .bool false, .string ⟨#[]⟩] 61)) w.heap.size (.slice none 0 0) (.bool false) (.string ⟨#[]⟩) (.int .u64 0) (.slice none 0 0) (.bool false) (.string ⟨#[]⟩) := (SAt.new w 61 (.slice none 0 0) (.bool false) (.string ⟨#[]⟩) (.int .u64 0) (.slice none 0 0) (.bool false) (.string ⟨#[]⟩)).keep0 ((Keep.refl _ _).alloc _)
  have q3 : SAt ((w.alloc (.cells #[.slice none 0 0, .bool false, .string ⟨#[]⟩, .int .u64 0, .slice none 0 0, .bool false, .string ⟨#[]⟩] 61)).alloc (.cells #[.slice none 0 0, .bool false, .string ⟨#[]⟩, .int .u64 0, .slice none 0 0, .bool false, .string ⟨#[]⟩] 61)) (w.heap.size + 1) (.slice none 0 0) (.bool false) (.string ⟨#[]⟩) (.int .u64 0) (.slice none 0 0) (.bool false) (.string ⟨#[]⟩) := by
    have := SAt.new (w.alloc (.cells #[.slice none 0 0, .bool false, .string ⟨#[]⟩, .int .u64 0, .slice none 0 0, .bool false, .string ⟨#[]⟩] 61)) 61 (.slice none 0 0) (.bool false) (.string ⟨#[]⟩) (.int .u64 0) (.slice none 0 0) (.bool false) (.string ⟨#[]⟩)
    rw [World.size_alloc] at this
    exact this
  have hcl := h.lt
  have z1 : ((w.alloc (.cells #[.slice none 0 0, .bool false, .string ⟨#[]⟩, .int .u64 0, .slice none 0 0, .bool false, .string ⟨#[]⟩] 61)).alloc (.cells #[.slice none 0 0, .bool false, .string ⟨#[]⟩, .int .u64 0, .slice none 0 0, .bool false, .string ⟨#[]⟩] 61)).heap.size = w.heap.size + 2 := by rw [World.size_alloc, World.size_alloc]
  have yt := take13 (h.keep0 kA)
  rw [hRV] at yt
  have yp := fun W (h : Cur W b s b1 E1) => take14 h
  rw [hRP] at yp
  have yg := fun W (h : Cur W b s b2 E2) => flag6_any h
  rw [hGB, hGA, hGE] at yg
  have yb := fun W (h : Cur W b s GA GE) => blob6_any 32768 (by decide) h
  rw [hBT, hBA, hBE] at yb
  clear hRV hRP hGB hGA hGE hBT hBA hBE
  obtain ⟨u0, u1, u2, u3, u4, u5, u6, f0, f1, f2, f3, f4, f5, f6⟩ := q2.cells
  obtain ⟨t0, t1, t2, t3, t4, t5, t6, h0, h1, h2, h3, h4, h5, h6⟩ := q3.cells
  go_enter Tryz.func78, Tryz.ntmps78
  go_wp2_with fail
  generalize ((w.alloc (.cells #[.slice none 0 0, .bool false, .string ⟨#[]⟩, .int .u64 0, .slice none 0 0, .bool false, .string ⟨#[]⟩] 61)).alloc (.cells #[.slice none 0 0, .bool false, .string ⟨#[]⟩, .int .u64 0, .slice none 0 0, .bool false, .string ⟨#[]⟩] 61)) = WB at *
  obtain ⟨g2, hg2⟩ : ∃ g2, w.heap.size = g2 := ⟨_, rfl⟩
  rw [hg2] at q2 q3 z1 hcl ⊢
  obtain ⟨g3, hg3⟩ : ∃ g3, g2 + 1 = g3 := ⟨_, rfl⟩
  rw [hg3] at q3 ⊢
  have n2 : g2 ≠ b := by omega
  have n3 : g3 ≠ b := by omega
  have n23 : g2 ≠ g3 := by omega
  refine yt.mono ?_
  rintro e w1 ⟨vo, vc, rfl, c1, hE1, hF1, k1⟩
  replace c1 : Cur w1 b s b1 E1 := c1
  replace hE1 : EnsAt w1 vo KK.c := hE1
  dsimp only
  have K1 : Keep1 b w w1 := (kA.any (R := fun i => i = b)).trans k1
  have q2a := q2.keep k1 n2
  have q3a := q3.keep k1 n3
  have HF : Hid (∀ g off m, vo = some ⟨g, off, m⟩ → g2 + 2 ≤ g) := fun g off m e => by have := hF1 g off m e; omega
  have HZ : Hid (g2 + 2 ≤ w1.heap.size) := by show _ ≤ _; have := k1.size; omega
  have HG2 : Hid (w.heap.size = g2) := hg2
  have HG3 : Hid (g2 + 1 = g3) := hg3
  clear yt kA k1 q2 q3 hF1 z1 hcl hg2 hg3 h u0 u1 u2 u3 u4 u5 u6 f0 f1 f2 f3 f4 f5 f6 t0 t1 t2 t3 t4 t5 t6 h0 h1 h2 h3 h4 h5 h6
  have kS1 : Keep1 g3 w1 ((((w1.setCell ⟨g3, 0, none⟩ (.slice vo KK.c.length vc)).setCell ⟨g3, 1, none⟩ (.bool KK.d)).setCell ⟨g3, 2, none⟩ (.string KK.x.a)).setCell ⟨g3, 3, none⟩ (.int .u64 (KK.x.n : Int))) := (((((Keep.refl _ w1).set1 _ _).set1 _ _).set1 _ _).set1 _ _)
  have cS1 := c1.keep kS1 (fun e => n3 e.symm)
  have q2S1 := q2a.keep kS1 n23
  have q3S1 := ((((q3a.set0 (.slice vo KK.c.length vc)).set1 (.bool KK.d)).set2 (.string KK.x.a)).set3 (.int .u64 (KK.x.n : Int)))
  have hES1 := hE1.keep kS1 (fun g off m e hh => by have := HF.out g off m e; have := HG3.out; omega)
  have KS1 := K1.step1 kS1 (by have := HG2.out; have := HG3.out; omega)
  have HZ1 : Hid (g2 + 2 ≤ ((((w1.setCell ⟨g3, 0, none⟩ (.slice vo KK.c.length vc)).setCell ⟨g3, 1, none⟩ (.bool KK.d)).setCell ⟨g3, 2, none⟩ (.string KK.x.a)).setCell ⟨g3, 3, none⟩ (.int .u64 (KK.x.n : Int))).heap.size) := by show _ ≤ _; have := kS1.size; have := HZ.out; omega
  obtain ⟨u0, u1, u2, u3, u4, u5, u6, f0, f1, f2, f3, f4, f5, f6⟩ := q2a.cells
  obtain ⟨t0, t1, t2, t3, t4, t5, t6, h0, h1, h2, h3, h4, h5, h6⟩ := q3a.cells
  obtain ⟨xu0, xu1, xu2, xu3, xu4, xu5, xu6, xf0, xf1, xf2, xf3, xf4, xf5, xf6⟩ := q2S1.cells
  obtain ⟨xt0, xt1, xt2, xt3, xt4, xt5, xt6, xh0, xh1, xh2, xh3, xh4, xh5, xh6⟩ := q3S1.cells
  go_wp2_with fail
  clear u0 u1 u2 u3 u4 u5 u6 f0 f1 f2 f3 f4 f5 f6 t0 t1 t2 t3 t4 t5 t6 h0 h1 h2 h3 h4 h5 h6
  clear xu0 xu1 xu2 xu3 xu4 xu5 xu6 xf0 xf1 xf2 xf3 xf4 xf5 xf6 xt0 xt1 xt2 xt3 xt4 xt5 xt6 xh0 xh1 xh2 xh3 xh4 xh5 xh6
  clear kS1 c1 q2a q3a K1 hE1 HZ
  have HZ := HZ1
  clear HZ1
  generalize ((((w1.setCell ⟨g3, 0, none⟩ (.slice vo KK.c.length vc)).setCell ⟨g3, 1, none⟩ (.bool KK.d)).setCell ⟨g3, 2, none⟩ (.string KK.x.a)).setCell ⟨g3, 3, none⟩ (.int .u64 (KK.x.n : Int))) = V1 at *
  refine (yp _ cS1).mono ?_
  rintro e w3 ⟨po, pc, rfl, c3, hP1, hFP, hCP, k3⟩
  have q2b3 := q2S1.keep k3 n2
  have q3b3 := q3S1.keep k3 n3
  have hEb3 := hES1.keep k3 (fun g off mm e hh => by have := HF.out g off mm e; have := HB.out; have := HG2.out; omega)
  have Kb3 := KS1.trans k3
  have HZb : Hid (g2 + 2 ≤ w3.heap.size) := by show _ ≤ _; have := k3.size; have := HZ.out; omega
  have HFP : Hid (∀ g off m, po = some ⟨g, off, m⟩ → g2 + 2 ≤ g) := fun g off m e => by have := hFP g off m e; have := HZ.out; omega
  clear hFP
  clear k3 cS1 q2S1 q3S1 KS1 hES1 HZ
  have HZ := HZb
  clear HZb
  clear yp
  replace c3 : Cur w3 b s b2 E2 := c3
  replace hP1 : PrsAt w3 po PP := hP1
  have hPb3 := hP1
  clear hP1
  have HCP : Hid (CapP PP pc) := hCP
  clear hCP
  dsimp only
  have kS4 : Keep1 g3 w3 (w3.setCell ⟨g3, 4, none⟩ (.slice po PP.length pc)) := ((Keep.refl _ w3).set1 _ _)
  have cS4 := c3.keep kS4 (fun e => n3 e.symm)
  have q2S4 := q2b3.keep kS4 n23
  have q3S4 := (q3b3.set4 (.slice po PP.length pc))
  have hES4 := hEb3.keep kS4 (fun g off m e hh => by have := HF.out g off m e; have := HG3.out; omega)
  have hPS4 := hPb3.keep kS4 (fun g off m e hh => by have := HFP.out g off m e; have := HG3.out; omega)
  have KS4 := Kb3.step1 kS4 (by have := HG2.out; have := HG3.out; omega)
  have HZ4 : Hid (g2 + 2 ≤ (w3.setCell ⟨g3, 4, none⟩ (.slice po PP.length pc)).heap.size) := by show _ ≤ _; have := kS4.size; have := HZ.out; omega
  obtain ⟨u0, u1, u2, u3, u4, u5, u6, f0, f1, f2, f3, f4, f5, f6⟩ := q2b3.cells
  obtain ⟨t0, t1, t2, t3, t4, t5, t6, h0, h1, h2, h3, h4, h5, h6⟩ := q3b3.cells
  obtain ⟨xu0, xu1, xu2, xu3, xu4, xu5, xu6, xf0, xf1, xf2, xf3, xf4, xf5, xf6⟩ := q2S4.cells
  obtain ⟨xt0, xt1, xt2, xt3, xt4, xt5, xt6, xh0, xh1, xh2, xh3, xh4, xh5, xh6⟩ := q3S4.cells
  go_wp2_with fail
  clear u0 u1 u2 u3 u4 u5 u6 f0 f1 f2 f3 f4 f5 f6 t0 t1 t2 t3 t4 t5 t6 h0 h1 h2 h3 h4 h5 h6
  clear xu0 xu1 xu2 xu3 xu4 xu5 xu6 xf0 xf1 xf2 xf3 xf4 xf5 xf6 xt0 xt1 xt2 xt3 xt4 xt5 xt6 xh0 xh1 xh2 xh3 xh4 xh5 xh6
  clear kS4 c3 q2b3 q3b3 Kb3 hEb3 hPb3 HZ
  have HZ := HZ4
  clear HZ4
  generalize (w3.setCell ⟨g3, 4, none⟩ (.slice po PP.length pc)) = V4 at *
  refine (yg _ cS4).mono ?_
  rintro e w6 ⟨rfl, c6, k6⟩
  have q2b6 := q2S4.keep k6 n2
  have q3b6 := q3S4.keep k6 n3
  have hEb6 := hES4.keep k6 (fun g off mm e hh => by have := HF.out g off mm e; have := HB.out; have := HG2.out; omega)
  have hPb6 := hPS4.keep k6 (fun g off mm e hh => by have := HFP.out g off mm e; have := HB.out; have := HG2.out; omega)
  have Kb6 := KS4.trans k6
  have HZb : Hid (g2 + 2 ≤ w6.heap.size) := by show _ ≤ _; have := k6.size; have := HZ.out; omega
  clear k6 cS4 q2S4 q3S4 KS4 hES4 hPS4 HZ
  have HZ := HZb
  clear HZb
  clear yg
  have kS7 : Keep1 g3 w6 (w6.setCell ⟨g3, 5, none⟩ (.bool GB)) := ((Keep.refl _ w6).set1 _ _)
  have cS7 := c6.keep kS7 (fun e => n3 e.symm)
  have q2S7 := q2b6.keep kS7 n23
  have q3S7 := (q3b6.set5 (.bool GB))
  have hES7 := hEb6.keep kS7 (fun g off m e hh => by have := HF.out g off m e; have := HG3.out; omega)
  have hPS7 := hPb6.keep kS7 (fun g off m e hh => by have := HFP.out g off m e; have := HG3.out; omega)
  have KS7 := Kb6.step1 kS7 (by have := HG2.out; have := HG3.out; omega)
  have HZ7 : Hid (g2 + 2 ≤ (w6.setCell ⟨g3, 5, none⟩ (.bool GB)).heap.size) := by show _ ≤ _; have := kS7.size; have := HZ.out; omega
  obtain ⟨u0, u1, u2, u3, u4, u5, u6, f0, f1, f2, f3, f4, f5, f6⟩ := q2b6.cells
  obtain ⟨t0, t1, t2, t3, t4, t5, t6, h0, h1, h2, h3, h4, h5, h6⟩ := q3b6.cells
  obtain ⟨xu0, xu1, xu2, xu3, xu4, xu5, xu6, xf0, xf1, xf2, xf3, xf4, xf5, xf6⟩ := q2S7.cells
  obtain ⟨xt0, xt1, xt2, xt3, xt4, xt5, xt6, xh0, xh1, xh2, xh3, xh4, xh5, xh6⟩ := q3S7.cells
  go_wp2_with fail
  clear u0 u1 u2 u3 u4 u5 u6 f0 f1 f2 f3 f4 f5 f6 t0 t1 t2 t3 t4 t5 t6 h0 h1 h2 h3 h4 h5 h6
  clear xu0 xu1 xu2 xu3 xu4 xu5 xu6 xf0 xf1 xf2 xf3 xf4 xf5 xf6 xt0 xt1 xt2 xt3 xt4 xt5 xt6 xh0 xh1 xh2 xh3 xh4 xh5 xh6
  clear kS7 c6 q2b6 q3b6 Kb6 hEb6 hPb6 HZ
  have HZ := HZ7
  clear HZ7
  generalize (w6.setCell ⟨g3, 5, none⟩ (.bool GB)) = V7 at *
  refine (yb _ cS7).mono ?_
  rintro e w9 ⟨rfl, c9, k9⟩
  have q2b9 := q2S7.keep k9 n2
  have q3b9 := q3S7.keep k9 n3
  have hEb9 := hES7.keep k9 (fun g off mm e hh => by have := HF.out g off mm e; have := HB.out; have := HG2.out; omega)
  have hPb9 := hPS7.keep k9 (fun g off mm e hh => by have := HFP.out g off mm e; have := HB.out; have := HG2.out; omega)
  have Kb9 := KS7.trans k9
  have HZb : Hid (g2 + 2 ≤ w9.heap.size) := by show _ ≤ _; have := k9.size; have := HZ.out; omega
  clear k9 cS7 q2S7 q3S7 KS7 hES7 hPS7 HZ
  have HZ := HZb
  clear HZb
  clear yb
  have kS10 : Keep1 g3 w9 (w9.setCell ⟨g3, 6, none⟩ (.string BT)) := ((Keep.refl _ w9).set1 _ _)
  have cS10 := c9.keep kS10 (fun e => n3 e.symm)
  have q2S10 := q2b9.keep kS10 n23
  have q3S10 := (q3b9.set6 (.string BT))
  have hES10 := hEb9.keep kS10 (fun g off m e hh => by have := HF.out g off m e; have := HG3.out; omega)
  have hPS10 := hPb9.keep kS10 (fun g off m e hh => by have := HFP.out g off m e; have := HG3.out; omega)
  have KS10 := Kb9.step1 kS10 (by have := HG2.out; have := HG3.out; omega)
  have HZ10 : Hid (g2 + 2 ≤ (w9.setCell ⟨g3, 6, none⟩ (.string BT)).heap.size) := by show _ ≤ _; have := kS10.size; have := HZ.out; omega
  obtain ⟨u0, u1, u2, u3, u4, u5, u6, f0, f1, f2, f3, f4, f5, f6⟩ := q2b9.cells
  obtain ⟨t0, t1, t2, t3, t4, t5, t6, h0, h1, h2, h3, h4, h5, h6⟩ := q3b9.cells
  obtain ⟨xu0, xu1, xu2, xu3, xu4, xu5, xu6, xf0, xf1, xf2, xf3, xf4, xf5, xf6⟩ := q2S10.cells
  obtain ⟨xt0, xt1, xt2, xt3, xt4, xt5, xt6, xh0, xh1, xh2, xh3, xh4, xh5, xh6⟩ := q3S10.cells
  have ye := err_any cS10
  go_wp2_with fail
  clear u0 u1 u2 u3 u4 u5 u6 f0 f1 f2 f3 f4 f5 f6 t0 t1 t2 t3 t4 t5 t6 h0 h1 h2 h3 h4 h5 h6
  clear xu0 xu1 xu2 xu3 xu4 xu5 xu6 xf0 xf1 xf2 xf3 xf4 xf5 xf6 xt0 xt1 xt2 xt3 xt4 xt5 xt6 xh0 xh1 xh2 xh3 xh4 xh5 xh6
  clear kS10 c9 q2b9 q3b9 Kb9 hEb9 hPb9 HZ
  have HZ := HZ10
  clear HZ10
  generalize (w9.setCell ⟨g3, 6, none⟩ (.string BT)) = V10 at *
  refine ye.mono ?_
  rintro e w10 ⟨rfl, rfl⟩
  clear ye
  obtain ⟨u0, u1, u2, u3, u4, u5, u6, f0, f1, f2, f3, f4, f5, f6⟩ := q2S10.cells
  obtain ⟨t0, t1, t2, t3, t4, t5, t6, h0, h1, h2, h3, h4, h5, h6⟩ := q3S10.cells
  by_cases d3 : BE = 0
  case neg =>
    have HV : Hid (RR = (zSb, BA, BE)) := HV2.out d3
    have e0 : (BE != 0) = true := by simpa using d3
    clear HM
    go_wp2
    refine bodyPost_ret (retSb rfl _ _ _ rfl (q2S10.put (.slice none 0 0) (.bool false) (.string ⟨#[]⟩) (.int .u64 0) (.slice none 0 0) (.bool false) (.string ⟨#[]⟩))) rfl ?_
    exact HE.out _ _ _ _ HV.out rfl (cS10.keep (put7_keep _ _ _ _ _ _ _ _ _) (fun e => n2 e.symm)) (KS10.step1 (put7_keep _ _ _ _ _ _ _ _ _) (by have := HG2.out; omega))
  subst d3
  have HV : Hid (RR = (⟨KK, PP, GB, BT⟩, BA, 0)) := HV1.out rfl
  clear HE
  go_wp2
  refine bodyPost_ret (retSb rfl _ _ _ rfl (q2S10.put (.slice vo KK.c.length vc) (.bool KK.d) (.string KK.x.a) (.int .u64 (KK.x.n : Int)) (.slice po PP.length pc) (.bool GB) (.string BT))) rfl ?_
  exact HM.out _ _ _ _ KK PP GB BT vo po vc pc HV.out rfl (cS10.keep (put7_keep _ _ _ _ _ _ _ _ _) (fun e => n2 e.symm)) (hES10.keep (put7_keep _ _ _ _ _ _ _ _ _) (fun g off m e hh => by have := HF.out g off m e; omega)) (hPS10.keep (put7_keep _ _ _ _ _ _ _ _ _) (fun g off m e hh => by have := HFP.out g off m e; omega)) HCP.out (fun g off m e => by have := HF.out g off m e; have := HG2.out; omega) (fun g off m e => by have := HFP.out g off m e; have := HG2.out; omega) (KS10.step1 (put7_keep _ _ _ _ _ _ _ _ _) (by have := HG2.out; omega))
end Go.Proofs.YtoefibkhlhmlfaaGreat
