/-
  What this seat's claims lean on of the texts RefDcode2.
  Conditions: as each theorem states.
-/
import Derived.WalkKit
import Derived.ProofKit
import Derived.Below
import Derived.Deep.Draws
import Derived.Deep.RegionHeld
import Derived.Test.YtoefibkhlhmlfaaGreatChecked
import Derived.OpenShut
import Derived.ShutString
import Derived.WalkSpells
import Derived.WalkLawsBesides
import Derived.Deep.QuietTactic
import Derived.BigQuiet
import Derived.Laws.Bits64b
import Derived.PlainAid
import Derived.Lib.AppendStr
import Derived.Deep.AppendLies
import Derived.Laws.IdiomStrings
import Derived.Laws.BytesArg
import Derived.Deep.RegionWith
import Derived.Laws.AppendOwn
import Derived.Deep.DeepAppendWide
import Derived.Deep.Upon
import Derived.Laws.Rows
import Derived.Test.YtoefibkhlhmlfaaGreatY21
import Derived.Test.YtoefibkhlhmlfaaGreatY13
namespace Go.Proofs.YtoefibkhlhmlfaaGreat
open Go.RowKit
theorem aTest_none (a : ByteArray) : aTest none a = if a.size = 0 then 14 else 0 := rfl
section
variable {s : ByteArray} {a : Int}
theorem clk_rest (h : (rVec s a).2.2 = 0) : rClk s a = (if (rRest (rVec s a).1 s (rVec s a).2.1).2.2 = 0 then ((⟨(rVec s a).1, (rRest (rVec s a).1 s (rVec s a).2.1).1.1, (rRest (rVec s a).1 s (rVec s a).2.1).1.2⟩ : Ck), (rRest (rVec s a).1 s (rVec s a).2.1).2) else (zCk, (rRest (rVec s a).1 s (rVec s a).2.1).2)) := by
  show rMap (fun q : List En × (Bool × En) => (⟨q.1, q.2.1, q.2.2⟩ : Ck)) (rSeq ([], (false, zEn)) rVec rRest) s a = _
  unfold rMap
  by_cases h1 : (rRest (rVec s a).1 s (rVec s a).2.1).2.2 = 0
  · rw [rSeq_yes h h1, if_pos h1]
  · rw [rSeq_mid h h1, if_neg h1]
    rfl
theorem clk_1 (h : (rVec s a).2.2 ≠ 0) : rClk s a = (zCk, (rVec s a).2) := by
  show rMap (fun q : List En × (Bool × En) => (⟨q.1, q.2.1, q.2.2⟩ : Ck)) (rSeq ([], (false, zEn)) rVec rRest) s a = _
  unfold rMap
  rw [rSeq_no h]
  rfl
variable {V : List En} {b : Int}
theorem clk_2 (h : rVec s a = (V, b, 0)) (h1 : gErr s b 0 ≠ 0) : rClk s a = (zCk, cAt s b 0 1, gErr s b 0) := by
  have e : rRest V s b = ((false, zEn), cAt s b 0 1, gErr s b 0) := rSeq_no (A := rFlag) h1
  rw [clk_rest (by rw [h]), h]
  show (if (rRest V s b).2.2 = 0 then _ else (zCk, (rRest V s b).2)) = _
  rw [e, if_neg h1]
theorem clk_3 (h : rVec s a = (V, b, 0)) (h1 : gErr s b 0 = 0) (h2 : gSet s b 0 = false) : rClk s a = (⟨V, false, zEn⟩, cAt s b 0 1, 0) := by
  have e0 : rFlag s b = (false, cAt s b 0 1, 0) := by unfold rFlag; rw [h1, h2]
  have e : rRest V s b = ((false, zEn), cAt s b 0 1, 0) := by
    unfold rRest
    rw [rSeq_yes (by rw [e0]) (by rw [e0]; rfl), e0]
    rfl
  rw [clk_rest (by rw [h]), h]
  show (if (rRest V s b).2.2 = 0 then _ else _) = _
  rw [e]
  rfl
theorem clk_dot (h : rVec s a = (V, b, 0)) (h1 : gErr s b 0 = 0) (h2 : gSet s b 0 = true) : rClk s a = if (rDot V s (cAt s b 0 1)).2.2 = 0 then (⟨V, true, (rDot V s (cAt s b 0 1)).1⟩, (rDot V s (cAt s b 0 1)).2) else (zCk, (rDot V s (cAt s b 0 1)).2) := by
  have e0 : rFlag s b = (true, cAt s b 0 1, 0) := by unfold rFlag; rw [h1, h2]
  rw [clk_rest (by rw [h]), h]
  show (if (rRest V s b).2.2 = 0 then ((⟨V, (rRest V s b).1.1, (rRest V s b).1.2⟩ : Ck), (rRest V s b).2) else (zCk, (rRest V s b).2)) = _
  by_cases hd : (rDot V s (cAt s b 0 1)).2.2 = 0
  · have e : rRest V s b = ((true, (rDot V s (cAt s b 0 1)).1), (rDot V s (cAt s b 0 1)).2) := by
      unfold rRest
      rw [rSeq_yes (by rw [e0]) (by rw [e0]; exact hd), e0]
      rfl
    rw [e, if_pos hd]
  · have e : rRest V s b = ((false, zEn), (rDot V s (cAt s b 0 1)).2) := by
      unfold rRest
      rw [rSeq_mid (by rw [e0]) (by rw [e0]; exact hd), e0]
      rfl
    rw [e, if_neg hd, if_neg hd]
variable {c : Int}
theorem dot_bad (h : (rEnt none s c).2.2 ≠ 0) : (rDot V s c).2 = (rEnt none s c).2 := by unfold rDot; rw [rTest_no h]
theorem dot_15' (h : (rEnt none s c).2.2 = 0) (h1 : (rEnt none s c).1.n ≤ vCount V (rEnt none s c).1.a) : (rDot V s c).2 = ((rEnt none s c).2.1, 15) := by
  have e : dTest V (rEnt none s c).1 = 15 := if_pos h1
  unfold rDot
  rw [rTest_bad h (by rw [e]; decide), e]
theorem dot_yes (h : (rEnt none s c).2.2 = 0) (h1 : ¬ (rEnt none s c).1.n ≤ vCount V (rEnt none s c).1.a) : rDot V s c = rEnt none s c := by
  have e : dTest V (rEnt none s c).1 = 0 := if_neg h1
  unfold rDot
  rw [rTest_yes h e]
end
theorem bTxt_le (s : ByteArray) (a x m : Int) : (bTxt s a x m).size ≤ s.size := by
  unfold bTxt cBytes
  split
  · unfold cut
    rw [ByteArray.size_extract]
    omega
  · exact Nat.zero_le _
def RTakeK (r : Ck × Int × Int) (s : ByteArray) (b : Nat) (w : World) (e : Ending) (w' : World) : Prop := ∃ ao cap, e = .returned (.agg #[.slice ao r.1.c.length cap, .bool r.1.d, .string r.1.x.a, .int .u64 (r.1.x.n : Int)]) ∧ Cur w' b s r.2.1 r.2.2 ∧ EnsAt w' ao r.1.c ∧ (∀ g off m, ao = some ⟨g, off, m⟩ → w.heap.size ≤ g) ∧ Keep1 b w w'
theorem RTakeK.bare {r : Ck × Int × Int} {s : ByteArray} {b : Nat} {w w' : World} {e : Ending} {A E : Int} (hr : r = (zCk, A, E)) (h : e = .returned (.agg #[.slice none 0 0, .bool false, .string ⟨#[]⟩, .int .u64 0])) (h1 : Cur w' b s A E) (h4 : Keep1 b w w') : RTakeK r s b w e w' := by
  subst hr
  exact ⟨none, 0, h, h1, ens_nil _ _, (fun _ _ _ e => by cases e), h4⟩
theorem RTakeK.mk {r : Ck × Int × Int} {s : ByteArray} {b : Nat} {w w' : World} {e : Ending} {A E : Int} {V : List En} {d : Bool} {x : ByteArray} {n : Nat} {ao : Option Addr} {cap : Nat} (hr : r = (⟨V, d, ⟨x, n⟩⟩, A, E)) (h : e = .returned (.agg #[.slice ao V.length cap, .bool d, .string x, .int .u64 (n : Int)])) (h1 : Cur w' b s A E) (h2 : EnsAt w' ao V) (h3 : ∀ g off m, ao = some ⟨g, off, m⟩ → w.heap.size ≤ g) (h4 : Keep1 b w w') : RTakeK r s b w e w' := by
  subst hr
  exact ⟨ao, cap, h, h1, h2, h3, h4⟩
set_option maxRecDepth 100000 in
set_option maxHeartbeats 8000000 in
theorem rtake13 {w : World} {b : Nat} {s : ByteArray} {a x : Int} (h : Cur w b s a x) :
    Calls Tryz.prog 163 #[ptr b] w (RTakeK (rX zCk rClk s a x) s b w) := by
  have HE : Hid (∀ (W : World) (e : Ending) (A E : Int), rX zCk rClk s a x = (zCk, A, E) → e = .returned (.agg #[.slice none 0 0, .bool false, .string ⟨#[]⟩, .int .u64 0]) → Cur W b s A E → Keep1 b w W → RTakeK (rX zCk rClk s a x) s b w e W) := fun _ _ _ _ h1 h2 h3 h4 => RTakeK.bare h1 h2 h3 h4
  have HM : Hid (∀ (W : World) (e : Ending) (A E : Int) (V : List En) (d : Bool) (y : ByteArray) (n : Nat) (ao : Option Addr) (cap : Nat), rX zCk rClk s a x = (⟨V, d, ⟨y, n⟩⟩, A, E) → e = .returned (.agg #[.slice ao V.length cap, .bool d, .string y, .int .u64 (n : Int)]) → Cur W b s A E → EnsAt W ao V → (∀ g off m, ao = some ⟨g, off, m⟩ → w.heap.size ≤ g) → Keep1 b w W → RTakeK (rX zCk rClk s a x) s b w e W) := fun _ _ _ _ _ _ _ _ _ _ h1 h2 h3 h4 h5 h6 => RTakeK.mk h1 h2 h3 h4 h5 h6
  have HB : Hid (b < w.heap.size) := h.lt
  obtain ⟨RV, hRV⟩ : ∃ RV, rX [] rVec s a x = RV := ⟨_, rfl⟩
  obtain ⟨V, b1, E1⟩ := RV
  obtain ⟨RR, hRR⟩ : ∃ RR, rX zCk rClk s a x = RR := ⟨_, rfl⟩
  rw [hRR] at HE HM ⊢
  have HR : Hid (rX zCk rClk s a x = RR) := hRR
  clear hRR
  have kA : Keep0 w ((w.alloc (.cells #[.slice none 0 0, .bool false, .string ⟨#[]⟩, .int .u64 0] 58)).alloc (.cells #[.slice none 0 0, .bool false, .string ⟨#[]⟩, .int .u64 0] 58)) := ((Keep.refl _ w).alloc _).alloc _
  have q2 : QAt ((w.alloc (.cells #[.slice none 0 0, .bool false, .string ⟨#[]⟩, .int .u64 0] 58)).alloc (.cells #[.slice none 0 0, .bool false, .string ⟨#[]⟩, .int .u64 0] 58)) w.heap.size (.slice none 0 0) (.bool false) (.string ⟨#[]⟩) (.int .u64 0) := (QAt.new w 58 _ _ _ _).keep0 ((Keep.refl _ _).alloc _)
  have q3 : QAt ((w.alloc (.cells #[.slice none 0 0, .bool false, .string ⟨#[]⟩, .int .u64 0] 58)).alloc (.cells #[.slice none 0 0, .bool false, .string ⟨#[]⟩, .int .u64 0] 58)) (w.heap.size + 1) (.slice none 0 0) (.bool false) (.string ⟨#[]⟩) (.int .u64 0) := by
    have := QAt.new (w.alloc (.cells #[.slice none 0 0, .bool false, .string ⟨#[]⟩, .int .u64 0] 58)) 58 (.slice none 0 0) (.bool false) (.string ⟨#[]⟩) (.int .u64 0)
    rw [World.size_alloc] at this
    exact this
  have hcl := h.lt
  have z1 : ((w.alloc (.cells #[.slice none 0 0, .bool false, .string ⟨#[]⟩, .int .u64 0] 58)).alloc (.cells #[.slice none 0 0, .bool false, .string ⟨#[]⟩, .int .u64 0] 58)).heap.size = w.heap.size + 2 := by rw [World.size_alloc, World.size_alloc]
  have yt := rtake11 (h.keep0 kA)
  rw [hRV] at yt
  go_enter Tryz.func163, Tryz.ntmps163
  go_wp2_with fail
  generalize ((w.alloc (.cells #[.slice none 0 0, .bool false, .string ⟨#[]⟩, .int .u64 0] 58)).alloc (.cells #[.slice none 0 0, .bool false, .string ⟨#[]⟩, .int .u64 0] 58)) = WB at *
  obtain ⟨g2, hg2⟩ : ∃ g2, w.heap.size = g2 := ⟨_, rfl⟩
  rw [hg2] at q2 q3 z1 hcl ⊢
  obtain ⟨g3, hg3⟩ : ∃ g3, g2 + 1 = g3 := ⟨_, rfl⟩
  rw [hg3] at q3 ⊢
  have n2 : g2 ≠ b := by omega
  have n3 : g3 ≠ b := by omega
  have n23 : g2 ≠ g3 := by omega
  refine yt.mono ?_
  rintro e w1 ⟨vo, vc, rfl, c1, hE1, hF1, k1⟩
  have K1 : Keep1 b w w1 := (kA.any (R := fun i => i = b)).trans k1
  have q2a := q2.keep k1 n2
  have q3a := q3.keep k1 n3
  have HF : Hid (∀ g off m, vo = some ⟨g, off, m⟩ → g2 + 2 ≤ g) := fun g off m e => by have := hF1 g off m e; omega
  have HG2 : Hid (w.heap.size = g2) := hg2
  have HG3 : Hid (g2 + 1 = g3) := hg3
  clear yt kA k1 q2 q3 hF1 z1 hcl hg2 hg3
  replace c1 : Cur w1 b s b1 E1 := c1
  replace hE1 : EnsAt w1 vo V := hE1
  dsimp only
  have kS1 : Keep1 g3 w1 (w1.setCell ⟨g3, 0, none⟩ (.slice vo V.length vc)) := set_keep1 _ _ _ _
  have cS1 := c1.keep kS1 (fun e => n3 e.symm)
  have q2S1 := q2a.keep kS1 n23
  have q3S1 := q3a.set0 (.slice vo V.length vc)
  have hES1 := hE1.keep kS1 (fun g off m e hh => by have := HF.out g off m e; have := HG3.out; omega)
  have KS1 := K1.step1 kS1 (by have := HG2.out; have := HG3.out; omega)
  obtain ⟨ce0, ce1, ce2, ce3, ce4⟩ := c1.cells
  obtain ⟨u0, u1, u2, u3, f0, f1, f2, f3⟩ := q2a.cells
  obtain ⟨t0, t1, t2, t3, h0, h1, h2, h3⟩ := q3a.cells
  obtain ⟨xe0, xe1, xe2, xe3, xe4⟩ := cS1.cells
  obtain ⟨xu0, xu1, xu2, xu3, xf0, xf1, xf2, xf3⟩ := q2S1.cells
  obtain ⟨xt0, xt1, xt2, xt3, xh0, xh1, xh2, xh3⟩ := q3S1.cells
  by_cases d0 : E1 = 0
  case neg =>
    have HV : Hid (RR = (zCk, b1, E1)) := by
      show _ = _
      rw [← HR.out]
      by_cases hx : x = 0
      · subst hx
        rw [rX_yes] at hRV ⊢
        rw [clk_1 (by rw [hRV]; exact d0), hRV]
      · rw [rX_no hx] at hRV ⊢
        cases hRV
        rfl
    have e0 : (E1 != 0) = true := by simpa using d0
    clear d0 HM
    go_wp2
    refine bodyPost_ret (retCk rfl _ _ _ rfl (q2S1.put (.slice none 0 0) (.bool false) (.string ⟨#[]⟩) (.int .u64 0))) rfl ?_
    exact HE.out _ _ _ _ HV.out rfl (cS1.keep (put4_keep _ _ _ _ _ _) (fun e => n2 e.symm)) (KS1.step1 (put4_keep _ _ _ _ _ _) (by have := HG2.out; omega))
  subst d0
  have hx : x = 0 := by
    refine Decidable.byContradiction fun e => ?_
    rw [rX_no e] at hRV
    exact e (congrArg (fun q : List En × Int × Int => q.2.2) hRV)
  subst hx
  have hv : rVec s a = (V, b1, 0) := by rw [rX_yes] at hRV; exact hRV
  have HC : Hid (RR = rClk s a) := by
    have e := HR.out
    rw [rX_yes] at e
    exact e.symm
  clear hRV HR
  obtain ⟨GB, hGB⟩ : ∃ GB, gSet s b1 0 = GB := ⟨_, rfl⟩
  obtain ⟨GA, hGA⟩ : ∃ GA, cAt s b1 0 1 = GA := ⟨_, rfl⟩
  obtain ⟨GE, hGE⟩ : ∃ GE, gErr s b1 0 = GE := ⟨_, rfl⟩
  go_wp2_with fail
  clear ce0 ce1 ce2 ce3 ce4 u0 u1 u2 u3 f0 f1 f2 f3 t0 t1 t2 t3 h0 h1 h2 h3
  clear xe0 xe1 xe2 xe3 xe4 xu0 xu1 xu2 xu3 xf0 xf1 xf2 xf3 xt0 xt1 xt2 xt3 xh0 xh1 xh2 xh3
  clear kS1 c1 q2a q3a K1 hE1
  generalize (w1.setCell ⟨g3, 0, none⟩ (.slice vo V.length vc)) = V1 at *
  refine (rflag_any cS1).mono ?_
  rintro e w3 ⟨rfl, c3, k3⟩
  have q2b3 := q2S1.keep k3 n2
  have q3b3 := q3S1.keep k3 n3
  have hEb3 := hES1.keep k3 (fun g off mm e hh => by have := HF.out g off mm e; have := HB.out; have := HG2.out; omega)
  have Kb3 := KS1.trans k3
  clear k3 cS1 q2S1 q3S1 KS1 hES1
  rw [hGB]
  rw [hGA, hGE] at c3
  by_cases d1 : GE = 0
  case neg =>
    have HV : Hid (RR = (zCk, GA, GE)) := by show _ = _; rw [HC.out, ← hGA, ← hGE]; exact clk_2 hv (by rw [hGE]; exact d1)
    have e0 : (GE != 0) = true := by simpa using d1
    clear d1 HM
    have kS4 : Keep1 g3 w3 (w3.setCell ⟨g3, 1, none⟩ (.bool GB)) := set_keep1 _ _ _ _
    have cS4 := c3.keep kS4 (fun e => n3 e.symm)
    have q2S4 := q2b3.keep kS4 n23
    have q3S4 := q3b3.set1 (.bool GB)
    have hES4 := hEb3.keep kS4 (fun g off m e hh => by have := HF.out g off m e; have := HG3.out; omega)
    have KS4 := Kb3.step1 kS4 (by have := HG2.out; have := HG3.out; omega)
    obtain ⟨ce0, ce1, ce2, ce3, ce4⟩ := c3.cells
    obtain ⟨u0, u1, u2, u3, f0, f1, f2, f3⟩ := q2b3.cells
    obtain ⟨t0, t1, t2, t3, h0, h1, h2, h3⟩ := q3b3.cells
    obtain ⟨xe0, xe1, xe2, xe3, xe4⟩ := cS4.cells
    obtain ⟨xu0, xu1, xu2, xu3, xf0, xf1, xf2, xf3⟩ := q2S4.cells
    obtain ⟨xt0, xt1, xt2, xt3, xh0, xh1, xh2, xh3⟩ := q3S4.cells
    go_wp2
    refine bodyPost_ret (retCk rfl _ _ _ rfl (q2S4.put (.slice none 0 0) (.bool false) (.string ⟨#[]⟩) (.int .u64 0))) rfl ?_
    exact HE.out _ _ _ _ HV.out rfl (cS4.keep (put4_keep _ _ _ _ _ _) (fun e => n2 e.symm)) (KS4.step1 (put4_keep _ _ _ _ _ _) (by have := HG2.out; omega))
  subst d1
  cases GB with
  | false =>
    have HV : Hid (RR = (⟨V, false, ⟨⟨#[]⟩, 0⟩⟩, GA, 0)) := by show _ = _; rw [HC.out, ← hGA]; exact clk_3 hv hGE hGB
    clear HE
    have kS4 : Keep1 g3 w3 (w3.setCell ⟨g3, 1, none⟩ (.bool false)) := set_keep1 _ _ _ _
    have cS4 := c3.keep kS4 (fun e => n3 e.symm)
    have q2S4 := q2b3.keep kS4 n23
    have q3S4 := q3b3.set1 (.bool false)
    have hES4 := hEb3.keep kS4 (fun g off m e hh => by have := HF.out g off m e; have := HG3.out; omega)
    have KS4 := Kb3.step1 kS4 (by have := HG2.out; have := HG3.out; omega)
    obtain ⟨ce0, ce1, ce2, ce3, ce4⟩ := c3.cells
    obtain ⟨u0, u1, u2, u3, f0, f1, f2, f3⟩ := q2b3.cells
    obtain ⟨t0, t1, t2, t3, h0, h1, h2, h3⟩ := q3b3.cells
    obtain ⟨xe0, xe1, xe2, xe3, xe4⟩ := cS4.cells
    obtain ⟨xu0, xu1, xu2, xu3, xf0, xf1, xf2, xf3⟩ := q2S4.cells
    obtain ⟨xt0, xt1, xt2, xt3, xh0, xh1, xh2, xh3⟩ := q3S4.cells
    go_wp2
    refine bodyPost_ret (retCk rfl _ _ _ rfl (q2S4.put (.slice vo V.length vc) (.bool false) (.string ⟨#[]⟩) (.int .u64 0))) rfl ?_
    exact HM.out _ _ _ _ V false ⟨#[]⟩ 0 vo vc HV.out rfl (cS4.keep (put4_keep _ _ _ _ _ _) (fun e => n2 e.symm)) (hES4.keep (put4_keep _ _ _ _ _ _) (fun g off m e hh => by have := HF.out g off m e; omega)) (fun g off m e => by have := HF.out g off m e; have := HG2.out; omega) (KS4.step1 (put4_keep _ _ _ _ _ _) (by have := HG2.out; omega))
  | true =>
    have hcd := clk_dot hv hGE hGB
    rw [hGA] at hcd
    obtain ⟨BT, hBT⟩ : ∃ BT, bTxt s GA 0 32 = BT := ⟨_, rfl⟩
    obtain ⟨BA, hBA⟩ : ∃ BA, bAt s GA 0 32 = BA := ⟨_, rfl⟩
    obtain ⟨BE, hBE⟩ : ∃ BE, bErr s GA 0 32 = BE := ⟨_, rfl⟩
    have hBl : (BT.size : Int) ≤ 9223372036854775807 := by
      have h1 : BT.size ≤ s.size := by rw [← hBT]; exact bTxt_le _ _ _ _
      have h2 := h.sz
      unfold maxLen at h2
      omega
    have kS4 : Keep1 g3 w3 (w3.setCell ⟨g3, 1, none⟩ (.bool true)) := set_keep1 _ _ _ _
    have cS4 := c3.keep kS4 (fun e => n3 e.symm)
    have q2S4 := q2b3.keep kS4 n23
    have q3S4 := q3b3.set1 (.bool true)
    have hES4 := hEb3.keep kS4 (fun g off m e hh => by have := HF.out g off m e; have := HG3.out; omega)
    have KS4 := Kb3.step1 kS4 (by have := HG2.out; have := HG3.out; omega)
    obtain ⟨ce0, ce1, ce2, ce3, ce4⟩ := c3.cells
    obtain ⟨u0, u1, u2, u3, f0, f1, f2, f3⟩ := q2b3.cells
    obtain ⟨t0, t1, t2, t3, h0, h1, h2, h3⟩ := q3b3.cells
    obtain ⟨xe0, xe1, xe2, xe3, xe4⟩ := cS4.cells
    obtain ⟨xu0, xu1, xu2, xu3, xf0, xf1, xf2, xf3⟩ := q2S4.cells
    obtain ⟨xt0, xt1, xt2, xt3, xh0, xh1, xh2, xh3⟩ := q3S4.cells
    go_wp2_with fail
    clear ce0 ce1 ce2 ce3 ce4 u0 u1 u2 u3 f0 f1 f2 f3 t0 t1 t2 t3 h0 h1 h2 h3
    clear xe0 xe1 xe2 xe3 xe4 xu0 xu1 xu2 xu3 xf0 xf1 xf2 xf3 xt0 xt1 xt2 xt3 xh0 xh1 xh2 xh3
    clear kS4 c3 q2b3 q3b3 Kb3 hEb3
    generalize (w3.setCell ⟨g3, 1, none⟩ (.bool true)) = V4 at *
    refine (rblob_any 32 (by decide) cS4).mono ?_
    rintro e w6 ⟨rfl, c6, k6⟩
    have q2b6 := q2S4.keep k6 n2
    have q3b6 := q3S4.keep k6 n3
    have hEb6 := hES4.keep k6 (fun g off mm e hh => by have := HF.out g off mm e; have := HB.out; have := HG2.out; omega)
    have Kb6 := KS4.trans k6
    clear k6 cS4 q2S4 q3S4 KS4 hES4
    rw [hBT]
    rw [hBA, hBE] at c6
    have kS7 : Keep1 g3 w6 (w6.setCell ⟨g3, 2, none⟩ (.string BT)) := set_keep1 _ _ _ _
    have cS7 := c6.keep kS7 (fun e => n3 e.symm)
    have q2S7 := q2b6.keep kS7 n23
    have q3S7 := q3b6.set2 (.string BT)
    have hES7 := hEb6.keep kS7 (fun g off m e hh => by have := HF.out g off m e; have := HG3.out; omega)
    have KS7 := Kb6.step1 kS7 (by have := HG2.out; have := HG3.out; omega)
    obtain ⟨ce0, ce1, ce2, ce3, ce4⟩ := c6.cells
    obtain ⟨u0, u1, u2, u3, f0, f1, f2, f3⟩ := q2b6.cells
    obtain ⟨t0, t1, t2, t3, h0, h1, h2, h3⟩ := q3b6.cells
    obtain ⟨xe0, xe1, xe2, xe3, xe4⟩ := cS7.cells
    obtain ⟨xu0, xu1, xu2, xu3, xf0, xf1, xf2, xf3⟩ := q2S7.cells
    obtain ⟨xt0, xt1, xt2, xt3, xh0, xh1, xh2, xh3⟩ := q3S7.cells
    by_cases d2 : BE = 0
    case neg =>
      have HV : Hid (RR = (zCk, BA, BE)) := by
        show _ = _
        have e := ent_a (p := none) (s := s) (a := GA) (by rw [hBE]; exact d2)
        rw [hBA, hBE] at e
        have e2 := dot_bad (V := V) (s := s) (c := GA) (by rw [e]; exact d2)
        rw [HC.out, hcd, e2, e, if_neg d2]
      have e0 : (BE == 0) = false := beq_eq_false_iff_ne.2 d2
      have e1 : ¬ BE = 0 := d2
      clear d2 HM hcd
      go_wp2
      refine bodyPost_ret (retCk rfl _ _ _ rfl (q2S7.put (.slice none 0 0) (.bool false) (.string ⟨#[]⟩) (.int .u64 0))) rfl ?_
      exact HE.out _ _ _ _ HV.out rfl (cS7.keep (put4_keep _ _ _ _ _ _) (fun e => n2 e.symm)) (KS7.step1 (put4_keep _ _ _ _ _ _) (by have := HG2.out; omega))
    subst d2
    by_cases d3 : BT.size = 0
    case pos =>
      have HV : Hid (RR = (zCk, BA, 14)) := by
        show _ = _
        have e := ent_b (p := none) (s := s) (a := GA) hBE (by rw [hBT, aTest_none, if_pos d3]; decide)
        rw [hBT, hBA, aTest_none, if_pos d3] at e
        have e2 := dot_bad (V := V) (s := s) (c := GA) (by rw [e]; show (14 : Int) ≠ 0; decide)
        rw [HC.out, hcd, e2, e, if_neg (by show ¬ (14 : Int) = 0; decide)]
      have e0 : (BT.size : Int) = 0 := by omega
      clear d3 HM hcd
      have kX : Keep1 b (w6.setCell ⟨g3, 2, none⟩ (.string BT)) ((w6.setCell ⟨g3, 2, none⟩ (.string BT)).setCell ⟨b, 2, none⟩ (.int .i64 14)) := set_keep1 _ _ _ _
      have cX := cS7.setErr 14
      have q2X := q2S7.keep kX n2
      have KX := KS7.trans kX
      obtain ⟨ye0, ye1, ye2, ye3, ye4⟩ := cX.cells
      obtain ⟨yu0, yu1, yu2, yu3, yf0, yf1, yf2, yf3⟩ := q2X.cells
      go_wp2
      refine bodyPost_ret (retCk rfl _ _ _ rfl (q2X.put (.slice none 0 0) (.bool false) (.string ⟨#[]⟩) (.int .u64 0))) rfl ?_
      exact HE.out _ _ _ _ HV.out rfl (cX.keep (put4_keep _ _ _ _ _ _) (fun e => n2 e.symm)) (KX.step1 (put4_keep _ _ _ _ _ _) (by have := HG2.out; omega))
    have i3 : ((BT.size : Int) == 0) = false := beq_eq_false_iff_ne.2 (by omega)
    have i4 : ¬ (BT.size : Int) = 0 := by omega
    have hat : aTest none (bTxt s GA 0 32) = 0 := by rw [hBT, aTest_none, if_neg d3]
    obtain ⟨NN, hNN⟩ : ∃ NN, tNum s BA 0 = NN := ⟨_, rfl⟩
    obtain ⟨NA, hNA⟩ : ∃ NA, tAt s BA 0 = NA := ⟨_, rfl⟩
    obtain ⟨NE, hNE⟩ : ∃ NE, tErr s BA 0 = NE := ⟨_, rfl⟩
    have hNb : 0 ≤ NN := by rw [← hNN]; exact (tNum_lt s BA 0).1
    go_wp2_with fail
    clear ce0 ce1 ce2 ce3 ce4 u0 u1 u2 u3 f0 f1 f2 f3 t0 t1 t2 t3 h0 h1 h2 h3
    clear xe0 xe1 xe2 xe3 xe4 xu0 xu1 xu2 xu3 xf0 xf1 xf2 xf3 xt0 xt1 xt2 xt3 xh0 xh1 xh2 xh3
    clear kS7 c6 q2b6 q3b6 Kb6 hEb6
    generalize (w6.setCell ⟨g3, 2, none⟩ (.string BT)) = V7 at *
    refine (rtake_any cS7).mono ?_
    rintro e w9 ⟨rfl, c9, k9⟩
    have q2b9 := q2S7.keep k9 n2
    have q3b9 := q3S7.keep k9 n3
    have hEb9 := hES7.keep k9 (fun g off mm e hh => by have := HF.out g off mm e; have := HB.out; have := HG2.out; omega)
    have Kb9 := KS7.trans k9
    clear k9 cS7 q2S7 q3S7 KS7 hES7
    rw [hNN]
    rw [hNA, hNE] at c9
    have kS10 : Keep1 g3 w9 (w9.setCell ⟨g3, 3, none⟩ (.int .u64 NN)) := set_keep1 _ _ _ _
    have cS10 := c9.keep kS10 (fun e => n3 e.symm)
    have q2S10 := q2b9.keep kS10 n23
    have q3S10 := q3b9.set3 (.int .u64 NN)
    have hES10 := hEb9.keep kS10 (fun g off m e hh => by have := HF.out g off m e; have := HG3.out; omega)
    have KS10 := Kb9.step1 kS10 (by have := HG2.out; have := HG3.out; omega)
    obtain ⟨ce0, ce1, ce2, ce3, ce4⟩ := c9.cells
    obtain ⟨u0, u1, u2, u3, f0, f1, f2, f3⟩ := q2b9.cells
    obtain ⟨t0, t1, t2, t3, h0, h1, h2, h3⟩ := q3b9.cells
    obtain ⟨xe0, xe1, xe2, xe3, xe4⟩ := cS10.cells
    obtain ⟨xu0, xu1, xu2, xu3, xf0, xf1, xf2, xf3⟩ := q2S10.cells
    obtain ⟨xt0, xt1, xt2, xt3, xh0, xh1, xh2, xh3⟩ := q3S10.cells
    by_cases d4 : NE = 0
    case neg =>
      have HV : Hid (RR = (zCk, NA, NE)) := by
        show _ = _
        have e := ent_c (p := none) (s := s) (a := GA) hBE hat (by rw [hBA, hNE]; exact d4)
        rw [hBA, hNA, hNE] at e
        have e2 := dot_bad (V := V) (s := s) (c := GA) (by rw [e]; exact d4)
        rw [HC.out, hcd, e2, e, if_neg d4]
      have e0 : (NE == 0) = false := beq_eq_false_iff_ne.2 d4
      have e1 : ¬ NE = 0 := d4
      clear d4 HM hcd hat d3 hNb
      go_wp2_with fail
      clear ce0 ce1 ce2 ce3 ce4 u0 u1 u2 u3 f0 f1 f2 f3 t0 t1 t2 t3 h0 h1 h2 h3
      clear xe0 xe1 xe2 xe3 xe4 xu0 xu1 xu2 xu3 xf0 xf1 xf2 xf3 xt0 xt1 xt2 xt3 xh0 xh1 xh2 xh3
      clear kS10 c9 q2b9 q3b9 Kb9 hEb9
      generalize (w9.setCell ⟨g3, 3, none⟩ (.int .u64 NN)) = V10 at *
      obtain ⟨ee0, ee1, ee2, ee3, ee4⟩ := cS10.cells
      refine wp_region_held_drew (S := (fun W => W.cell? ⟨b, 2, none⟩ = some (.int .i64 NE))) (by kernel_rfl) ee2 (fun hHeld => ?_)
      refine wpAnyH_take (i := 0) (v := ?la0v) (by simp only [List.getElem?_toArray, List.getElem?_cons_zero] <;> rfl) (by kernel_rfl) (by kernel_rfl) (by kernel_rfl) (by exact fun _ _ _ h => h) (Or.inl ⟨by rfl, ?la0y⟩) hHeld ?la0r
      case la0y => intro w hSw; (try dsimp only at hSw); go_simp <;> rfl
      simp only [Act.put, List.setIfInBounds_toArray, List.set_cons_zero, List.set_cons_succ]
      refine wpAnyH_take (i := 1) (v := ?la1v) (by simp only [List.getElem?_toArray, List.getElem?_cons_succ, List.getElem?_cons_zero] <;> rfl) (by kernel_rfl) (by kernel_rfl) (by kernel_rfl) (by exact fun _ _ _ h => h) (Or.inl ⟨by rfl, ?la1y⟩) hHeld ?la1r
      case la1y => intro w hSw; (try dsimp only at hSw); go_simp <;> rfl
      simp only [Act.put, List.setIfInBounds_toArray, List.set_cons_zero, List.set_cons_succ]
      refine wpAnyH_take (i := 2) (v := ?la2v) (by simp only [List.getElem?_toArray, List.getElem?_cons_succ, List.getElem?_cons_zero] <;> rfl) (by kernel_rfl) (by kernel_rfl) (by kernel_rfl) (by exact fun _ _ _ h => h) (Or.inl ⟨by rfl, ?la2y⟩) hHeld ?la2r
      case la2y => intro w hSw; (try dsimp only at hSw); go_simp <;> rfl
      simp only [Act.put, List.setIfInBounds_toArray, List.set_cons_zero, List.set_cons_succ]
      refine wpAnyH_take (i := 3) (v := ?la3v) (by simp only [List.getElem?_toArray, List.getElem?_cons_succ, List.getElem?_cons_zero] <;> rfl) (by kernel_rfl) (by kernel_rfl) (by kernel_rfl) (by exact fun _ _ _ h => h) (Or.inl ⟨by rfl, ?la3y⟩) hHeld ?la3r
      case la3y => intro w hSw; (try dsimp only at hSw); go_simp <;> rfl
      simp only [Act.put, List.setIfInBounds_toArray, List.set_cons_zero, List.set_cons_succ]
      refine wpAnyH_take (i := 4) (v := ?la4v) (by simp only [List.getElem?_toArray, List.getElem?_cons_succ, List.getElem?_cons_zero] <;> rfl) (by kernel_rfl) (by kernel_rfl) (by kernel_rfl) (by exact fun _ _ _ h => h) (Or.inl ⟨by rfl, ?la4y⟩) hHeld ?la4r
      case la4y => intro w hSw; (try dsimp only at hSw); go_simp <;> rfl
      simp only [Act.put, List.setIfInBounds_toArray, List.set_cons_zero, List.set_cons_succ]
      refine wpAnyH_take (i := 5) (v := ?la5v) (by simp only [List.getElem?_toArray, List.getElem?_cons_succ, List.getElem?_cons_zero] <;> rfl) (by kernel_rfl) (by kernel_rfl) (by kernel_rfl) (by exact fun _ _ _ h => h) (Or.inl ⟨by rfl, ?la5y⟩) hHeld ?la5r
      case la5y => intro w hSw; (try dsimp only at hSw); go_simp <;> rfl
      simp only [Act.put, List.setIfInBounds_toArray, List.set_cons_zero, List.set_cons_succ]
      refine wpAnyH_take (i := 6) (v := undef) (by simp only [List.getElem?_toArray, List.getElem?_cons_succ, List.getElem?_cons_zero] <;> rfl) (by kernel_rfl) (by kernel_rfl) (by kernel_rfl) (by exact fun _ _ _ h => h) (Or.inr ⟨by rfl, rfl⟩) hHeld ?la6r
      simp only [Act.put, List.setIfInBounds_toArray, List.set_cons_zero, List.set_cons_succ]
      refine wpAnyH_take (i := 7) (v := undef) (by simp only [List.getElem?_toArray, List.getElem?_cons_succ, List.getElem?_cons_zero] <;> rfl) (by kernel_rfl) (by kernel_rfl) (by kernel_rfl) (by exact fun _ _ _ h => h) (Or.inr ⟨by rfl, rfl⟩) hHeld ?la7r
      simp only [Act.put, List.setIfInBounds_toArray, List.set_cons_zero, List.set_cons_succ]
      refine wpAnyH_take (i := 8) (v := undef) (by simp only [List.getElem?_toArray, List.getElem?_cons_succ, List.getElem?_cons_zero] <;> rfl) (by kernel_rfl) (by kernel_rfl) (by kernel_rfl) (by exact fun _ _ _ h => h) (Or.inr ⟨by rfl, rfl⟩) hHeld ?la8r
      simp only [Act.put, List.setIfInBounds_toArray, List.set_cons_zero, List.set_cons_succ]
      refine wpAnyH_take (i := 9) (v := undef) (by simp only [List.getElem?_toArray, List.getElem?_cons_succ, List.getElem?_cons_zero] <;> rfl) (by kernel_rfl) (by kernel_rfl) (by kernel_rfl) (by exact fun _ _ _ h => h) (Or.inr ⟨by rfl, rfl⟩) hHeld ?la9r
      simp only [Act.put, List.setIfInBounds_toArray, List.set_cons_zero, List.set_cons_succ]
      refine wpAnyH_take (i := 10) (v := undef) (by simp only [List.getElem?_toArray, List.getElem?_cons_succ, List.getElem?_cons_zero] <;> rfl) (by kernel_rfl) (by kernel_rfl) (by kernel_rfl) (by exact fun _ _ _ h => h) (Or.inr ⟨by rfl, rfl⟩) hHeld ?la10r
      simp only [Act.put, List.setIfInBounds_toArray, List.set_cons_zero, List.set_cons_succ]
      refine wpAnyH_take (i := 11) (v := undef) (by simp only [List.getElem?_toArray, List.getElem?_cons_succ, List.getElem?_cons_zero] <;> rfl) (by kernel_rfl) (by kernel_rfl) (by kernel_rfl) (by exact fun _ _ _ h => h) (Or.inr ⟨by rfl, rfl⟩) hHeld ?la11r
      simp only [Act.put, List.setIfInBounds_toArray, List.set_cons_zero, List.set_cons_succ]
      refine wpAnyH_take (i := 12) (v := undef) (by simp only [List.getElem?_toArray, List.getElem?_cons_succ, List.getElem?_cons_zero] <;> rfl) (by kernel_rfl) (by kernel_rfl) (by kernel_rfl) (by exact fun _ _ _ h => h) (Or.inr ⟨by rfl, rfl⟩) hHeld ?la12r
      simp only [Act.put, List.setIfInBounds_toArray, List.set_cons_zero, List.set_cons_succ]
      refine wpAnyH_take (i := 13) (v := undef) (by simp only [List.getElem?_toArray, List.getElem?_cons_succ, List.getElem?_cons_zero] <;> rfl) (by kernel_rfl) (by kernel_rfl) (by kernel_rfl) (by exact fun _ _ _ h => h) (Or.inr ⟨by rfl, rfl⟩) hHeld ?la13r
      simp only [Act.put, List.setIfInBounds_toArray, List.set_cons_zero, List.set_cons_succ]
      refine wpAnyH_take (i := 14) (v := undef) (by simp only [List.getElem?_toArray, List.getElem?_cons_succ, List.getElem?_cons_zero] <;> rfl) (by kernel_rfl) (by kernel_rfl) (by kernel_rfl) (by exact fun _ _ _ h => h) (Or.inr ⟨by rfl, rfl⟩) hHeld ?la14r
      simp only [Act.put, List.setIfInBounds_toArray, List.set_cons_zero, List.set_cons_succ]
      refine wpAnyH_take (i := 15) (v := undef) (by simp only [List.getElem?_toArray, List.getElem?_cons_succ, List.getElem?_cons_zero] <;> rfl) (by kernel_rfl) (by kernel_rfl) (by kernel_rfl) (by exact fun _ _ _ h => h) (Or.inr ⟨by rfl, rfl⟩) hHeld ?la15r
      simp only [Act.put, List.setIfInBounds_toArray, List.set_cons_zero, List.set_cons_succ]
      refine wpAnyH_take (i := 16) (v := ?la16v) (by simp only [List.getElem?_toArray, List.getElem?_cons_succ, List.getElem?_cons_zero] <;> rfl) (by kernel_rfl) (by kernel_rfl) (by kernel_rfl) (by exact fun _ _ _ h => h) (Or.inl ⟨by rfl, ?la16y⟩) hHeld ?la16r
      case la16y => intro w hSw; (try dsimp only at hSw); go_simp <;> rfl
      simp only [Act.put, List.setIfInBounds_toArray, List.set_cons_zero, List.set_cons_succ]
      refine wpAnyH_done (by kernel_rfl) ?_ _
      clear hHeld ee0 ee1 ee2 ee3 ee4
      have kd : Keep0 V10 V10.drew := (Keep.refl _ _).drew
      have cD := cS10.keep0 kd
      have q2D := q2S10.keep0 kd
      have KD := KS10.step0 kd
      clear kd cS10 q2S10 KS10
      generalize V10.drew = VD at *
      obtain ⟨ce0, ce1, ce2, ce3, ce4⟩ := cD.cells
      obtain ⟨u0, u1, u2, u3, f0, f1, f2, f3⟩ := q2D.cells
      go_wp2
      refine bodyPost_ret (retCk rfl _ _ _ rfl (q2D.put (.slice none 0 0) (.bool false) (.string ⟨#[]⟩) (.int .u64 0))) rfl ?_
      exact HE.out _ _ _ _ HV.out rfl (cD.keep (put4_keep _ _ _ _ _ _) (fun e => n2 e.symm)) (KD.step1 (put4_keep _ _ _ _ _ _) (by have := HG2.out; omega))
    subst d4
    by_cases d5 : NN = 0
    case pos =>
      subst d5
      have HV : Hid (RR = (zCk, NA, 7)) := by
        show _ = _
        have e := ent_d (p := none) (s := s) (a := GA) hBE hat (by rw [hBA]; exact hNE) (by rw [hBA]; exact hNN)
        rw [hBA, hNA] at e
        have e2 := dot_bad (V := V) (s := s) (c := GA) (by rw [e]; show (7 : Int) ≠ 0; decide)
        rw [HC.out, hcd, e2, e, if_neg (by show ¬ (7 : Int) = 0; decide)]
      clear HM hcd hat d3 hNb
      have kX : Keep1 b (w9.setCell ⟨g3, 3, none⟩ (.int .u64 0)) ((w9.setCell ⟨g3, 3, none⟩ (.int .u64 0)).setCell ⟨b, 2, none⟩ (.int .i64 7)) := set_keep1 _ _ _ _
      have cX := cS10.setErr 7
      have q2X := q2S10.keep kX n2
      have KX := KS10.trans kX
      go_wp2_with fail
      clear ce0 ce1 ce2 ce3 ce4 u0 u1 u2 u3 f0 f1 f2 f3 t0 t1 t2 t3 h0 h1 h2 h3
      clear xe0 xe1 xe2 xe3 xe4 xu0 xu1 xu2 xu3 xf0 xf1 xf2 xf3 xt0 xt1 xt2 xt3 xh0 xh1 xh2 xh3
      clear kX
      generalize ((w9.setCell ⟨g3, 3, none⟩ (.int .u64 0)).setCell ⟨b, 2, none⟩ (.int .i64 7)) = VX at *
      obtain ⟨ee0, ee1, ee2, ee3, ee4⟩ := cX.cells
      refine wp_region_held_drew (S := (fun W => W.cell? ⟨b, 2, none⟩ = some (.int .i64 7))) (by kernel_rfl) ee2 (fun hHeld => ?_)
      refine wpAnyH_take (i := 0) (v := ?lb0v) (by simp only [List.getElem?_toArray, List.getElem?_cons_zero] <;> rfl) (by kernel_rfl) (by kernel_rfl) (by kernel_rfl) (by exact fun _ _ _ h => h) (Or.inl ⟨by rfl, ?lb0y⟩) hHeld ?lb0r
      case lb0y => intro w hSw; (try dsimp only at hSw); go_simp <;> rfl
      simp only [Act.put, List.setIfInBounds_toArray, List.set_cons_zero, List.set_cons_succ]
      refine wpAnyH_take (i := 1) (v := ?lb1v) (by simp only [List.getElem?_toArray, List.getElem?_cons_succ, List.getElem?_cons_zero] <;> rfl) (by kernel_rfl) (by kernel_rfl) (by kernel_rfl) (by exact fun _ _ _ h => h) (Or.inl ⟨by rfl, ?lb1y⟩) hHeld ?lb1r
      case lb1y => intro w hSw; (try dsimp only at hSw); go_simp <;> rfl
      simp only [Act.put, List.setIfInBounds_toArray, List.set_cons_zero, List.set_cons_succ]
      refine wpAnyH_take (i := 2) (v := ?lb2v) (by simp only [List.getElem?_toArray, List.getElem?_cons_succ, List.getElem?_cons_zero] <;> rfl) (by kernel_rfl) (by kernel_rfl) (by kernel_rfl) (by exact fun _ _ _ h => h) (Or.inl ⟨by rfl, ?lb2y⟩) hHeld ?lb2r
      case lb2y => intro w hSw; (try dsimp only at hSw); go_simp <;> rfl
      simp only [Act.put, List.setIfInBounds_toArray, List.set_cons_zero, List.set_cons_succ]
      refine wpAnyH_take (i := 3) (v := ?lb3v) (by simp only [List.getElem?_toArray, List.getElem?_cons_succ, List.getElem?_cons_zero] <;> rfl) (by kernel_rfl) (by kernel_rfl) (by kernel_rfl) (by exact fun _ _ _ h => h) (Or.inl ⟨by rfl, ?lb3y⟩) hHeld ?lb3r
      case lb3y => intro w hSw; (try dsimp only at hSw); go_simp <;> rfl
      simp only [Act.put, List.setIfInBounds_toArray, List.set_cons_zero, List.set_cons_succ]
      refine wpAnyH_take (i := 4) (v := ?lb4v) (by simp only [List.getElem?_toArray, List.getElem?_cons_succ, List.getElem?_cons_zero] <;> rfl) (by kernel_rfl) (by kernel_rfl) (by kernel_rfl) (by exact fun _ _ _ h => h) (Or.inl ⟨by rfl, ?lb4y⟩) hHeld ?lb4r
      case lb4y => intro w hSw; (try dsimp only at hSw); go_simp <;> rfl
      simp only [Act.put, List.setIfInBounds_toArray, List.set_cons_zero, List.set_cons_succ]
      refine wpAnyH_take (i := 5) (v := ?lb5v) (by simp only [List.getElem?_toArray, List.getElem?_cons_succ, List.getElem?_cons_zero] <;> rfl) (by kernel_rfl) (by kernel_rfl) (by kernel_rfl) (by exact fun _ _ _ h => h) (Or.inl ⟨by rfl, ?lb5y⟩) hHeld ?lb5r
      case lb5y => intro w hSw; (try dsimp only at hSw); go_simp <;> rfl
      simp only [Act.put, List.setIfInBounds_toArray, List.set_cons_zero, List.set_cons_succ]
      refine wpAnyH_take (i := 6) (v := undef) (by simp only [List.getElem?_toArray, List.getElem?_cons_succ, List.getElem?_cons_zero] <;> rfl) (by kernel_rfl) (by kernel_rfl) (by kernel_rfl) (by exact fun _ _ _ h => h) (Or.inr ⟨by rfl, rfl⟩) hHeld ?lb6r
      simp only [Act.put, List.setIfInBounds_toArray, List.set_cons_zero, List.set_cons_succ]
      refine wpAnyH_take (i := 7) (v := undef) (by simp only [List.getElem?_toArray, List.getElem?_cons_succ, List.getElem?_cons_zero] <;> rfl) (by kernel_rfl) (by kernel_rfl) (by kernel_rfl) (by exact fun _ _ _ h => h) (Or.inr ⟨by rfl, rfl⟩) hHeld ?lb7r
      simp only [Act.put, List.setIfInBounds_toArray, List.set_cons_zero, List.set_cons_succ]
      refine wpAnyH_take (i := 8) (v := undef) (by simp only [List.getElem?_toArray, List.getElem?_cons_succ, List.getElem?_cons_zero] <;> rfl) (by kernel_rfl) (by kernel_rfl) (by kernel_rfl) (by exact fun _ _ _ h => h) (Or.inr ⟨by rfl, rfl⟩) hHeld ?lb8r
      simp only [Act.put, List.setIfInBounds_toArray, List.set_cons_zero, List.set_cons_succ]
      refine wpAnyH_take (i := 9) (v := undef) (by simp only [List.getElem?_toArray, List.getElem?_cons_succ, List.getElem?_cons_zero] <;> rfl) (by kernel_rfl) (by kernel_rfl) (by kernel_rfl) (by exact fun _ _ _ h => h) (Or.inr ⟨by rfl, rfl⟩) hHeld ?lb9r
      simp only [Act.put, List.setIfInBounds_toArray, List.set_cons_zero, List.set_cons_succ]
      refine wpAnyH_take (i := 10) (v := undef) (by simp only [List.getElem?_toArray, List.getElem?_cons_succ, List.getElem?_cons_zero] <;> rfl) (by kernel_rfl) (by kernel_rfl) (by kernel_rfl) (by exact fun _ _ _ h => h) (Or.inr ⟨by rfl, rfl⟩) hHeld ?lb10r
      simp only [Act.put, List.setIfInBounds_toArray, List.set_cons_zero, List.set_cons_succ]
      refine wpAnyH_take (i := 11) (v := undef) (by simp only [List.getElem?_toArray, List.getElem?_cons_succ, List.getElem?_cons_zero] <;> rfl) (by kernel_rfl) (by kernel_rfl) (by kernel_rfl) (by exact fun _ _ _ h => h) (Or.inr ⟨by rfl, rfl⟩) hHeld ?lb11r
      simp only [Act.put, List.setIfInBounds_toArray, List.set_cons_zero, List.set_cons_succ]
      refine wpAnyH_take (i := 12) (v := undef) (by simp only [List.getElem?_toArray, List.getElem?_cons_succ, List.getElem?_cons_zero] <;> rfl) (by kernel_rfl) (by kernel_rfl) (by kernel_rfl) (by exact fun _ _ _ h => h) (Or.inr ⟨by rfl, rfl⟩) hHeld ?lb12r
      simp only [Act.put, List.setIfInBounds_toArray, List.set_cons_zero, List.set_cons_succ]
      refine wpAnyH_take (i := 13) (v := undef) (by simp only [List.getElem?_toArray, List.getElem?_cons_succ, List.getElem?_cons_zero] <;> rfl) (by kernel_rfl) (by kernel_rfl) (by kernel_rfl) (by exact fun _ _ _ h => h) (Or.inr ⟨by rfl, rfl⟩) hHeld ?lb13r
      simp only [Act.put, List.setIfInBounds_toArray, List.set_cons_zero, List.set_cons_succ]
      refine wpAnyH_take (i := 14) (v := undef) (by simp only [List.getElem?_toArray, List.getElem?_cons_succ, List.getElem?_cons_zero] <;> rfl) (by kernel_rfl) (by kernel_rfl) (by kernel_rfl) (by exact fun _ _ _ h => h) (Or.inr ⟨by rfl, rfl⟩) hHeld ?lb14r
      simp only [Act.put, List.setIfInBounds_toArray, List.set_cons_zero, List.set_cons_succ]
      refine wpAnyH_take (i := 15) (v := undef) (by simp only [List.getElem?_toArray, List.getElem?_cons_succ, List.getElem?_cons_zero] <;> rfl) (by kernel_rfl) (by kernel_rfl) (by kernel_rfl) (by exact fun _ _ _ h => h) (Or.inr ⟨by rfl, rfl⟩) hHeld ?lb15r
      simp only [Act.put, List.setIfInBounds_toArray, List.set_cons_zero, List.set_cons_succ]
      refine wpAnyH_take (i := 16) (v := ?lb16v) (by simp only [List.getElem?_toArray, List.getElem?_cons_succ, List.getElem?_cons_zero] <;> rfl) (by kernel_rfl) (by kernel_rfl) (by kernel_rfl) (by exact fun _ _ _ h => h) (Or.inl ⟨by rfl, ?lb16y⟩) hHeld ?lb16r
      case lb16y => intro w hSw; (try dsimp only at hSw); go_simp <;> rfl
      simp only [Act.put, List.setIfInBounds_toArray, List.set_cons_zero, List.set_cons_succ]
      refine wpAnyH_done (by kernel_rfl) ?_ _
      clear hHeld ee0 ee1 ee2 ee3 ee4
      have kd : Keep0 VX VX.drew := (Keep.refl _ _).drew
      have cD := cX.keep0 kd
      have q2D := q2X.keep0 kd
      have KD := KX.step0 kd
      clear kd cX q2X KX
      generalize VX.drew = VD at *
      obtain ⟨ce0, ce1, ce2, ce3, ce4⟩ := cD.cells
      obtain ⟨u0, u1, u2, u3, f0, f1, f2, f3⟩ := q2D.cells
      go_wp2
      refine bodyPost_ret (retCk rfl _ _ _ rfl (q2D.put (.slice none 0 0) (.bool false) (.string ⟨#[]⟩) (.int .u64 0))) rfl ?_
      exact HE.out _ _ _ _ HV.out rfl (cD.keep (put4_keep _ _ _ _ _ _) (fun e => n2 e.symm)) (KD.step1 (put4_keep _ _ _ _ _ _) (by have := HG2.out; omega))
    have i5 : (NN == 0) = false := beq_eq_false_iff_ne.2 d5
    have i6 : ¬ NN = 0 := d5
    obtain ⟨N, hN⟩ : ∃ N, NN.toNat = N := ⟨_, rfl⟩
    have HNN : Hid (NN = (N : Int)) := by show NN = _; omega
    have hEnt : rEnt none s GA = (⟨BT, N⟩, NA, 0) := by
      have e := ent_e (p := none) (s := s) (a := GA) hBE hat (by rw [hBA]; exact hNE) (by rw [hBA, hNN]; exact d5)
      rw [hBA, hNN, hNA, hBT, hN] at e
      exact e
    have hok : okVec V := by
      have := (vec_codec.read (s := s) (a := a) h.lo h.hi (by rw [hv])).1
      rw [hv] at this
      exact this
    have hVl : V.length ≤ maxLen := by have := ((check_zero _).1 hok.1).1; unfold maxLen; omega
    obtain ⟨VC, hVC⟩ : ∃ VC, vCount V BT = VC := ⟨_, rfl⟩
    have H15 : Hid (N ≤ VC → RR = (zCk, NA, 15)) := by
      intro h6
      have e2 := dot_15' (V := V) (s := s) (c := GA) (by rw [hEnt]) (by rw [hEnt]; show N ≤ vCount V BT; rw [hVC]; exact h6)
      rw [hEnt] at e2
      rw [HC.out, hcd, e2, if_neg (by show ¬ (15 : Int) = 0; decide)]
    have H0 : Hid (¬ N ≤ VC → RR = (⟨V, true, ⟨BT, N⟩⟩, NA, 0)) := by
      intro h6
      have e2 := dot_yes (V := V) (s := s) (c := GA) (by rw [hEnt]) (by rw [hEnt]; show ¬ N ≤ vCount V BT; rw [hVC]; exact h6)
      rw [HC.out, hcd, e2, hEnt, if_pos rfl]
    clear hcd hat d3 hNb hok hEnt hN d5 HC hv
    go_wp2_with fail
    clear ce0 ce1 ce2 ce3 ce4 u0 u1 u2 u3 f0 f1 f2 f3 t0 t1 t2 t3 h0 h1 h2 h3
    clear xe0 xe1 xe2 xe3 xe4 xu0 xu1 xu2 xu3 xf0 xf1 xf2 xf3 xt0 xt1 xt2 xt3 xh0 xh1 xh2 xh3
    clear kS10 c9 q2b9 q3b9 Kb9 hEb9
    generalize (w9.setCell ⟨g3, 3, none⟩ (.int .u64 NN)) = V10 at *
    obtain ⟨ee0, ee1, ee2, ee3, ee4⟩ := cS10.cells
    obtain ⟨tt0, tt1, tt2, tt3, hh0, hh1, hh2, hh3⟩ := q3S10.cells
    have yq := fun (W : World) (K : Keep0 V10 W) => rcount10 W vo vc V hVl (hES10.keep0 K) BT
    rw [hVC] at yq
    refine wp_region_held_drew (S := (fun W => W.cell? ⟨b, 2, none⟩ = some (.int .i64 0) ∧ W.cell? ⟨g3, 0, none⟩ = some (.slice vo V.length vc) ∧ W.cell? ⟨g3, 2, none⟩ = some (.string BT) ∧ W.cell? ⟨g3, 3, none⟩ = some (.int .u64 NN))) (by kernel_rfl) ⟨ee2, tt0, tt2, tt3⟩ (fun hHeld => ?_)
    refine wpAnyH_take (i := 0) (v := ?lc0v) (by simp only [List.getElem?_toArray, List.getElem?_cons_zero] <;> rfl) (by kernel_rfl) (by kernel_rfl) (by kernel_rfl) (by exact fun _ _ _ h => h) (Or.inl ⟨by rfl, ?lc0y⟩) hHeld ?lc0r
    case lc0y => intro w hSw; (try dsimp only at hSw); go_simp <;> rfl
    simp only [Act.put, List.setIfInBounds_toArray, List.set_cons_zero, List.set_cons_succ]
    refine wpAnyH_take (i := 1) (v := ?lc1v) (by simp only [List.getElem?_toArray, List.getElem?_cons_succ, List.getElem?_cons_zero] <;> rfl) (by kernel_rfl) (by kernel_rfl) (by kernel_rfl) (by exact fun _ _ _ h => h) (Or.inl ⟨by rfl, ?lc1y⟩) hHeld ?lc1r
    case lc1y => intro w hSw; (try dsimp only at hSw); go_simp <;> rfl
    simp only [Act.put, List.setIfInBounds_toArray, List.set_cons_zero, List.set_cons_succ]
    refine wpAnyH_take (i := 2) (v := ?lc2v) (by simp only [List.getElem?_toArray, List.getElem?_cons_succ, List.getElem?_cons_zero] <;> rfl) (by kernel_rfl) (by kernel_rfl) (by kernel_rfl) (by exact fun _ _ _ h => h) (Or.inl ⟨by rfl, ?lc2y⟩) hHeld ?lc2r
    case lc2y => intro w hSw; (try dsimp only at hSw); go_simp <;> rfl
    simp only [Act.put, List.setIfInBounds_toArray, List.set_cons_zero, List.set_cons_succ]
    refine wpAnyH_take (i := 3) (v := ?lc3v) (by simp only [List.getElem?_toArray, List.getElem?_cons_succ, List.getElem?_cons_zero] <;> rfl) (by kernel_rfl) (by kernel_rfl) (by kernel_rfl) (by exact fun _ _ _ h => h) (Or.inl ⟨by rfl, ?lc3y⟩) hHeld ?lc3r
    case lc3y => intro w hSw; (try dsimp only at hSw); go_simp <;> rfl
    simp only [Act.put, List.setIfInBounds_toArray, List.set_cons_zero, List.set_cons_succ]
    refine wpAnyH_take (i := 4) (v := ?lc4v) (by simp only [List.getElem?_toArray, List.getElem?_cons_succ, List.getElem?_cons_zero] <;> rfl) (by kernel_rfl) (by kernel_rfl) (by kernel_rfl) (by exact fun _ _ _ h => h) (Or.inl ⟨by rfl, ?lc4y⟩) hHeld ?lc4r
    case lc4y => intro w hSw; (try dsimp only at hSw); go_simp <;> rfl
    simp only [Act.put, List.setIfInBounds_toArray, List.set_cons_zero, List.set_cons_succ]
    refine wpAnyH_take (i := 5) (v := ?lc5v) (by simp only [List.getElem?_toArray, List.getElem?_cons_succ, List.getElem?_cons_zero] <;> rfl) (by kernel_rfl) (by kernel_rfl) (by kernel_rfl) (by exact fun _ _ _ h => h) (Or.inl ⟨by rfl, ?lc5y⟩) hHeld ?lc5r
    case lc5y => intro w hSw; (try dsimp only at hSw); go_simp <;> rfl
    simp only [Act.put, List.setIfInBounds_toArray, List.set_cons_zero, List.set_cons_succ]
    refine wpAnyH_take (i := 6) (v := ?lc6v) (by simp only [List.getElem?_toArray, List.getElem?_cons_succ, List.getElem?_cons_zero] <;> rfl) (by kernel_rfl) (by kernel_rfl) (by kernel_rfl) (by exact fun _ _ _ h => h) (Or.inl ⟨by rfl, ?lc6y⟩) hHeld ?lc6r
    case lc6y => intro w hSw; (try dsimp only at hSw); go_simp <;> rfl
    simp only [Act.put, List.setIfInBounds_toArray, List.set_cons_zero, List.set_cons_succ]
    refine wpAnyH_take (i := 7) (v := ?lc7v) (by simp only [List.getElem?_toArray, List.getElem?_cons_succ, List.getElem?_cons_zero] <;> rfl) (by kernel_rfl) (by kernel_rfl) (by kernel_rfl) (by exact fun _ _ _ h => h) (Or.inl ⟨by rfl, ?lc7y⟩) hHeld ?lc7r
    case lc7y => intro w hSw; (try dsimp only at hSw); go_simp <;> rfl
    simp only [Act.put, List.setIfInBounds_toArray, List.set_cons_zero, List.set_cons_succ]
    refine wpAnyH_take (i := 8) (v := ?lc8v) (by simp only [List.getElem?_toArray, List.getElem?_cons_succ, List.getElem?_cons_zero] <;> rfl) (by kernel_rfl) (by kernel_rfl) (by kernel_rfl) (by exact fun _ _ _ h => h) (Or.inl ⟨by rfl, ?lc8y⟩) hHeld ?lc8r
    case lc8y => intro w hSw; (try dsimp only at hSw); go_simp <;> rfl
    simp only [Act.put, List.setIfInBounds_toArray, List.set_cons_zero, List.set_cons_succ]
    refine wpAnyH_take (i := 9) (v := ?lc9v) (by simp only [List.getElem?_toArray, List.getElem?_cons_succ, List.getElem?_cons_zero] <;> rfl) (by kernel_rfl) (by kernel_rfl) (by kernel_rfl) (by exact fun _ _ _ h => h) (Or.inl ⟨by rfl, ?lc9y⟩) hHeld ?lc9r
    case lc9y => intro w hSw; (try dsimp only at hSw); go_simp <;> rfl
    simp only [Act.put, List.setIfInBounds_toArray, List.set_cons_zero, List.set_cons_succ]
    refine wpAnyH_take (i := 10) (v := ?lc10v) (by simp only [List.getElem?_toArray, List.getElem?_cons_succ, List.getElem?_cons_zero] <;> rfl) (by kernel_rfl) (by kernel_rfl) (by kernel_rfl) (by exact fun _ _ _ h => h) (Or.inl ⟨by rfl, ?lc10y⟩) hHeld ?lc10r
    case lc10y => intro w hSw; (try dsimp only at hSw); go_simp <;> rfl
    simp only [Act.put, List.setIfInBounds_toArray, List.set_cons_zero, List.set_cons_succ]
    refine wpAnyH_take (i := 11) (v := ?lc11v) (by simp only [List.getElem?_toArray, List.getElem?_cons_succ, List.getElem?_cons_zero] <;> rfl) (by kernel_rfl) (by kernel_rfl) (by kernel_rfl) (by exact fun _ _ _ h => h) (Or.inl ⟨by rfl, ?lc11y⟩) hHeld ?lc11r
    case lc11y => intro w hSw; (try dsimp only at hSw); go_simp <;> rfl
    simp only [Act.put, List.setIfInBounds_toArray, List.set_cons_zero, List.set_cons_succ]
    refine wpAnyH_take (i := 12) (v := ?lc12v) (by simp only [List.getElem?_toArray, List.getElem?_cons_succ, List.getElem?_cons_zero] <;> rfl) (by kernel_rfl) (by kernel_rfl) (by kernel_rfl) (by exact fun _ _ _ h => h) (Or.inl ⟨by rfl, ?lc12y⟩) hHeld ?lc12r
    case lc12y => intro w hSw; (try dsimp only at hSw); go_simp <;> rfl
    simp only [Act.put, List.setIfInBounds_toArray, List.set_cons_zero, List.set_cons_succ]
    refine wpAnyH_take (i := 13) (v := ?lc13v) (by simp only [List.getElem?_toArray, List.getElem?_cons_succ, List.getElem?_cons_zero] <;> rfl) (by kernel_rfl) (by kernel_rfl) (by kernel_rfl) (by exact fun _ _ _ h => h) (Or.inl ⟨by rfl, ?lc13y⟩) hHeld ?lc13r
    case lc13y => intro w hSw; (try dsimp only at hSw); go_simp <;> rfl
    simp only [Act.put, List.setIfInBounds_toArray, List.set_cons_zero, List.set_cons_succ]
    refine wpAnyH_ready (rs := [14]) (by kernel_rfl) (by simp) ?_
    refine AllReadyH.cons (by simp only [List.getElem?_toArray, List.getElem?_cons_succ, List.getElem?_cons_zero] <;> rfl) (fun K hK => ?_) AllReadyH.nil
    go_simp
    refine (yq _ (Keep.refl _ _).drew).mono ?_
    rintro e wq ⟨rfl, rfl⟩
    go_wp2_with fail
    refine hK.out _ _ ⟨ee2, tt0, tt2, tt3⟩ (fun hHeld => ?_)
    clear hK K
    refine wpAnyH_take (i := 15) (v := ?lc14v) (by simp only [List.getElem?_toArray, List.getElem?_cons_succ, List.getElem?_cons_zero] <;> rfl) (by kernel_rfl) (by kernel_rfl) (by kernel_rfl) (by exact fun _ _ _ h => h) (Or.inl ⟨by rfl, ?lc14y⟩) hHeld ?lc14r
    case lc14y => intro w hSw; (try dsimp only at hSw); go_simp <;> rfl
    simp only [Act.put, List.setIfInBounds_toArray, List.set_cons_zero, List.set_cons_succ]
    refine wpAnyH_take (i := 16) (v := ?lc15v) (by simp only [List.getElem?_toArray, List.getElem?_cons_succ, List.getElem?_cons_zero] <;> rfl) (by kernel_rfl) (by kernel_rfl) (by kernel_rfl) (by exact fun _ _ _ h => h) (Or.inl ⟨by rfl, ?lc15y⟩) hHeld ?lc15r
    case lc15y => intro w hSw; (try dsimp only at hSw); go_simp <;> rfl
    simp only [Act.put, List.setIfInBounds_toArray, List.set_cons_zero, List.set_cons_succ]
    refine wpAnyH_done (by kernel_rfl) ?_ _
    clear hHeld ee0 ee1 ee2 ee3 ee4 tt0 tt1 tt2 tt3 hh0 hh1 hh2 hh3 yq
    have kd : Keep0 V10 V10.drew := (Keep.refl _ _).drew
    have cD := cS10.keep0 kd
    have q2D := q2S10.keep0 kd
    have q3D := q3S10.keep0 kd
    have hED := hES10.keep0 kd
    have KD := KS10.step0 kd
    clear kd cS10 q2S10 q3S10 KS10 hES10
    generalize V10.drew = VD at *
    by_cases d6 : N ≤ VC
    case pos =>
      have HV : Hid (RR = (zCk, NA, 15)) := H15.out d6
      have i7 : NN ≤ (VC : Int) := by have := HNN.out; omega
      have i8 : decide (NN ≤ (VC : Int)) = true := decide_eq_true i7
      clear HM d6 H0 H15
      have kX : Keep1 b VD (VD.setCell ⟨b, 2, none⟩ (.int .i64 15)) := set_keep1 _ _ _ _
      have cX := cD.setErr 15
      have q2X := q2D.keep kX n2
      have KX := KD.trans kX
      obtain ⟨ee0, ee1, ee2, ee3, ee4⟩ := cD.cells
      obtain ⟨ce0, ce1, ce2, ce3, ce4⟩ := cX.cells
      obtain ⟨u0, u1, u2, u3, f0, f1, f2, f3⟩ := q2X.cells
      go_wp2
      refine bodyPost_ret (retCk rfl _ _ _ rfl (q2X.put (.slice none 0 0) (.bool false) (.string ⟨#[]⟩) (.int .u64 0))) rfl ?_
      exact HE.out _ _ _ _ HV.out rfl (cX.keep (put4_keep _ _ _ _ _ _) (fun e => n2 e.symm)) (KX.step1 (put4_keep _ _ _ _ _ _) (by have := HG2.out; omega))
    have HV : Hid (RR = (⟨V, true, ⟨BT, N⟩⟩, NA, 0)) := H0.out d6
    have i7 : ¬ NN ≤ (VC : Int) := by have := HNN.out; omega
    have i8 : decide (NN ≤ (VC : Int)) = false := decide_eq_false i7
    clear HE d6 H0 H15
    obtain ⟨ce0, ce1, ce2, ce3, ce4⟩ := cD.cells
    obtain ⟨u0, u1, u2, u3, f0, f1, f2, f3⟩ := q2D.cells
    obtain ⟨t0, t1, t2, t3, h0, h1, h2, h3⟩ := q3D.cells
    go_wp2
    refine bodyPost_ret (retCk rfl _ _ _ rfl (q2D.put (.slice vo V.length vc) (.bool true) (.string BT) (.int .u64 NN))) rfl ?_
    exact HM.out _ _ _ _ V true BT N vo vc HV.out (by rw [← HNN.out]) (cD.keep (put4_keep _ _ _ _ _ _) (fun e => n2 e.symm)) (hED.keep (put4_keep _ _ _ _ _ _) (fun g off m e hh => by have := HF.out g off m e; omega)) (fun g off m e => by have := HF.out g off m e; have := HG2.out; omega) (KD.step1 (put4_keep _ _ _ _ _ _) (by have := HG2.out; omega))
end Go.Proofs.YtoefibkhlhmlfaaGreat
