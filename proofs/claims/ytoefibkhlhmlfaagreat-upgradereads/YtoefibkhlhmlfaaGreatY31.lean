/-
  What this seat's claims lean on of the texts DcB.
  Conditions: as each theorem states.
-/
import Derived.WalkKit
import Derived.ProofKit
import Derived.Below
import Derived.Deep.Draws
import Derived.Deep.RegionHeld
import Derived.Test.YtoefibkhlhmlfaaGreatChecked
import Derived.OpenShut
import Derived.ShutString
import Derived.WalkSpells
import Derived.WalkLawsBesides
import Derived.Deep.QuietTactic
import Derived.BigQuiet
import Derived.Laws.Bits64b
import Derived.PlainAid
import Derived.Lib.AppendStr
import Derived.Deep.AppendLies
import Derived.Laws.IdiomStrings
import Derived.Laws.BytesArg
import Derived.Deep.RegionWith
import Derived.Laws.AppendOwn
import Derived.Deep.DeepAppendWide
import Derived.Deep.Upon
import Derived.Laws.Rows
import Derived.Deep.Slices
import Derived.Test.YtoefibkhlhmlfaaGreatY28
import Derived.Test.YtoefibkhlhmlfaaGreatY11
namespace Go.Proofs.YtoefibkhlhmlfaaGreat
open Go.RowKit
theorem retEn {fn : Func} {p : Tmp} (h : fn.results = #[.cell p 53]) (tmps : Array Value) (w : World) (g : Nat) {v0 v1 : Value}
    (hp : tmps.getD p undef = .pointer (some ⟨g, 0, none⟩)) (hg : DAt w g v0 v1) : (results fn tmps).run Tryz.prog w = .ok (.agg #[v0, v1]) w := by
  obtain ⟨ty, hk⟩ := hg.blk
  exact results_cell_row h tmps w g ty _ _ _ hp hk Tryz.underlying53 rfl (by kernel_rfl)
set_option maxRecDepth 100000 in
set_option maxHeartbeats 4000000 in
theorem takeDot13 {w : World} {b : Nat} {s : ByteArray} {a : Int} (h : Cur w b s a 0) :
    Calls Tryz.prog 152 #[ptr b] w fun e w' => e = .returned (.agg #[.string (bTxt s a 0 32), .int .u64 (tNum s (bAt s a 0 32) (zAct none s a))]) ∧ Cur w' b s (tAt s (bAt s a 0 32) (zAct none s a)) (tErr s (bAt s a 0 32) (zAct none s a)) ∧ Keep1 b w w' := by
  have kA : Keep0 w (w.alloc (.cells #[.string ⟨#[]⟩, .int .u64 0] 53)) := (Keep.refl _ w).alloc _
  have q0 := DAt.new w 53 (.string ⟨#[]⟩) (.int .u64 0)
  have h0 := h.keep0 kA
  have hlt := h.lt
  have yb := blob6_any 32 (by decide) h0
  have yt := fun W (h : Cur W b s (bAt s a 0 32) (zAct none s a)) => take_any h
  have HW : Hid (w.heap.size ≤ w.heap.size) := Nat.le_refl _
  by_cases he : (bTxt s a 0 32).size = 0
  · have hT : aTest none (bTxt s a 0 32) = 14 := if_pos he
    have hz : cFail (bErr s a 0 32) 14 = zAct none s a := by unfold zAct; rw [hT]
    have e0 := empty_eq he
    rw [e0] at yb ⊢
    have yf := fun W (h : Cur W b s (bAt s a 0 32) (bErr s a 0 32)) => fail_any 14 h
    rw [hz] at yf
    clear he e0 hT hz
    generalize tNum s (bAt s a 0 32) (zAct none s a) = N at *
    generalize tAt s (bAt s a 0 32) (zAct none s a) = A3 at *
    generalize tErr s (bAt s a 0 32) (zAct none s a) = E3 at *
    generalize zAct none s a = Z at *
    generalize bAt s a 0 32 = A2 at *
    generalize bErr s a 0 32 = E2 at *
    clear h
    go_enter Tryz.func152, Tryz.ntmps152
    go_wp2_with fail
    generalize (w.alloc (.cells #[.string ⟨#[]⟩, .int .u64 0] 53)) = W0 at *
    obtain ⟨g, hg⟩ : ∃ g, w.heap.size = g := ⟨_, rfl⟩
    rw [hg] at q0 hlt ⊢
    have HG : Hid (w.heap.size = g) := hg
    have n0 : g ≠ b := by omega
    clear hg HW
    refine yb.mono ?_
    rintro e w1 ⟨rfl, h1, k1⟩
    have q1 := q0.keep k1 n0
    have K1 : Keep1 b w w1 := (kA.any (R := fun i => i = b)).trans k1
    clear yb k1 kA q0 h0
    go_wp2_with fail
    refine (yf _ h1).mono ?_
    rintro e w2 ⟨rfl, h2, k2⟩
    have q2 := q1.keep k2 n0
    have K2 : Keep1 b w w2 := K1.trans k2
    clear yf k2 K1 q1 h1
    go_wp2_with fail
    refine (yt _ h2).mono ?_
    rintro e w3 ⟨rfl, h3, k3⟩
    have q3 := q2.keep k3 n0
    have K3 : Keep1 b w w3 := K2.trans k3
    clear yt k3 K2 q2 h2
    obtain ⟨x0, x1, f0, f1⟩ := q3.cells
    go_wp2
    refine bodyPost_ret (retEn rfl _ _ _ rfl (q3.put (.string ⟨#[]⟩) (.int .u64 N))) rfl ?_
    exact ⟨rfl, h3.keep (put2_keep _ _ _ _) (fun e => n0 e.symm), K3.step (put2_keep _ _ _ _) (fun i hi hh => by have := HG.out; omega)⟩
  · have hT : aTest none (bTxt s a 0 32) = 0 := if_neg he
    have hz : bErr s a 0 32 = zAct none s a := by
      unfold zAct
      rw [hT]
      unfold cFail
      split
      · rename_i h1; exact h1
      · rfl
    have e1 := empty_no he
    rw [hz] at yb
    clear he hT hz
    generalize tNum s (bAt s a 0 32) (zAct none s a) = N at *
    generalize tAt s (bAt s a 0 32) (zAct none s a) = A3 at *
    generalize tErr s (bAt s a 0 32) (zAct none s a) = E3 at *
    generalize zAct none s a = Z at *
    generalize bAt s a 0 32 = A2 at *
    generalize bTxt s a 0 32 = T at *
    clear h
    go_enter Tryz.func152, Tryz.ntmps152
    go_wp2_with fail
    generalize (w.alloc (.cells #[.string ⟨#[]⟩, .int .u64 0] 53)) = W0 at *
    obtain ⟨g, hg⟩ : ∃ g, w.heap.size = g := ⟨_, rfl⟩
    rw [hg] at q0 hlt ⊢
    have HG : Hid (w.heap.size = g) := hg
    have n0 : g ≠ b := by omega
    clear hg HW
    refine yb.mono ?_
    rintro e w1 ⟨rfl, h1, k1⟩
    have q1 := q0.keep k1 n0
    have K1 : Keep1 b w w1 := (kA.any (R := fun i => i = b)).trans k1
    clear yb k1 kA q0 h0
    go_wp2_with fail
    refine (yt _ h1).mono ?_
    rintro e w3 ⟨rfl, h3, k3⟩
    have q3 := q1.keep k3 n0
    have K3 : Keep1 b w w3 := K1.trans k3
    clear yt k3 K1 q1 h1
    obtain ⟨x0, x1, f0, f1⟩ := q3.cells
    go_wp2
    refine bodyPost_ret (retEn rfl _ _ _ rfl (q3.put (.string T) (.int .u64 N))) rfl ?_
    exact ⟨rfl, h3.keep (put2_keep _ _ _ _) (fun e => n0 e.symm), K3.step (put2_keep _ _ _ _) (fun i hi hh => by have := HG.out; omega)⟩
set_option maxRecDepth 100000 in
set_option maxHeartbeats 8000000 in
theorem take13 {w : World} {b : Nat} {s : ByteArray} {a x : Int} (h : Cur w b s a x) :
    Calls Tryz.prog 113 #[ptr b] w (RTakeK (rX zCk rClk s a x) s b w) := by
  have HE : Hid (∀ (W : World) (e : Ending) (A E : Int), rX zCk rClk s a x = (zCk, A, E) → e = .returned (.agg #[.slice none 0 0, .bool false, .string ⟨#[]⟩, .int .u64 0]) → Cur W b s A E → Keep1 b w W → RTakeK (rX zCk rClk s a x) s b w e W) := fun _ _ _ _ h1 h2 h3 h4 => RTakeK.bare h1 h2 h3 h4
  have HM : Hid (∀ (W : World) (e : Ending) (A E : Int) (V : List En) (d : Bool) (y : ByteArray) (n : Nat) (ao : Option Addr) (cap : Nat), rX zCk rClk s a x = (⟨V, d, ⟨y, n⟩⟩, A, E) → e = .returned (.agg #[.slice ao V.length cap, .bool d, .string y, .int .u64 (n : Int)]) → Cur W b s A E → EnsAt W ao V → (∀ g off m, ao = some ⟨g, off, m⟩ → w.heap.size ≤ g) → Keep1 b w W → RTakeK (rX zCk rClk s a x) s b w e W) := fun _ _ _ _ _ _ _ _ _ _ h1 h2 h3 h4 h5 h6 => RTakeK.mk h1 h2 h3 h4 h5 h6
  have HB : Hid (b < w.heap.size) := h.lt
  obtain ⟨RV, hRV⟩ : ∃ RV, rX [] rVec s a x = RV := ⟨_, rfl⟩
  obtain ⟨V, b1, E1⟩ := RV
  obtain ⟨hv, hok⟩ := vec_right h.lo h.hi hRV
  have hsz := h.sz
  have kA : Keep0 w ((w.alloc (.cells #[.slice none 0 0, .bool false, .string ⟨#[]⟩, .int .u64 0] 58)).alloc (.cells #[.slice none 0 0, .bool false, .string ⟨#[]⟩, .int .u64 0] 58)) := ((Keep.refl _ w).alloc _).alloc _
  have q2 : QAt ((w.alloc (.cells #[.slice none 0 0, .bool false, .string ⟨#[]⟩, .int .u64 0] 58)).alloc (.cells #[.slice none 0 0, .bool false, .string ⟨#[]⟩, .int .u64 0] 58)) w.heap.size (.slice none 0 0) (.bool false) (.string ⟨#[]⟩) (.int .u64 0) := (QAt.new w 58 _ _ _ _).keep0 ((Keep.refl _ _).alloc _)
  have q3 : QAt ((w.alloc (.cells #[.slice none 0 0, .bool false, .string ⟨#[]⟩, .int .u64 0] 58)).alloc (.cells #[.slice none 0 0, .bool false, .string ⟨#[]⟩, .int .u64 0] 58)) (w.heap.size + 1) (.slice none 0 0) (.bool false) (.string ⟨#[]⟩) (.int .u64 0) := by
    have := QAt.new (w.alloc (.cells #[.slice none 0 0, .bool false, .string ⟨#[]⟩, .int .u64 0] 58)) 58 (.slice none 0 0) (.bool false) (.string ⟨#[]⟩) (.int .u64 0)
    rw [World.size_alloc] at this
    exact this
  have hcl := h.lt
  have z1 : ((w.alloc (.cells #[.slice none 0 0, .bool false, .string ⟨#[]⟩, .int .u64 0] 58)).alloc (.cells #[.slice none 0 0, .bool false, .string ⟨#[]⟩, .int .u64 0] 58)).heap.size = w.heap.size + 2 := by rw [World.size_alloc, World.size_alloc]
  have yt := take11 (h.keep0 kA)
  rw [hRV] at yt
  obtain ⟨GA, hGA⟩ : ∃ GA, cAt s b1 E1 1 = GA := ⟨_, rfl⟩
  obtain ⟨GE, hGE⟩ : ∃ GE, gErr s b1 E1 = GE := ⟨_, rfl⟩
  have yg := fun W (h : Cur W b s b1 E1) => flag6_any h
  rw [hGA, hGE] at yg
  cases hGB : gSet s b1 E1 with
  | false =>
    have hch := chain_plain hRV hv hGB
    rw [hGA, hGE] at hch
    obtain ⟨C, hC⟩ : ∃ C, kCheck ⟨V, false, zEn⟩ = C := ⟨_, rfl⟩
    have yc : ∀ (W : World) (vo : Option Addr) (vc : Nat), EnsAt W vo V → Calls Tryz.prog 101 #[.agg #[.slice vo V.length vc, .bool false, .string ⟨#[]⟩, .int .u64 0]] W fun e w' => e = .returned (.int .i64 C) ∧ Keep0 W w' := by
      intro W vo vc hE
      rw [← hC]
      exact check12_any W vo vc V false ⟨#[]⟩ 0 hok (Nat.zero_le _) hE
    rw [hC] at hch
    rw [hGB] at yg
    have HF0 : Hid (rX zCk rClk s a x = kWhen ⟨V, false, zEn⟩ GA (cFail GE C)) := hch
    obtain ⟨F, hF⟩ : ∃ F, cFail GE C = F := ⟨_, rfl⟩
    rw [hF] at HF0
    have yf := fun W (h : Cur W b s GA GE) => fail_any C h
    rw [hF] at yf
    clear hF hch hC hGB hGA hGE hv hok hRV hsz h
    generalize rX zCk rClk s a x = RR at *
    skip
    go_enter Tryz.func113, Tryz.ntmps113
    go_wp2_with fail
    generalize ((w.alloc (.cells #[.slice none 0 0, .bool false, .string ⟨#[]⟩, .int .u64 0] 58)).alloc (.cells #[.slice none 0 0, .bool false, .string ⟨#[]⟩, .int .u64 0] 58)) = W0 at *
    obtain ⟨g2, hg2⟩ : ∃ g2, w.heap.size = g2 := ⟨_, rfl⟩
    rw [hg2] at q2 q3 z1 hcl ⊢
    obtain ⟨g3, hg3⟩ : ∃ g3, g2 + 1 = g3 := ⟨_, rfl⟩
    rw [hg3] at q3 ⊢
    have n2 : g2 ≠ b := by omega
    have n3 : g3 ≠ b := by omega
    have n23 : g2 ≠ g3 := by omega
    refine yt.mono ?_
    rintro e w1 ⟨vo, vc, rfl, c1, hE1, hF1, k1⟩
    replace c1 : Cur w1 b s b1 E1 := c1
    replace hE1 : EnsAt w1 vo V := hE1
    dsimp only
    have K1 : Keep1 b w w1 := (kA.any (R := fun i => i = b)).trans k1
    have q2a := q2.keep k1 n2
    have q3a := q3.keep k1 n3
    have HF : Hid (∀ g off m, vo = some ⟨g, off, m⟩ → g2 + 2 ≤ g) := fun g off m e => by have := hF1 g off m e; omega
    have HG2 : Hid (w.heap.size = g2) := hg2
    have HG3 : Hid (g2 + 1 = g3) := hg3
    clear yt kA k1 q2 q3 hF1 z1 hcl hg2 hg3
    obtain ⟨ce0, ce1, ce2, ce3, ce4⟩ := c1.cells
    obtain ⟨u0, u1, u2, u3, f0, f1, f2, f3⟩ := q2a.cells
    obtain ⟨t0, t1, t2, t3, h0, h1, h2, h3⟩ := q3a.cells
    have kS1 : Keep1 g3 w1 (w1.setCell ⟨g3, 0, none⟩ (.slice vo V.length vc)) := set_keep1 _ _ _ _
    have cS1 := c1.keep kS1 (fun e => n3 e.symm)
    have q2S1 := q2a.keep kS1 n23
    have q3S1 := q3a.set0 (.slice vo V.length vc)
    have hES1 := hE1.keep kS1 (fun g off m e hh => by have := HF.out g off m e; have := HG3.out; omega)
    have KS1 := K1.step1 kS1 (by have := HG2.out; have := HG3.out; omega)
    go_wp2_with fail
    clear ce0 ce1 ce2 ce3 ce4 u0 u1 u2 u3 f0 f1 f2 f3 t0 t1 t2 t3 h0 h1 h2 h3
    clear kS1 c1 q2a q3a K1 hE1
    generalize (w1.setCell ⟨g3, 0, none⟩ (.slice vo V.length vc)) = V1 at *
    refine (yg _ cS1).mono ?_
    rintro e w3 ⟨rfl, c3, k3⟩
    have q2b := q2S1.keep k3 n2
    have q3b := q3S1.keep k3 n3
    have hEb := hES1.keep k3 (fun g off mm e hh => by have := HF.out g off mm e; have := HB.out; have := HG2.out; omega)
    have Kb := KS1.trans k3
    clear k3 cS1 q2S1 q3S1 KS1 hES1 yg
    obtain ⟨ce0, ce1, ce2, ce3, ce4⟩ := c3.cells
    obtain ⟨u0, u1, u2, u3, f0, f1, f2, f3⟩ := q2b.cells
    obtain ⟨t0, t1, t2, t3, h0, h1, h2, h3⟩ := q3b.cells
    have kS4 : Keep1 g3 w3 (w3.setCell ⟨g3, 1, none⟩ (.bool false)) := set_keep1 _ _ _ _
    have cS4 := c3.keep kS4 (fun e => n3 e.symm)
    have q2S4 := q2b.keep kS4 n23
    have q3S4 := q3b.set1 (.bool false)
    have hES4 := hEb.keep kS4 (fun g off m e hh => by have := HF.out g off m e; have := HG3.out; omega)
    have KS4 := Kb.step1 kS4 (by have := HG2.out; have := HG3.out; omega)
    obtain ⟨xce0, xce1, xce2, xce3, xce4⟩ := cS4.cells
    obtain ⟨xu0, xu1, xu2, xu3, xf0, xf1, xf2, xf3⟩ := q2S4.cells
    obtain ⟨xt0, xt1, xt2, xt3, xh0, xh1, xh2, xh3⟩ := q3S4.cells
    go_wp2_with fail
    clear ce0 ce1 ce2 ce3 ce4 u0 u1 u2 u3 f0 f1 f2 f3 t0 t1 t2 t3 h0 h1 h2 h3
    clear xce0 xce1 xce2 xce3 xce4 xu0 xu1 xu2 xu3 xf0 xf1 xf2 xf3 xt0 xt1 xt2 xt3 xh0 xh1 xh2 xh3
    clear kS4 c3 q2b q3b Kb hEb
    generalize (w3.setCell ⟨g3, 1, none⟩ (.bool false)) = V4 at *
    refine (yc _ _ vc hES4).mono ?_
    rintro e w8 ⟨rfl, k8⟩
    have c8 := cS4.keep0 k8
    have q2e := q2S4.keep0 k8
    have q3e := q3S4.keep0 k8
    have hEe := hES4.keep0 k8
    have Ke := KS4.step0 k8
    clear k8 cS4 q2S4 q3S4 KS4 hES4 yc
    go_wp2_with fail
    refine (yf _ c8).mono ?_
    rintro e w9 ⟨rfl, c9, k9⟩
    have q2f := q2e.keep k9 n2
    have q3f := q3e.keep k9 n3
    have hEf := hEe.keep k9 (fun g off mm e hh => by have := HF.out g off mm e; have := HB.out; have := HG2.out; omega)
    have Kf := Ke.trans k9
    have ye := err_any c9
    clear k9 c8 q2e q3e hEe Ke yf
    go_wp2_with fail
    refine ye.mono ?_
    rintro e w9' ⟨rfl, rfl⟩
    clear ye
    obtain ⟨ce0, ce1, ce2, ce3, ce4⟩ := c9.cells
    obtain ⟨u0, u1, u2, u3, f0, f1, f2, f3⟩ := q2f.cells
    obtain ⟨t0, t1, t2, t3, h0, h1, h2, h3⟩ := q3f.cells
    by_cases hz : F = 0
    · subst hz
      have hr := HF0.out
      rw [when_yes] at hr
      have HV : Hid (RR = (⟨V, false, zEn⟩, GA, 0)) := hr
      clear hr HF0 HE
      go_wp2
      refine bodyPost_ret (retCk rfl _ _ _ rfl (q2f.put (.slice vo V.length vc) (.bool false) (.string ⟨#[]⟩) (.int .u64 0))) rfl ?_
      exact HM.out _ _ _ _ V false ⟨#[]⟩ 0 vo vc HV.out rfl (c9.keep (put4_keep _ _ _ _ _ _) (fun e => n2 e.symm)) (hEf.keep (put4_keep _ _ _ _ _ _) (fun g off m e hh => by have := HF.out g off m e; omega)) (fun g off m e => by have := HF.out g off m e; have := HG2.out; omega) (Kf.step1 (put4_keep _ _ _ _ _ _) (by have := HG2.out; omega))
    · have hr := HF0.out
      rw [when_no hz] at hr
      have HV : Hid (RR = (zCk, GA, F)) := hr
      have e0 : (F != 0) = true := by simpa using hz
      clear hr HF0 HM hz
      go_wp2
      refine bodyPost_ret (retCk rfl _ _ _ rfl (q2f.put (.slice none 0 0) (.bool false) (.string ⟨#[]⟩) (.int .u64 0))) rfl ?_
      exact HE.out _ _ _ _ HV.out rfl (c9.keep (put4_keep _ _ _ _ _ _) (fun e => n2 e.symm)) (Kf.step1 (put4_keep _ _ _ _ _ _) (by have := HG2.out; omega))
  | true =>
    obtain ⟨hE1, hG0⟩ := set_fine hGB
    subst hE1
    rw [hGE] at hG0
    subst hG0
    obtain ⟨N, hN⟩ : ∃ N : Nat, tNum s (bAt s GA 0 32) (zAct none s GA) = (N : Int) := ⟨(tNum s (bAt s GA 0 32) (zAct none s GA)).toNat, by have := tNum_lt s (bAt s GA 0 32) (zAct none s GA); omega⟩
    have hch := chain_dot hRV hv hGB hGA hN
    have yd := fun W (h : Cur W b s GA 0) => takeDot13 h
    rw [hN] at yd
    have hT : (bTxt s GA 0 32).size ≤ maxLen := by have : (bTxt s GA 0 32).size ≤ 32 := zAct_size; unfold maxLen; omega
    obtain ⟨C, hC⟩ : ∃ C, kCheck ⟨V, true, ⟨bTxt s GA 0 32, N⟩⟩ = C := ⟨_, rfl⟩
    have yc : ∀ (W : World) (vo : Option Addr) (vc : Nat), EnsAt W vo V → Calls Tryz.prog 101 #[.agg #[.slice vo V.length vc, .bool true, .string (bTxt s GA 0 32), .int .u64 (N : Int)]] W fun e w' => e = .returned (.int .i64 C) ∧ Keep0 W w' := by
      intro W vo vc hE
      rw [← hC]
      exact check12_any W vo vc V true (bTxt s GA 0 32) N hok hT hE
    rw [hC] at hch
    generalize bTxt s GA 0 32 = T at *
    generalize tAt s (bAt s GA 0 32) (zAct none s GA) = A3 at *
    generalize tErr s (bAt s GA 0 32) (zAct none s GA) = E3 at *
    generalize bAt s GA 0 32 = A2 at *
    generalize zAct none s GA = Z2 at *
    clear hN hT
    rw [hGB] at yg
    have HF0 : Hid (rX zCk rClk s a x = kWhen ⟨V, true, ⟨T, N⟩⟩ A3 (cFail E3 C)) := hch
    obtain ⟨F, hF⟩ : ∃ F, cFail E3 C = F := ⟨_, rfl⟩
    rw [hF] at HF0
    have yf := fun W (h : Cur W b s A3 E3) => fail_any C h
    rw [hF] at yf
    clear hF hch hC hGB hGA hGE hv hok hRV hsz h
    generalize rX zCk rClk s a x = RR at *
    skip
    go_enter Tryz.func113, Tryz.ntmps113
    go_wp2_with fail
    generalize ((w.alloc (.cells #[.slice none 0 0, .bool false, .string ⟨#[]⟩, .int .u64 0] 58)).alloc (.cells #[.slice none 0 0, .bool false, .string ⟨#[]⟩, .int .u64 0] 58)) = W0 at *
    obtain ⟨g2, hg2⟩ : ∃ g2, w.heap.size = g2 := ⟨_, rfl⟩
    rw [hg2] at q2 q3 z1 hcl ⊢
    obtain ⟨g3, hg3⟩ : ∃ g3, g2 + 1 = g3 := ⟨_, rfl⟩
    rw [hg3] at q3 ⊢
    have n2 : g2 ≠ b := by omega
    have n3 : g3 ≠ b := by omega
    have n23 : g2 ≠ g3 := by omega
    refine yt.mono ?_
    rintro e w1 ⟨vo, vc, rfl, c1, hE1, hF1, k1⟩
    replace c1 : Cur w1 b s b1 0 := c1
    replace hE1 : EnsAt w1 vo V := hE1
    dsimp only
    have K1 : Keep1 b w w1 := (kA.any (R := fun i => i = b)).trans k1
    have q2a := q2.keep k1 n2
    have q3a := q3.keep k1 n3
    have HF : Hid (∀ g off m, vo = some ⟨g, off, m⟩ → g2 + 2 ≤ g) := fun g off m e => by have := hF1 g off m e; omega
    have HG2 : Hid (w.heap.size = g2) := hg2
    have HG3 : Hid (g2 + 1 = g3) := hg3
    clear yt kA k1 q2 q3 hF1 z1 hcl hg2 hg3
    obtain ⟨ce0, ce1, ce2, ce3, ce4⟩ := c1.cells
    obtain ⟨u0, u1, u2, u3, f0, f1, f2, f3⟩ := q2a.cells
    obtain ⟨t0, t1, t2, t3, h0, h1, h2, h3⟩ := q3a.cells
    have kS1 : Keep1 g3 w1 (w1.setCell ⟨g3, 0, none⟩ (.slice vo V.length vc)) := set_keep1 _ _ _ _
    have cS1 := c1.keep kS1 (fun e => n3 e.symm)
    have q2S1 := q2a.keep kS1 n23
    have q3S1 := q3a.set0 (.slice vo V.length vc)
    have hES1 := hE1.keep kS1 (fun g off m e hh => by have := HF.out g off m e; have := HG3.out; omega)
    have KS1 := K1.step1 kS1 (by have := HG2.out; have := HG3.out; omega)
    go_wp2_with fail
    clear ce0 ce1 ce2 ce3 ce4 u0 u1 u2 u3 f0 f1 f2 f3 t0 t1 t2 t3 h0 h1 h2 h3
    clear kS1 c1 q2a q3a K1 hE1
    generalize (w1.setCell ⟨g3, 0, none⟩ (.slice vo V.length vc)) = V1 at *
    refine (yg _ cS1).mono ?_
    rintro e w3 ⟨rfl, c3, k3⟩
    have q2b := q2S1.keep k3 n2
    have q3b := q3S1.keep k3 n3
    have hEb := hES1.keep k3 (fun g off mm e hh => by have := HF.out g off mm e; have := HB.out; have := HG2.out; omega)
    have Kb := KS1.trans k3
    clear k3 cS1 q2S1 q3S1 KS1 hES1 yg
    obtain ⟨ce0, ce1, ce2, ce3, ce4⟩ := c3.cells
    obtain ⟨u0, u1, u2, u3, f0, f1, f2, f3⟩ := q2b.cells
    obtain ⟨t0, t1, t2, t3, h0, h1, h2, h3⟩ := q3b.cells
    have kS4 : Keep1 g3 w3 (w3.setCell ⟨g3, 1, none⟩ (.bool true)) := set_keep1 _ _ _ _
    have cS4 := c3.keep kS4 (fun e => n3 e.symm)
    have q2S4 := q2b.keep kS4 n23
    have q3S4 := q3b.set1 (.bool true)
    have hES4 := hEb.keep kS4 (fun g off m e hh => by have := HF.out g off m e; have := HG3.out; omega)
    have KS4 := Kb.step1 kS4 (by have := HG2.out; have := HG3.out; omega)
    obtain ⟨xce0, xce1, xce2, xce3, xce4⟩ := cS4.cells
    obtain ⟨xu0, xu1, xu2, xu3, xf0, xf1, xf2, xf3⟩ := q2S4.cells
    obtain ⟨xt0, xt1, xt2, xt3, xh0, xh1, xh2, xh3⟩ := q3S4.cells
    go_wp2_with fail
    clear ce0 ce1 ce2 ce3 ce4 u0 u1 u2 u3 f0 f1 f2 f3 t0 t1 t2 t3 h0 h1 h2 h3
    clear xce0 xce1 xce2 xce3 xce4 xu0 xu1 xu2 xu3 xf0 xf1 xf2 xf3 xt0 xt1 xt2 xt3 xh0 xh1 xh2 xh3
    clear kS4 c3 q2b q3b Kb hEb
    generalize (w3.setCell ⟨g3, 1, none⟩ (.bool true)) = V4 at *
    refine (yd _ cS4).mono ?_
    rintro e w5 ⟨rfl, c5, k5⟩
    have q2d := q2S4.keep k5 n2
    have q3d := q3S4.keep k5 n3
    have hEd := hES4.keep k5 (fun g off mm e hh => by have := HF.out g off mm e; have := HB.out; have := HG2.out; omega)
    have Kd := KS4.trans k5
    clear k5 cS4 q2S4 q3S4 KS4 hES4 yd
    obtain ⟨ce0, ce1, ce2, ce3, ce4⟩ := c5.cells
    obtain ⟨u0, u1, u2, u3, f0, f1, f2, f3⟩ := q2d.cells
    obtain ⟨t0, t1, t2, t3, h0, h1, h2, h3⟩ := q3d.cells
    have kS6 : Keep1 g3 w5 (w5.setCell ⟨g3, 2, none⟩ (.string T)) := set_keep1 _ _ _ _
    have cS6 := c5.keep kS6 (fun e => n3 e.symm)
    have q2S6 := q2d.keep kS6 n23
    have q3S6 := q3d.set2 (.string T)
    have hES6 := hEd.keep kS6 (fun g off m e hh => by have := HF.out g off m e; have := HG3.out; omega)
    have KS6 := Kd.step1 kS6 (by have := HG2.out; have := HG3.out; omega)
    have kS7 : Keep1 g3 (w5.setCell ⟨g3, 2, none⟩ (.string T)) ((w5.setCell ⟨g3, 2, none⟩ (.string T)).setCell ⟨g3, 3, none⟩ (.int .u64 (N : Int))) := set_keep1 _ _ _ _
    have cS7 := cS6.keep kS7 (fun e => n3 e.symm)
    have q2S7 := q2S6.keep kS7 n23
    have q3S7 := q3S6.set3 (.int .u64 (N : Int))
    have hES7 := hES6.keep kS7 (fun g off m e hh => by have := HF.out g off m e; have := HG3.out; omega)
    have KS7 := KS6.step1 kS7 (by have := HG2.out; have := HG3.out; omega)
    obtain ⟨xce0, xce1, xce2, xce3, xce4⟩ := cS7.cells
    obtain ⟨xu0, xu1, xu2, xu3, xf0, xf1, xf2, xf3⟩ := q2S7.cells
    obtain ⟨xt0, xt1, xt2, xt3, xh0, xh1, xh2, xh3⟩ := q3S7.cells
    have yc := yc _ _ vc hES7
    go_wp2_with fail
    clear ce0 ce1 ce2 ce3 ce4 u0 u1 u2 u3 f0 f1 f2 f3 t0 t1 t2 t3 h0 h1 h2 h3
    clear xce0 xce1 xce2 xce3 xce4 xu0 xu1 xu2 xu3 xf0 xf1 xf2 xf3 xt0 xt1 xt2 xt3 xh0 xh1 xh2 xh3
    clear kS6 kS7 c5 q2d q3d Kd hEd cS6 q2S6 q3S6 KS6 hES6
    generalize ((w5.setCell ⟨g3, 2, none⟩ (.string T)).setCell ⟨g3, 3, none⟩ (.int .u64 (N : Int))) = V7 at *
    refine yc.mono ?_
    rintro e w8 ⟨rfl, k8⟩
    have c8 := cS7.keep0 k8
    have q2e := q2S7.keep0 k8
    have q3e := q3S7.keep0 k8
    have hEe := hES7.keep0 k8
    have Ke := KS7.step0 k8
    clear k8 cS7 q2S7 q3S7 KS7 hES7 yc
    go_wp2_with fail
    refine (yf _ c8).mono ?_
    rintro e w9 ⟨rfl, c9, k9⟩
    have q2f := q2e.keep k9 n2
    have q3f := q3e.keep k9 n3
    have hEf := hEe.keep k9 (fun g off mm e hh => by have := HF.out g off mm e; have := HB.out; have := HG2.out; omega)
    have Kf := Ke.trans k9
    have ye := err_any c9
    clear k9 c8 q2e q3e hEe Ke yf
    go_wp2_with fail
    refine ye.mono ?_
    rintro e w9' ⟨rfl, rfl⟩
    clear ye
    obtain ⟨ce0, ce1, ce2, ce3, ce4⟩ := c9.cells
    obtain ⟨u0, u1, u2, u3, f0, f1, f2, f3⟩ := q2f.cells
    obtain ⟨t0, t1, t2, t3, h0, h1, h2, h3⟩ := q3f.cells
    by_cases hz : F = 0
    · subst hz
      have hr := HF0.out
      rw [when_yes] at hr
      have HV : Hid (RR = (⟨V, true, ⟨T, N⟩⟩, A3, 0)) := hr
      clear hr HF0 HE
      go_wp2
      refine bodyPost_ret (retCk rfl _ _ _ rfl (q2f.put (.slice vo V.length vc) (.bool true) (.string T) (.int .u64 (N : Int)))) rfl ?_
      exact HM.out _ _ _ _ V true T N vo vc HV.out rfl (c9.keep (put4_keep _ _ _ _ _ _) (fun e => n2 e.symm)) (hEf.keep (put4_keep _ _ _ _ _ _) (fun g off m e hh => by have := HF.out g off m e; omega)) (fun g off m e => by have := HF.out g off m e; have := HG2.out; omega) (Kf.step1 (put4_keep _ _ _ _ _ _) (by have := HG2.out; omega))
    · have hr := HF0.out
      rw [when_no hz] at hr
      have HV : Hid (RR = (zCk, A3, F)) := hr
      have e0 : (F != 0) = true := by simpa using hz
      clear hr HF0 HM hz
      go_wp2
      refine bodyPost_ret (retCk rfl _ _ _ rfl (q2f.put (.slice none 0 0) (.bool false) (.string ⟨#[]⟩) (.int .u64 0))) rfl ?_
      exact HE.out _ _ _ _ HV.out rfl (c9.keep (put4_keep _ _ _ _ _ _) (fun e => n2 e.symm)) (Kf.step1 (put4_keep _ _ _ _ _ _) (by have := HG2.out; omega))
end Go.Proofs.YtoefibkhlhmlfaaGreat
