/-
  What this seat's claims lean on of the texts SbE.
  Conditions: as each theorem states.
-/
import Derived.WalkKit
import Derived.ProofKit
import Derived.Below
import Derived.Deep.Draws
import Derived.Deep.RegionHeld
import Derived.Test.YtfpahdnhnhkcdaaChecked
import Derived.OpenShut
import Derived.ShutString
import Derived.WalkSpells
import Derived.WalkLawsBesides
import Derived.Deep.QuietTactic
import Derived.BigQuiet
import Derived.Laws.Bits64b
import Derived.PlainAid
import Derived.Lib.AppendStr
import Derived.Deep.AppendLies
import Derived.Laws.IdiomStrings
import Derived.Laws.BytesArg
import Derived.Deep.RegionWith
import Derived.Laws.AppendOwn
import Derived.Deep.DeepAppendWide
import Derived.Deep.Upon
import Derived.Laws.Rows
import Derived.Deep.Slices
import Derived.Test.YtfpahdnhnhkcdaaZ42
namespace Go.Proofs.Ytfpahdnhnhkcdaa
open Go.RowKit
set_option maxRecDepth 100000 in
set_option maxHeartbeats 4000000 in
theorem encode15 (w : World) (vo : Option Addr) (vc : Nat) (po : Option Addr) (pc : Nat) (k : Sb) (ok : Ok15 k) (hc : SibIn w vo po pc k) :
    Calls Try.prog 10 #[.agg #[.slice vo k.k.c.length vc, .bool k.k.d, .string k.k.x.a, .int .u64 (k.k.x.n : Int), .slice po k.m.length pc, .bool k.d, .string k.v]] w fun e w' => e = .returned (.tuple #[.string (encS k).1, .int .i64 (encS k).2]) ∧ Keep0 w w' := by
  have he := encS_pen (x := k) ok.u64.1 ok.u64.2
  have k0 : Keep0 w (w.alloc (.cells #[.slice vo k.k.c.length vc, .bool k.k.d, .string k.k.x.a, .int .u64 (k.k.x.n : Int), .slice po k.m.length pc, .bool k.d, .string k.v] 30)) := (Keep.refl _ w).alloc _
  have q0 := SAt.new w 30 (.slice vo k.k.c.length vc) (.bool k.k.d) (.string k.k.x.a) (.int .u64 (k.k.x.n : Int)) (.slice po k.m.length pc) (.bool k.d) (.string k.v)
  have z0 : (w.alloc (.cells #[.slice vo k.k.c.length vc, .bool k.k.d, .string k.k.x.a, .int .u64 (k.k.x.n : Int), .slice po k.m.length pc, .bool k.d, .string k.v] 30)).heap.size = w.heap.size + 1 := by rw [World.size_alloc]
  have yn := pnew_any (w.alloc (.cells #[.slice vo k.k.c.length vc, .bool k.k.d, .string k.k.x.a, .int .u64 (k.k.x.n : Int), .slice po k.m.length pc, .bool k.d, .string k.v] 30)) 65536 (by decide)
  have hpm : pMax 65536 = 65536 := rfl
  rw [hpm, z0] at yn
  have hB : ∀ W, Pen W (w.heap.size + 1) (w.heap.size + 1) ⟨#[]⟩ 65536 0 → Keep0 w W → Calls Try.prog 27 #[pptr (w.heap.size + 1), .slice (some ⟨W.heap.size, 0, none⟩) 1 1] (W.alloc (.cells #[.slice vo k.k.c.length vc, .bool k.k.d, .string k.k.x.a, .int .u64 (k.k.x.n : Int), .slice po k.m.length pc, .bool k.d, .string k.v] 30)) fun e w' => e = .returned (.tuple #[]) ∧ ∃ r', Pen w' (w.heap.size + 1) r' (pSib 65536 (⟨#[]⟩, 0) k).1 65536 (pSib 65536 (⟨#[]⟩, 0) k).2 ∧ Keep0 w w' := by
    intro W hP hK
    have kA : Keep0 W (W.alloc (.cells #[.slice vo k.k.c.length vc, .bool k.k.d, .string k.k.x.a, .int .u64 (k.k.x.n : Int), .slice po k.m.length pc, .bool k.d, .string k.v] 30)) := (Keep.refl _ W).alloc _
    have hlt := hP.lt
    refine (put15 (some ⟨W.heap.size, 0, none⟩) 1 [k] (hP.keep0 kA) (by decide) (by show 1 ≤ 100; decide) (fun y hy => by rw [List.mem_singleton.1 hy]; exact ok) ?_).mono ?_
    · intro i hi
      obtain rfl : i = 0 := by simpa using hi
      refine ⟨W.heap.size, 0, vo, vc, po, pc, rfl, by unfold two; omega, sib_new W _ k vo vc po pc, hc.keep0 (hK.trans kA), fun hl g off m e hh => ?_, fun hl g off m e hh => ?_⟩
      · have := ens_old hc.ens hl g off m e
        unfold two at hh
        omega
      · have := prs_old hc.prs hl g off m e
        unfold two at hh
        omega
    · rintro e w' ⟨rfl, r', hp, k, _⟩
      exact ⟨rfl, r', hp, (hK.trans kA).step k (fun i hi hh => by unfold two at hh; omega)⟩
  have e1 : (encS k).1 = pEnd (pSib 65536 (⟨#[]⟩, 0) k).1 (pSib 65536 (⟨#[]⟩, 0) k).2 := by rw [← he]
  have e2 : (encS k).2 = (pSib 65536 (⟨#[]⟩, 0) k).2 := by rw [← he]
  rw [e1, e2]
  have HB : Hid (∀ W, Pen W (w.heap.size + 1) (w.heap.size + 1) ⟨#[]⟩ 65536 0 → Keep0 w W → Calls Try.prog 27 #[pptr (w.heap.size + 1), .slice (some ⟨W.heap.size, 0, none⟩) 1 1] (W.alloc (.cells #[.slice vo k.k.c.length vc, .bool k.k.d, .string k.k.x.a, .int .u64 (k.k.x.n : Int), .slice po k.m.length pc, .bool k.d, .string k.v] 30)) fun e w' => e = .returned (.tuple #[]) ∧ ∃ r', Pen w' (w.heap.size + 1) r' (pSib 65536 (⟨#[]⟩, 0) k).1 65536 (pSib 65536 (⟨#[]⟩, 0) k).2 ∧ Keep0 w w') := hB
  generalize pSib 65536 (⟨#[]⟩, 0) k = P at *
  have ye := fun W r' (h : Pen W (w.heap.size + 1) r' P.1 65536 P.2) => pend_any h
  generalize pEnd P.1 P.2 = PE at *
  clear he e1 e2 hpm hB hc ok
  go_enter Try.func10, Try.ntmps10
  go_wp2_with fail
  generalize (w.alloc (.cells #[.slice vo k.k.c.length vc, .bool k.k.d, .string k.k.x.a, .int .u64 (k.k.x.n : Int), .slice po k.m.length pc, .bool k.d, .string k.v] 30)) = W0 at *
  obtain ⟨g, hg⟩ : ∃ g, w.heap.size = g := ⟨_, rfl⟩
  rw [hg] at q0 z0 yn ye HB ⊢
  refine yn.mono ?_
  rintro e w1 ⟨rfl, h1, k1⟩
  have K1 := k0.trans k1
  have yp := HB.out w1 h1 K1
  obtain ⟨x0, x1, x2, x3, x4, x5, x6, f0, f1, f2, f3, f4, f5, f6⟩ := (q0.keep0 k1).cells
  clear yn HB k0 k1 q0
  go_wp2_with fail
  refine yp.mono ?_
  rintro e w2 ⟨rfl, r2, h2, K2⟩
  have ye := ye _ _ h2
  clear yp K1 h1 x0 x1 x2 x3 x4 x5 x6 f0 f1 f2 f3 f4 f5 f6
  go_wp2_with fail
  refine ye.mono ?_
  rintro e w3 ⟨rfl, rfl⟩
  clear ye
  go_wp2
  go_ret2
  exact ⟨rfl, K2⟩
set_option maxRecDepth 100000 in
set_option maxHeartbeats 4000000 in
theorem decode15 (w : World) (s : ByteArray) (hs : s.size ≤ maxLen) :
    Calls Try.prog 17 #[.string s] w (RSibE (decS s) w) := by
  have HE : Hid (∀ (W : World) (e : Ending) (E : Int), decS s = (zSb, E) → e = .returned (.tuple #[.agg #[.slice none 0 0, .bool false, .string ⟨#[]⟩, .int .u64 0, .slice none 0 0, .bool false, .string ⟨#[]⟩], .int .i64 E]) → Keep0 w W → RSibE (decS s) w e W) := fun _ _ _ h1 h2 h3 => RSibE.bare h1 h2 h3
  have HM : Hid (∀ (W : World) (e : Ending) (SS : Sb) (vo po : Option Addr) (vc pc : Nat), decS s = (SS, 0) → e = .returned (.tuple #[.agg #[.slice vo SS.k.c.length vc, .bool SS.k.d, .string SS.k.x.a, .int .u64 (SS.k.x.n : Int), .slice po SS.m.length pc, .bool SS.d, .string SS.v], .int .i64 0]) → SibIn W vo po pc SS → (∀ g off m, vo = some ⟨g, off, m⟩ → w.heap.size ≤ g) → (∀ g off m, po = some ⟨g, off, m⟩ → w.heap.size ≤ g) → Keep0 w W → RSibE (decS s) w e W) := fun _ _ _ _ _ _ _ h1 h2 h3 h4 h5 h6 => RSibE.mk h1 h2 h3 h4 h5 h6
  have k0 : Keep0 w (w.alloc (.cells #[.slice none 0 0, .bool false, .string ⟨#[]⟩, .int .u64 0, .slice none 0 0, .bool false, .string ⟨#[]⟩] 30)) := (Keep.refl _ w).alloc _
  have q0 := SAt.new w 30 (.slice none 0 0) (.bool false) (.string ⟨#[]⟩) (.int .u64 0) (.slice none 0 0) (.bool false) (.string ⟨#[]⟩)
  have z0 : (w.alloc (.cells #[.slice none 0 0, .bool false, .string ⟨#[]⟩, .int .u64 0, .slice none 0 0, .bool false, .string ⟨#[]⟩] 30)).heap.size = w.heap.size + 1 := by rw [World.size_alloc]
  have yn := new_any (w.alloc (.cells #[.slice none 0 0, .bool false, .string ⟨#[]⟩, .int .u64 0, .slice none 0 0, .bool false, .string ⟨#[]⟩] 30)) s hs
  rw [z0] at yn
  have yt := fun W (h : Cur W (w.heap.size + 1) s 0 0) => take15 h
  rw [rX_yes] at yt
  have HD : Hid (if cEnd s (rSib s 0).2.1 (rSib s 0).2.2 = 0 then decS s = ((rSib s 0).1, 0) else decS s = (zSb, cEnd s (rSib s 0).2.1 (rSib s 0).2.2)) := by
    show if _ then _ else _
    unfold decS dec
    split <;> rfl
  have ye := fun (W : World) (h : Cur W (w.heap.size + 1) s (rSib s 0).2.1 (rSib s 0).2.2) => end_any h
  generalize hE : cEnd s (rSib s 0).2.1 (rSib s 0).2.2 = E at *
  obtain ⟨RV, hRV⟩ : ∃ RV, rSib s 0 = RV := ⟨_, rfl⟩
  rw [hRV] at yt ye HD
  clear hE hRV
  obtain ⟨SS, A, X⟩ := RV
  have yt : ∀ (W : World), Cur W (w.heap.size + 1) s 0 0 → Calls Try.prog 22 #[ptr (w.heap.size + 1)] W (fun e w' => ∃ vo vc po pc, e = .returned (.agg #[.slice vo SS.k.c.length vc, .bool SS.k.d, .string SS.k.x.a, .int .u64 (SS.k.x.n : Int), .slice po SS.m.length pc, .bool SS.d, .string SS.v]) ∧ Cur w' (w.heap.size + 1) s A X ∧ SibIn w' vo po pc SS ∧ (∀ g off m, vo = some ⟨g, off, m⟩ → W.heap.size ≤ g) ∧ (∀ g off m, po = some ⟨g, off, m⟩ → W.heap.size ≤ g) ∧ Keep1 (w.heap.size + 1) W w') := yt
  have ye : ∀ (W : World), Cur W (w.heap.size + 1) s A X → Calls Try.prog 41 #[ptr (w.heap.size + 1)] W fun e w' => e = .returned (.int .i64 E) ∧ Cur w' (w.heap.size + 1) s A E ∧ Keep1 (w.heap.size + 1) W w' := ye
  have HD : Hid (if E = 0 then decS s = (SS, 0) else decS s = (zSb, E)) := HD
  go_enter Try.func17, Try.ntmps17
  go_wp2_with fail
  generalize (w.alloc (.cells #[.slice none 0 0, .bool false, .string ⟨#[]⟩, .int .u64 0, .slice none 0 0, .bool false, .string ⟨#[]⟩] 30)) = W0 at *
  obtain ⟨g2, hg2⟩ : ∃ g2, w.heap.size = g2 := ⟨_, rfl⟩
  rw [hg2] at q0 z0 yn yt ye ⊢
  obtain ⟨gc, hgc⟩ : ∃ gc, g2 + 1 = gc := ⟨_, rfl⟩
  rw [hgc] at yn yt ye z0
  have n2 : g2 ≠ gc := by omega
  have HG : Hid (w.heap.size = g2 ∧ g2 + 1 = gc) := ⟨hg2, hgc⟩
  refine yn.mono ?_
  rintro e w0 ⟨rfl, c0, kn⟩
  have K0 := k0.trans kn
  have qn := q0.keep0 kn
  have sz0 := c0.lt
  have yt := yt _ c0
  clear yn k0 kn q0 hs
  go_wp2_with fail
  refine yt.mono ?_
  rintro e w1 ⟨vo, vc, po, pc, rfl, c1, hE1, hF1, hF2, k1⟩
  have K1 : Keep0 w w1 := K0.step k1 (fun i hi hh => by have := HG.out; omega)
  have q2a := qn.keep k1 n2
  have HF : Hid (∀ g off m, vo = some ⟨g, off, m⟩ → g2 + 2 ≤ g) := fun g off m e => by have := hF1 g off m e; omega
  have HFP : Hid (∀ g off m, po = some ⟨g, off, m⟩ → g2 + 2 ≤ g) := fun g off m e => by have := hF2 g off m e; omega
  clear yt k1 K0 qn hF1 hF2 z0 hg2 hgc c0 sz0
  have kB : Keep0 w1 (w1.alloc (.cells #[.slice vo SS.k.c.length vc, .bool SS.k.d, .string SS.k.x.a, .int .u64 (SS.k.x.n : Int), .slice po SS.m.length pc, .bool SS.d, .string SS.v] 30)) := (Keep.refl _ w1).alloc _
  have q3 := SAt.new w1 30 (.slice vo SS.k.c.length vc) (.bool SS.k.d) (.string SS.k.x.a) (.int .u64 (SS.k.x.n : Int)) (.slice po SS.m.length pc) (.bool SS.d) (.string SS.v)
  have c2 := c1.keep0 kB
  have q2b := q2a.keep0 kB
  have hE2 := hE1.keep0 kB
  have K2 := K1.trans kB
  have hlt := c1.lt
  have ye := ye _ c2
  clear kB c1 q2a hE1 K1
  go_wp2_with fail
  generalize (w1.alloc (.cells #[.slice vo SS.k.c.length vc, .bool SS.k.d, .string SS.k.x.a, .int .u64 (SS.k.x.n : Int), .slice po SS.m.length pc, .bool SS.d, .string SS.v] 30)) = W2 at *
  obtain ⟨g3, hg3⟩ : ∃ g3, w1.heap.size = g3 := ⟨_, rfl⟩
  rw [hg3] at q3 hlt ⊢
  have n3 : g3 ≠ gc := by omega
  refine ye.mono ?_
  rintro e w3 ⟨rfl, c3, k3⟩
  have K3 : Keep0 w w3 := K2.step k3 (fun i hi hh => by have := HG.out; omega)
  have q2c := q2b.keep k3 n2
  have q3c := q3.keep k3 n3
  have hE3 := hE2.keep k3 (fun g off m e hh => by have := HF.out g off m e; have := HG.out; omega) (fun g off m e hh => by have := HFP.out g off m e; have := HG.out; omega)
  clear ye k3 K2 q2b q3 hE2 c2 c3 hg3 hlt
  obtain ⟨u0, u1, u2, u3, u4, u5, u6, f0, f1, f2, f3, f4, f5, f6⟩ := q2c.cells
  obtain ⟨t0, t1, t2, t3, t4, t5, t6, h0, h1, h2, h3, h4, h5, h6⟩ := q3c.cells
  by_cases hz : E = 0
  · have hd := HD.out
    rw [if_pos hz] at hd
    have HV : Hid (decS s = (SS, 0)) := hd
    subst hz
    clear hd HD HE
    go_wp2
    refine bodyPost_ret (retSb2 rfl _ _ _ rfl (q2c.put (.slice vo SS.k.c.length vc) (.bool SS.k.d) (.string SS.k.x.a) (.int .u64 (SS.k.x.n : Int)) (.slice po SS.m.length pc) (.bool SS.d) (.string SS.v))) rfl ?_
    exact HM.out _ _ SS vo po vc pc HV.out rfl (hE3.keep (put7_keep _ _ _ _ _ _ _ _ _) (fun g off m e hh => by have := HF.out g off m e; omega) (fun g off m e hh => by have := HFP.out g off m e; omega)) (fun g off m e => by have := HF.out g off m e; have := HG.out; omega) (fun g off m e => by have := HFP.out g off m e; have := HG.out; omega) (K3.step (put7_keep _ _ _ _ _ _ _ _ _) (fun i hi hh => by have := HG.out; omega))
  · have hd := HD.out
    rw [if_neg hz] at hd
    have HV : Hid (decS s = (zSb, E)) := hd
    have e0 : (E != 0) = true := by simpa using hz
    clear hd HD HM hz
    go_wp2
    refine bodyPost_ret (retSb2 rfl _ _ _ rfl (q2c.put (.slice none 0 0) (.bool false) (.string ⟨#[]⟩) (.int .u64 0) (.slice none 0 0) (.bool false) (.string ⟨#[]⟩))) rfl ?_
    exact HE.out _ _ _ HV.out rfl (K3.step (put7_keep _ _ _ _ _ _ _ _ _) (fun i hi hh => by have := HG.out; omega))
set_option maxRecDepth 100000 in
set_option maxHeartbeats 8000000 in
theorem copy15 (w : World) (vo : Option Addr) (vc : Nat) (po : Option Addr) (pc : Nat) (x : Sb) (ok : Ok15 x) (hI : SibIn w vo po pc x) :
    Calls Try.prog 16 #[.agg #[.slice vo x.k.c.length vc, .bool x.k.d, .string x.k.x.a, .int .u64 (x.k.x.n : Int), .slice po x.m.length pc, .bool x.d, .string x.v]] w (RCopy x w) := by
  have HP : Hid (∀ (e : Ending) (W : World) (bo : Option Addr) (bc : Nat) (qo : Option Addr) (qc : Nat), e = .returned (.agg #[.slice bo x.k.c.length bc, .bool x.k.d, .string x.k.x.a, .int .u64 (x.k.x.n : Int), .slice qo x.m.length qc, .bool x.d, .string x.v]) → W.ownsRow w.heap.size 25 2 (.slice bo x.k.c.length bc) x.k.c.length (enCells x.k.c) → W.ownsRow w.heap.size 43 2 (.slice qo x.m.length qc) x.m.length (prCells x.m) → Keep0 w W → RCopy x w e W) := fun e W bo bc qo qc h1 h2 h3 h4 => ⟨bo, bc, qo, qc, h1, h2, h3, h4⟩
  have k0 : Keep0 w ((w.alloc (.cells #[.slice vo x.k.c.length vc, .bool x.k.d, .string x.k.x.a, .int .u64 (x.k.x.n : Int), .slice po x.m.length pc, .bool x.d, .string x.v] 30)).alloc (.cells #[.slice none 0 0, .bool false, .string ⟨#[]⟩, .int .u64 0, .slice none 0 0, .bool false, .string ⟨#[]⟩] 30)) := ((Keep.refl _ w).alloc _).alloc _
  have q1 : SAt ((w.alloc (.cells #[.slice vo x.k.c.length vc, .bool x.k.d, .string x.k.x.a, .int .u64 (x.k.x.n : Int), .slice po x.m.length pc, .bool x.d, .string x.v] 30)).alloc (.cells #[.slice none 0 0, .bool false, .string ⟨#[]⟩, .int .u64 0, .slice none 0 0, .bool false, .string ⟨#[]⟩] 30)) w.heap.size (.slice vo x.k.c.length vc) (.bool x.k.d) (.string x.k.x.a) (.int .u64 (x.k.x.n : Int)) (.slice po x.m.length pc) (.bool x.d) (.string x.v) := (SAt.new w 30 (.slice vo x.k.c.length vc) (.bool x.k.d) (.string x.k.x.a) (.int .u64 (x.k.x.n : Int)) (.slice po x.m.length pc) (.bool x.d) (.string x.v)).keep0 ((Keep.refl _ _).alloc _)
  have q2 : SAt ((w.alloc (.cells #[.slice vo x.k.c.length vc, .bool x.k.d, .string x.k.x.a, .int .u64 (x.k.x.n : Int), .slice po x.m.length pc, .bool x.d, .string x.v] 30)).alloc (.cells #[.slice none 0 0, .bool false, .string ⟨#[]⟩, .int .u64 0, .slice none 0 0, .bool false, .string ⟨#[]⟩] 30)) (w.heap.size + 1) (.slice none 0 0) (.bool false) (.string ⟨#[]⟩) (.int .u64 0) (.slice none 0 0) (.bool false) (.string ⟨#[]⟩) := by
    have := SAt.new (w.alloc (.cells #[.slice vo x.k.c.length vc, .bool x.k.d, .string x.k.x.a, .int .u64 (x.k.x.n : Int), .slice po x.m.length pc, .bool x.d, .string x.v] 30)) 30 (.slice none 0 0) (.bool false) (.string ⟨#[]⟩) (.int .u64 0) (.slice none 0 0) (.bool false) (.string ⟨#[]⟩)
    rw [World.size_alloc] at this
    exact this
  have z0 : ((w.alloc (.cells #[.slice vo x.k.c.length vc, .bool x.k.d, .string x.k.x.a, .int .u64 (x.k.x.n : Int), .slice po x.m.length pc, .bool x.d, .string x.v] 30)).alloc (.cells #[.slice none 0 0, .bool false, .string ⟨#[]⟩, .int .u64 0, .slice none 0 0, .bool false, .string ⟨#[]⟩] 30)).heap.size = w.heap.size + 2 := by rw [World.size_alloc, World.size_alloc]
  have hE0 := hI.ens.keep0 k0
  have hP0 : Hid (PrsAt ((w.alloc (.cells #[.slice vo x.k.c.length vc, .bool x.k.d, .string x.k.x.a, .int .u64 (x.k.x.n : Int), .slice po x.m.length pc, .bool x.d, .string x.v] 30)).alloc (.cells #[.slice none 0 0, .bool false, .string ⟨#[]⟩, .int .u64 0, .slice none 0 0, .bool false, .string ⟨#[]⟩] 30)) po x.m) := hI.prs.keep0 k0
  have hown : ((w.alloc (.cells #[.slice vo x.k.c.length vc, .bool x.k.d, .string x.k.x.a, .int .u64 (x.k.x.n : Int), .slice po x.m.length pc, .bool x.d, .string x.v] 30)).alloc (.cells #[.slice none 0 0, .bool false, .string ⟨#[]⟩, .int .u64 0, .slice none 0 0, .bool false, .string ⟨#[]⟩] 30)).ownsRow (w.heap.size + 2) 25 2 (.slice none 0 0) ([] : List En).length (enCells []) := ⟨rfl, .inl ⟨rfl, rfl⟩⟩
  have hb : w.heap.size + 2 ≤ ((w.alloc (.cells #[.slice vo x.k.c.length vc, .bool x.k.d, .string x.k.x.a, .int .u64 (x.k.x.n : Int), .slice po x.m.length pc, .bool x.d, .string x.v] 30)).alloc (.cells #[.slice none 0 0, .bool false, .string ⟨#[]⟩, .int .u64 0, .slice none 0 0, .bool false, .string ⟨#[]⟩] 30)).heap.size := by omega
  have hlen : ([] : List En).length + x.k.c.length ≤ 1000000 := by have := ok.len; show 0 + x.k.c.length ≤ 1000000; omega
  have hlen2 : Hid (([] : List Pr).length + x.m.length ≤ 1000000) := by have := ok.mlen; show 0 + x.m.length ≤ 1000000; omega
  have holdE : Hid (0 < x.m.length → ∀ g off mm, po = some ⟨g, off, mm⟩ → g < w.heap.size) := fun hl => prs_old hI.prs hl
  obtain ⟨u0, u1, u2, u3, u4, u5, u6, f0, f1, f2, f3, f4, f5, f6⟩ := q1.cells
  obtain ⟨t0, t1, t2, t3, t4, t5, t6, h0, h1, h2, h3, h4, h5, h6⟩ := q2.cells
  clear hI ok
  go_enter Try.func16, Try.ntmps16
  go_wp2_with (at_builtin; refine wpList_append_ens (l := []) rfl _ _ rfl rfl rfl hown hE0 hb hlen ?_)
  intro va w2 hxa hga
  generalize ((w.alloc (.cells #[.slice vo x.k.c.length vc, .bool x.k.d, .string x.k.x.a, .int .u64 (x.k.x.n : Int), .slice po x.m.length pc, .bool x.d, .string x.v] 30)).alloc (.cells #[.slice none 0 0, .bool false, .string ⟨#[]⟩, .int .u64 0, .slice none 0 0, .bool false, .string ⟨#[]⟩] 30)) = W0 at *
  have HG : Hid (∃ G, w.heap.size = G ∧ G + 1 = G + 1) := ⟨_, rfl, rfl⟩
  have k2 : Keep0 W0 w2 := (Keep.refl _ W0).ownGrown hga (fun g hg => by cases hg)
  have hxa : w2.ownsRow (w.heap.size + 2) 25 2 va x.k.c.length (enCells x.k.c) := by simpa using hxa
  obtain ⟨bo, bn, bc, rfl⟩ := sliceE_of_own hxa
  obtain ⟨bo', bc', hbe, hEv, hVb, _⟩ := ens_of_row hxa
  cases hbe
  have z2 := k2.size
  have K2 := k0.trans k2
  replace q1 := q1.keep0 k2
  replace q2 := q2.keep0 k2
  have hP2 : Hid (PrsAt w2 po x.m) := hP0.out.keep0 k2
  have HXA : Hid (w2.ownsRow (w.heap.size + 2) 25 2 (.slice bo x.k.c.length bc) x.k.c.length (enCells x.k.c)) := hxa
  have HZ2 : Hid (w.heap.size + 2 ≤ w2.heap.size) := by show _ ≤ _; omega
  clear hxa hga hown hb hlen hE0 k0 k2 z0 z2 hEv hVb hP0 HG u0 u1 u2 u3 u4 u5 u6 f0 f1 f2 f3 f4 f5 f6 t0 t1 t2 t3 t4 t5 t6 h0 h1 h2 h3 h4 h5 h6
  obtain ⟨g1, hg1⟩ : ∃ g1, w.heap.size = g1 := ⟨_, rfl⟩
  rw [hg1] at q1 q2 ⊢
  obtain ⟨g2, hg2⟩ : ∃ g2, g1 + 1 = g2 := ⟨_, rfl⟩
  rw [hg2] at q2 ⊢
  have n12 : g1 ≠ g2 := by omega
  have HG1 : Hid (w.heap.size = g1) := hg1
  have HG2 : Hid (g1 + 1 = g2) := hg2
  have kS : Keep1 g1 w2 (w2.setCell ⟨g1, 0, none⟩ (.slice bo x.k.c.length bc)) := (Keep.refl _ w2).set1 _ _
  have q1S := q1.set0 (.slice bo x.k.c.length bc)
  have q2S := q2.keep kS (fun e => n12 e.symm)
  have KS : Keep0 w (w2.setCell ⟨g1, 0, none⟩ (.slice bo x.k.c.length bc)) := K2.step kS (fun i hi hh => by omega)
  have hPS : PrsAt (w2.setCell ⟨g1, 0, none⟩ (.slice bo x.k.c.length bc)) po x.m := by
    by_cases hz : 0 < x.m.length
    · exact hP2.out.keep kS (fun g off m e hh => by have := holdE.out hz g off m e; have := HG1.out; omega)
    · exact fun i hi => absurd hi (by omega)
  have HXS : Hid ((w2.setCell ⟨g1, 0, none⟩ (.slice bo x.k.c.length bc)).ownsRow (w.heap.size + 2) 25 2 (.slice bo x.k.c.length bc) x.k.c.length (enCells x.k.c)) := rowE_keep HXA.out kS (fun g hg hh => by omega)
  have hownP : (w2.setCell ⟨g1, 0, none⟩ (.slice bo x.k.c.length bc)).ownsRow (w.heap.size + 2) 43 2 (.slice none 0 0) ([] : List Pr).length (prCells []) := ⟨rfl, .inl ⟨rfl, rfl⟩⟩
  have hbP : w.heap.size + 2 ≤ (w2.setCell ⟨g1, 0, none⟩ (.slice bo x.k.c.length bc)).heap.size := by have := kS.size; have := HZ2.out; omega
  have hlenP := hlen2.out
  obtain ⟨u0, u1, u2, u3, u4, u5, u6, f0, f1, f2, f3, f4, f5, f6⟩ := q1.cells
  obtain ⟨t0, t1, t2, t3, t4, t5, t6, h0, h1, h2, h3, h4, h5, h6⟩ := q1S.cells
  clear HXA hP2 K2 HZ2 holdE hlen2 hg1 hg2
  go_wp2_with (at_builtin; refine wpList_append_prs (l := []) rfl _ _ rfl rfl rfl hownP hPS hbP hlenP ?_)
  intro vb w4 hxb hgb
  have k4 : Keep0 _ w4 := (Keep.refl _ _).ownGrown hgb (fun g hg => by cases hg)
  have hxb : w4.ownsRow (w.heap.size + 2) 43 2 vb x.m.length (prCells x.m) := by simpa using hxb
  obtain ⟨qo, qn, qc, rfl⟩ := sliceE_of_own hxb
  obtain ⟨qo', qc', hqe, _, _, _⟩ := prs_of_row hxb
  cases hqe
  replace q1 := q1S.keep0 k4
  replace q2 := q2S.keep0 k4
  have K4 := KS.trans k4
  have HX4 : Hid (w4.ownsRow (w.heap.size + 2) 25 2 (.slice bo x.k.c.length bc) x.k.c.length (enCells x.k.c)) := rowE_keep HXS.out k4 (fun _ _ f => f)
  have HY4 : Hid (w4.ownsRow (w.heap.size + 2) 43 2 (.slice qo x.m.length qc) x.m.length (prCells x.m)) := hxb
  clear hxb hgb hownP hbP hlenP hPS kS KS k4 HXS q1S q2S u0 u1 u2 u3 u4 u5 u6 f0 f1 f2 f3 f4 f5 f6 t0 t1 t2 t3 t4 t5 t6 h0 h1 h2 h3 h4 h5 h6
  have kS : Keep1 g1 w4 (w4.setCell ⟨g1, 4, none⟩ (.slice qo x.m.length qc)) := (Keep.refl _ w4).set1 _ _
  have q1S := q1.set4 (.slice qo x.m.length qc)
  have q2S := q2.keep kS (fun e => n12 e.symm)
  have KS : Keep0 w (w4.setCell ⟨g1, 4, none⟩ (.slice qo x.m.length qc)) := K4.step kS (fun i hi hh => by have := HG1.out; omega)
  have HXS : Hid ((w4.setCell ⟨g1, 4, none⟩ (.slice qo x.m.length qc)).ownsRow (w.heap.size + 2) 25 2 (.slice bo x.k.c.length bc) x.k.c.length (enCells x.k.c)) := rowE_keep HX4.out kS (fun g hg hh => by have := HG1.out; omega)
  have HYS : Hid ((w4.setCell ⟨g1, 4, none⟩ (.slice qo x.m.length qc)).ownsRow (w.heap.size + 2) 43 2 (.slice qo x.m.length qc) x.m.length (prCells x.m)) := rowE_keep HY4.out kS (fun g hg hh => by have := HG1.out; omega)
  obtain ⟨u0, u1, u2, u3, u4, u5, u6, f0, f1, f2, f3, f4, f5, f6⟩ := q1.cells
  obtain ⟨t0, t1, t2, t3, t4, t5, t6, h0, h1, h2, h3, h4, h5, h6⟩ := q1S.cells
  obtain ⟨xt0, xt1, xt2, xt3, xt4, xt5, xt6, xh0, xh1, xh2, xh3, xh4, xh5, xh6⟩ := q2S.cells
  clear HX4 HY4 K4 kS
  go_wp2_with fail
  refine bodyPost_ret (retSb rfl _ _ _ rfl (q2S.put _ _ _ _ _ _ _)) rfl ?_
  refine HP.out _ _ bo bc qo qc rfl (rowP_mono (rowE_keep HXS.out (put7_keep _ g2 _ _ _ _ _ _ _) (fun g hg hh => by have := HG1.out; have := HG2.out; omega)) (by omega)) (rowP_mono (rowE_keep HYS.out (put7_keep _ g2 _ _ _ _ _ _ _) (fun g hg hh => by have := HG1.out; have := HG2.out; omega)) (by omega)) ?_
  exact KS.step (put7_keep _ g2 _ _ _ _ _ _ _) (fun i hi hh => by have := HG1.out; have := HG2.out; omega)
theorem sibCode : SibCode := {
  check := check15
  encode := encode15
  decode := fun w s hs => decode15 w s (by unfold maxLen; omega)
  take := fun h _ => take15 h
  put := put15
  same := same15
  copy := copy15 }
end Go.Proofs.Ytfpahdnhnhkcdaa
