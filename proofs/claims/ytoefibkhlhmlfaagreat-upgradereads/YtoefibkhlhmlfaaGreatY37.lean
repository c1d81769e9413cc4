/-
  What this seat's claims lean on of the texts RefObj6, SbE.
  Conditions: as each theorem states.
-/
import Derived.WalkKit
import Derived.ProofKit
import Derived.Below
import Derived.Deep.Draws
import Derived.Deep.RegionHeld
import Derived.Test.YtoefibkhlhmlfaaGreatChecked
import Derived.OpenShut
import Derived.ShutString
import Derived.WalkSpells
import Derived.WalkLawsBesides
import Derived.Deep.QuietTactic
import Derived.BigQuiet
import Derived.Laws.Bits64b
import Derived.PlainAid
import Derived.Lib.AppendStr
import Derived.Deep.AppendLies
import Derived.Laws.IdiomStrings
import Derived.Laws.BytesArg
import Derived.Deep.RegionWith
import Derived.Laws.AppendOwn
import Derived.Deep.DeepAppendWide
import Derived.Deep.Upon
import Derived.Maps.AppendAt
import Derived.Laws.Rows
import Derived.Deep.Slices
import Derived.Deep.CutRange
import Derived.Test.YtoefibkhlhmlfaaGreatY35
import Derived.Test.YtoefibkhlhmlfaaGreatY36
import Derived.Test.YtoefibkhlhmlfaaGreatY33
namespace Go.Proofs.YtoefibkhlhmlfaaGreat
open Go.RowKit
theorem RObE.mk {p : Ob × Int} {w w' : World} {e : Ending} {K : ByteArray} {L : List Pl} {ao : Option Addr} {cap : Nat} (hp : p = (⟨K, L.map Pl.x⟩, 0)) (h : e = .returned (.tuple #[.agg #[.string K, .slice ao L.length cap], .int .i64 0])) (h2 : NewL w.heap.size w' ao L) (hcp : L.length ≤ cap ∧ cap ≤ maxLen) (h3 : Keep0 w w') : RObE p w e w' := by
  subst hp
  exact ⟨ao, cap, L, by rw [h]; show _ = Ending.returned (.tuple #[.agg #[.string K, .slice ao (L.map Pl.x).length cap], _]); rw [List.length_map], rfl, h2, hcp, h3⟩
set_option maxRecDepth 100000 in
set_option maxHeartbeats 8000000 in
theorem rdecode16 (w : World) (s : ByteArray) (hs : s.size ≤ maxLen) :
    Calls Tryz.prog 54 #[.string s] w (RObE (decO s) w) := by
  have HE : Hid (∀ (W : World) (e : Ending) (E : Int), decO s = (zOb, E) → e = .returned (.tuple #[.agg #[.string ⟨#[]⟩, .slice none 0 0], .int .i64 E]) → Keep0 w W → RObE (decO s) w e W) := fun _ _ _ h1 h2 h3 => RObE.bare h1 h2 h3
  have HM : Hid (∀ (W : World) (e : Ending) (K : ByteArray) (L : List Pl) (ao : Option Addr) (cap : Nat), decO s = (⟨K, L.map Pl.x⟩, 0) → e = .returned (.tuple #[.agg #[.string K, .slice ao L.length cap], .int .i64 0]) → NewL w.heap.size W ao L → (L.length ≤ cap ∧ cap ≤ maxLen) → Keep0 w W → RObE (decO s) w e W) := fun _ _ _ _ _ _ h1 h2 h3 h3' h4 => RObE.mk h1 h2 h3 h3' h4
  have kA : Keep0 w ((w.alloc (.cells #[.string ⟨#[]⟩, .slice none 0 0] 27)).alloc (.cells #[.string s, .int .i64 0, .int .i64 0] 128)) := ((Keep.refl _ w).alloc _).alloc _
  have q2 : DAt ((w.alloc (.cells #[.string ⟨#[]⟩, .slice none 0 0] 27)).alloc (.cells #[.string s, .int .i64 0, .int .i64 0] 128)) w.heap.size (.string ⟨#[]⟩) (.slice none 0 0) := (DAt.new w 27 (.string ⟨#[]⟩) (.slice none 0 0)).keep0 ((Keep.refl _ _).alloc _)
  have c0 := Cur.new (w.alloc (.cells #[.string ⟨#[]⟩, .slice none 0 0] 27)) s 128 hs
  rw [World.size_alloc] at c0
  have z1 : ((w.alloc (.cells #[.string ⟨#[]⟩, .slice none 0 0] 27)).alloc (.cells #[.string s, .int .i64 0, .int .i64 0] 128)).heap.size = w.heap.size + 2 := by rw [World.size_alloc, World.size_alloc]
  have yt := rtake16 c0
  rw [rX_yes] at yt
  have HD : Hid (if cEnd s (rOb s 0).2.1 (rOb s 0).2.2 = 0 then decO s = ((rOb s 0).1, 0) else decO s = (zOb, cEnd s (rOb s 0).2.1 (rOb s 0).2.2)) := by
    show if _ then _ else _
    unfold decO dec
    split <;> rfl
  have ye := fun (W : World) (g : Nat) (h : Cur W g s (rOb s 0).2.1 (rOb s 0).2.2) => rend_any h
  generalize hE : cEnd s (rOb s 0).2.1 (rOb s 0).2.2 = E at *
  obtain ⟨⟨OO, A, X⟩, hRV⟩ : ∃ RV, rOb s 0 = RV := ⟨_, rfl⟩
  rw [hRV] at yt ye HD
  clear hE hRV c0
  have ye : ∀ (W : World) (g : Nat), Cur W g s A X → Calls Tryz.prog 90 #[ptr g] W fun e w' => e = .returned (.int .i64 E) ∧ Cur w' g s A E ∧ Keep1 g W w' := ye
  have HD : Hid (if E = 0 then decO s = (OO, 0) else decO s = (zOb, E)) := HD
  go_enter Tryz.func54, Tryz.ntmps54
  go_wp2_with fail
  generalize ((w.alloc (.cells #[.string ⟨#[]⟩, .slice none 0 0] 27)).alloc (.cells #[.string s, .int .i64 0, .int .i64 0] 128)) = WB at *
  obtain ⟨g2, hg2⟩ : ∃ g2, w.heap.size = g2 := ⟨_, rfl⟩
  rw [hg2] at q2 z1 yt ⊢
  obtain ⟨gc, hgc⟩ : ∃ gc, g2 + 1 = gc := ⟨_, rfl⟩
  rw [hgc] at yt ⊢
  have n2 : g2 ≠ gc := by omega
  have HG : Hid (w.heap.size = g2 ∧ g2 + 1 = gc) := ⟨hg2, hgc⟩
  refine yt.mono ?_
  rintro e w1 ⟨ao, cap, L, rfl, hL, c1, hN, hcp, k1⟩
  obtain ⟨K, l⟩ := OO
  have hL : L.map Pl.x = l := hL
  subst hL
  replace c1 : Cur w1 gc s A X := c1
  have el : (L.map Pl.x).length = L.length := List.length_map ..
  dsimp only
  rw [el]
  have HCP : Hid (L.length ≤ cap ∧ cap ≤ maxLen) := hcp
  clear hcp
  have K1 : Keep0 w w1 := kA.step k1 (fun i hi hh => by omega)
  have q2a := q2.keep k1 n2
  have HNL : Hid (NewL (g2 + 2) w1 ao L) := by
    have h := hN
    rw [z1] at h
    exact h
  clear yt k1 kA q2 hN z1 hg2 hgc hs el
  have kB : Keep0 w1 (w1.alloc (.cells #[.string K, .slice ao L.length cap] 27)) := (Keep.refl _ w1).alloc _
  have q3 := DAt.new w1 27 (.string K) (.slice ao L.length cap)
  have c2 := c1.keep0 kB
  have q2b := q2a.keep0 kB
  have HNL2 : Hid (NewL (g2 + 2) (w1.alloc (.cells #[.string K, .slice ao L.length cap] 27)) ao L) := HNL.out.keep kB (fun _ _ f => f)
  have K2 := K1.trans kB
  have hlt := c1.lt
  have ye := ye _ _ c2
  clear kB c1 q2a HNL K1
  go_wp2_with fail
  generalize (w1.alloc (.cells #[.string K, .slice ao L.length cap] 27)) = W2 at *
  obtain ⟨g3, hg3⟩ : ∃ g3, w1.heap.size = g3 := ⟨_, rfl⟩
  rw [hg3] at q3 hlt ⊢
  have n3 : g3 ≠ gc := by omega
  refine ye.mono ?_
  rintro e w3 ⟨rfl, c3, k3⟩
  have K3 : Keep0 w w3 := K2.step k3 (fun i hi hh => by have := HG.out; omega)
  have q2c := q2b.keep k3 n2
  have q3c := q3.keep k3 n3
  have HNL3 : Hid (NewL (g2 + 2) w3 ao L) := HNL2.out.keep k3 (fun g hg hh => by have := HG.out; omega)
  clear ye k3 K2 q2b q3 HNL2 c2 c3 hg3 hlt
  obtain ⟨u0, u1, f0, f1⟩ := q2c.cells
  obtain ⟨t0, t1, h0, h1⟩ := q3c.cells
  by_cases hz : E = 0
  · have hd := HD.out
    rw [if_pos hz] at hd
    have HV : Hid (decO s = (⟨K, L.map Pl.x⟩, 0)) := hd
    subst hz
    clear hd HD HE
    go_wp2
    refine bodyPost_ret (retOb2 rfl _ _ _ rfl (q2c.put (.string K) (.slice ao L.length cap))) rfl ?_
    exact HM.out _ _ K L ao cap HV.out rfl ((HNL3.out.keep (put2_keep _ _ _ _) (fun g hg hh => by omega)).lower (by have := HG.out; omega)) HCP.out (K3.step (put2_keep _ _ _ _) (fun i hi hh => by have := HG.out; omega))
  · have hd := HD.out
    rw [if_neg hz] at hd
    have HV : Hid (decO s = (zOb, E)) := hd
    have e0 : (E != 0) = true := by simpa using hz
    clear hd HD HM hz
    go_wp2
    refine bodyPost_ret (retOb2 rfl _ _ _ rfl (q2c.put (.string ⟨#[]⟩) (.slice none 0 0))) rfl ?_
    exact HE.out _ _ _ HV.out rfl (K3.step (put2_keep _ _ _ _) (fun i hi hh => by have := HG.out; omega))
end Go.Proofs.YtoefibkhlhmlfaaGreat
namespace Go.Proofs.YtoefibkhlhmlfaaGreat
open Go.RowKit
set_option maxRecDepth 100000 in
set_option maxHeartbeats 8000000 in
theorem copy15 (w : World) (vo : Option Addr) (vc : Nat) (po : Option Addr) (pc : Nat) (x : Sb) (ok : Ok15 x) (hI : SibIn w vo po pc x) :
    Calls Tryz.prog 97 #[.agg #[.slice vo x.k.c.length vc, .bool x.k.d, .string x.k.x.a, .int .u64 (x.k.x.n : Int), .slice po x.m.length pc, .bool x.d, .string x.v]] w (RCopy x w) := by
  have HP : Hid (∀ (e : Ending) (W : World) (bo : Option Addr) (bc : Nat) (qo : Option Addr) (qc : Nat), e = .returned (.agg #[.slice bo x.k.c.length bc, .bool x.k.d, .string x.k.x.a, .int .u64 (x.k.x.n : Int), .slice qo x.m.length qc, .bool x.d, .string x.v]) → W.ownsRow w.heap.size 53 2 (.slice bo x.k.c.length bc) x.k.c.length (enCells x.k.c) → W.ownsRow w.heap.size 135 2 (.slice qo x.m.length qc) x.m.length (prCells x.m) → Keep0 w W → RCopy x w e W) := fun e W bo bc qo qc h1 h2 h3 h4 => ⟨bo, bc, qo, qc, h1, h2, h3, h4⟩
  have k0 : Keep0 w ((w.alloc (.cells #[.slice vo x.k.c.length vc, .bool x.k.d, .string x.k.x.a, .int .u64 (x.k.x.n : Int), .slice po x.m.length pc, .bool x.d, .string x.v] 61)).alloc (.cells #[.slice none 0 0, .bool false, .string ⟨#[]⟩, .int .u64 0, .slice none 0 0, .bool false, .string ⟨#[]⟩] 61)) := ((Keep.refl _ w).alloc _).alloc _
  have q1 : SAt ((w.alloc (.cells #[.slice vo x.k.c.length vc, .bool x.k.d, .string x.k.x.a, .int .u64 (x.k.x.n : Int), .slice po x.m.length pc, .bool x.d, .string x.v] 61)).alloc (.cells #[.slice none 0 0, .bool false, .string ⟨#[]⟩, .int .u64 0, .slice none 0 0, .bool false, .string ⟨#[]⟩] 61)) w.heap.size (.slice vo x.k.c.length vc) (.bool x.k.d) (.string x.k.x.a) (.int .u64 (x.k.x.n : Int)) (.slice po x.m.length pc) (.bool x.d) (.string x.v) := (SAt.new w 61 (.slice vo x.k.c.length vc) (.bool x.k.d) (.string x.k.x.a) (.int .u64 (x.k.x.n : Int)) (.slice po x.m.length pc) (.bool x.d) (.string x.v)).keep0 ((Keep.refl _ _).alloc _)
  have q2 : SAt ((w.alloc (.cells #[.slice vo x.k.c.length vc, .bool x.k.d, .string x.k.x.a, .int .u64 (x.k.x.n : Int), .slice po x.m.length pc, .bool x.d, .string x.v] 61)).alloc (.cells #[.slice none 0 0, .bool false, .string ⟨#[]⟩, .int .u64 0, .slice none 0 0, .bool false, .string ⟨#[]⟩] 61)) (w.heap.size + 1) (.slice none 0 0) (.bool false) (.string ⟨#[]⟩) (.int .u64 0) (.slice none 0 0) (.bool false) (.string ⟨#[]⟩) := by
    have := SAt.new (w.alloc (.cells #[.slice vo x.k.c.length vc, .bool x.k.d, .string x.k.x.a, .int .u64 (x.k.x.n : Int), .slice po x.m.length pc, .bool x.d, .string x.v] 61)) 61 (.slice none 0 0) (.bool false) (.string ⟨#[]⟩) (.int .u64 0) (.slice none 0 0) (.bool false) (.string ⟨#[]⟩)
    rw [World.size_alloc] at this
    exact this
  have z0 : ((w.alloc (.cells #[.slice vo x.k.c.length vc, .bool x.k.d, .string x.k.x.a, .int .u64 (x.k.x.n : Int), .slice po x.m.length pc, .bool x.d, .string x.v] 61)).alloc (.cells #[.slice none 0 0, .bool false, .string ⟨#[]⟩, .int .u64 0, .slice none 0 0, .bool false, .string ⟨#[]⟩] 61)).heap.size = w.heap.size + 2 := by rw [World.size_alloc, World.size_alloc]
  have hE0 := hI.ens.keep0 k0
  have hP0 : Hid (PrsAt ((w.alloc (.cells #[.slice vo x.k.c.length vc, .bool x.k.d, .string x.k.x.a, .int .u64 (x.k.x.n : Int), .slice po x.m.length pc, .bool x.d, .string x.v] 61)).alloc (.cells #[.slice none 0 0, .bool false, .string ⟨#[]⟩, .int .u64 0, .slice none 0 0, .bool false, .string ⟨#[]⟩] 61)) po x.m) := hI.prs.keep0 k0
  have hown : ((w.alloc (.cells #[.slice vo x.k.c.length vc, .bool x.k.d, .string x.k.x.a, .int .u64 (x.k.x.n : Int), .slice po x.m.length pc, .bool x.d, .string x.v] 61)).alloc (.cells #[.slice none 0 0, .bool false, .string ⟨#[]⟩, .int .u64 0, .slice none 0 0, .bool false, .string ⟨#[]⟩] 61)).ownsRow (w.heap.size + 2) 53 2 (.slice none 0 0) ([] : List En).length (enCells []) := ⟨rfl, .inl ⟨rfl, rfl⟩⟩
  have hb : w.heap.size + 2 ≤ ((w.alloc (.cells #[.slice vo x.k.c.length vc, .bool x.k.d, .string x.k.x.a, .int .u64 (x.k.x.n : Int), .slice po x.m.length pc, .bool x.d, .string x.v] 61)).alloc (.cells #[.slice none 0 0, .bool false, .string ⟨#[]⟩, .int .u64 0, .slice none 0 0, .bool false, .string ⟨#[]⟩] 61)).heap.size := by omega
  have hlen : ([] : List En).length + x.k.c.length ≤ 1000000 := by have := ok.len; show 0 + x.k.c.length ≤ 1000000; omega
  have hlen2 : Hid (([] : List Pr).length + x.m.length ≤ 1000000) := by have := ok.mlen; show 0 + x.m.length ≤ 1000000; omega
  have holdE : Hid (0 < x.m.length → ∀ g off mm, po = some ⟨g, off, mm⟩ → g < w.heap.size) := fun hl => prs_old hI.prs hl
  obtain ⟨u0, u1, u2, u3, u4, u5, u6, f0, f1, f2, f3, f4, f5, f6⟩ := q1.cells
  obtain ⟨t0, t1, t2, t3, t4, t5, t6, h0, h1, h2, h3, h4, h5, h6⟩ := q2.cells
  clear hI ok
  go_enter Tryz.func97, Tryz.ntmps97
  go_wp2_with (at_builtin; refine wpList_append_ens (l := []) rfl _ _ rfl rfl rfl hown hE0 hb hlen ?_)
  intro va w2 hxa hga
  generalize ((w.alloc (.cells #[.slice vo x.k.c.length vc, .bool x.k.d, .string x.k.x.a, .int .u64 (x.k.x.n : Int), .slice po x.m.length pc, .bool x.d, .string x.v] 61)).alloc (.cells #[.slice none 0 0, .bool false, .string ⟨#[]⟩, .int .u64 0, .slice none 0 0, .bool false, .string ⟨#[]⟩] 61)) = W0 at *
  have HG : Hid (∃ G, w.heap.size = G ∧ G + 1 = G + 1) := ⟨_, rfl, rfl⟩
  have k2 : Keep0 W0 w2 := (Keep.refl _ W0).ownGrown hga (fun g hg => by cases hg)
  have hxa : w2.ownsRow (w.heap.size + 2) 53 2 va x.k.c.length (enCells x.k.c) := by simpa using hxa
  obtain ⟨bo, bn, bc, rfl⟩ := sliceE_of_own hxa
  obtain ⟨bo', bc', hbe, hEv, hVb, _⟩ := ens_of_row hxa
  cases hbe
  have z2 := k2.size
  have K2 := k0.trans k2
  replace q1 := q1.keep0 k2
  replace q2 := q2.keep0 k2
  have hP2 : Hid (PrsAt w2 po x.m) := hP0.out.keep0 k2
  have HXA : Hid (w2.ownsRow (w.heap.size + 2) 53 2 (.slice bo x.k.c.length bc) x.k.c.length (enCells x.k.c)) := hxa
  have HZ2 : Hid (w.heap.size + 2 ≤ w2.heap.size) := by show _ ≤ _; omega
  clear hxa hga hown hb hlen hE0 k0 k2 z0 z2 hEv hVb hP0 HG u0 u1 u2 u3 u4 u5 u6 f0 f1 f2 f3 f4 f5 f6 t0 t1 t2 t3 t4 t5 t6 h0 h1 h2 h3 h4 h5 h6
  obtain ⟨g1, hg1⟩ : ∃ g1, w.heap.size = g1 := ⟨_, rfl⟩
  rw [hg1] at q1 q2 ⊢
  obtain ⟨g2, hg2⟩ : ∃ g2, g1 + 1 = g2 := ⟨_, rfl⟩
  rw [hg2] at q2 ⊢
  have n12 : g1 ≠ g2 := by omega
  have HG1 : Hid (w.heap.size = g1) := hg1
  have HG2 : Hid (g1 + 1 = g2) := hg2
  have kS : Keep1 g1 w2 (w2.setCell ⟨g1, 0, none⟩ (.slice bo x.k.c.length bc)) := (Keep.refl _ w2).set1 _ _
  have q1S := q1.set0 (.slice bo x.k.c.length bc)
  have q2S := q2.keep kS (fun e => n12 e.symm)
  have KS : Keep0 w (w2.setCell ⟨g1, 0, none⟩ (.slice bo x.k.c.length bc)) := K2.step kS (fun i hi hh => by omega)
  have hPS : PrsAt (w2.setCell ⟨g1, 0, none⟩ (.slice bo x.k.c.length bc)) po x.m := by
    by_cases hz : 0 < x.m.length
    · exact hP2.out.keep kS (fun g off m e hh => by have := holdE.out hz g off m e; have := HG1.out; omega)
    · exact fun i hi => absurd hi (by omega)
  have HXS : Hid ((w2.setCell ⟨g1, 0, none⟩ (.slice bo x.k.c.length bc)).ownsRow (w.heap.size + 2) 53 2 (.slice bo x.k.c.length bc) x.k.c.length (enCells x.k.c)) := rowE_keep HXA.out kS (fun g hg hh => by omega)
  have hownP : (w2.setCell ⟨g1, 0, none⟩ (.slice bo x.k.c.length bc)).ownsRow (w.heap.size + 2) 135 2 (.slice none 0 0) ([] : List Pr).length (prCells []) := ⟨rfl, .inl ⟨rfl, rfl⟩⟩
  have hbP : w.heap.size + 2 ≤ (w2.setCell ⟨g1, 0, none⟩ (.slice bo x.k.c.length bc)).heap.size := by have := kS.size; have := HZ2.out; omega
  have hlenP := hlen2.out
  obtain ⟨u0, u1, u2, u3, u4, u5, u6, f0, f1, f2, f3, f4, f5, f6⟩ := q1.cells
  obtain ⟨t0, t1, t2, t3, t4, t5, t6, h0, h1, h2, h3, h4, h5, h6⟩ := q1S.cells
  clear HXA hP2 K2 HZ2 holdE hlen2 hg1 hg2
  go_wp2_with (at_builtin; refine wpList_append_prs (l := []) rfl _ _ rfl rfl rfl hownP hPS hbP hlenP ?_)
  intro vb w4 hxb hgb
  have k4 : Keep0 _ w4 := (Keep.refl _ _).ownGrown hgb (fun g hg => by cases hg)
  have hxb : w4.ownsRow (w.heap.size + 2) 135 2 vb x.m.length (prCells x.m) := by simpa using hxb
  obtain ⟨qo, qn, qc, rfl⟩ := sliceE_of_own hxb
  obtain ⟨qo', qc', hqe, _, _, _⟩ := prs_of_row hxb
  cases hqe
  replace q1 := q1S.keep0 k4
  replace q2 := q2S.keep0 k4
  have K4 := KS.trans k4
  have HX4 : Hid (w4.ownsRow (w.heap.size + 2) 53 2 (.slice bo x.k.c.length bc) x.k.c.length (enCells x.k.c)) := rowE_keep HXS.out k4 (fun _ _ f => f)
  have HY4 : Hid (w4.ownsRow (w.heap.size + 2) 135 2 (.slice qo x.m.length qc) x.m.length (prCells x.m)) := hxb
  clear hxb hgb hownP hbP hlenP hPS kS KS k4 HXS q1S q2S u0 u1 u2 u3 u4 u5 u6 f0 f1 f2 f3 f4 f5 f6 t0 t1 t2 t3 t4 t5 t6 h0 h1 h2 h3 h4 h5 h6
  have kS : Keep1 g1 w4 (w4.setCell ⟨g1, 4, none⟩ (.slice qo x.m.length qc)) := (Keep.refl _ w4).set1 _ _
  have q1S := q1.set4 (.slice qo x.m.length qc)
  have q2S := q2.keep kS (fun e => n12 e.symm)
  have KS : Keep0 w (w4.setCell ⟨g1, 4, none⟩ (.slice qo x.m.length qc)) := K4.step kS (fun i hi hh => by have := HG1.out; omega)
  have HXS : Hid ((w4.setCell ⟨g1, 4, none⟩ (.slice qo x.m.length qc)).ownsRow (w.heap.size + 2) 53 2 (.slice bo x.k.c.length bc) x.k.c.length (enCells x.k.c)) := rowE_keep HX4.out kS (fun g hg hh => by have := HG1.out; omega)
  have HYS : Hid ((w4.setCell ⟨g1, 4, none⟩ (.slice qo x.m.length qc)).ownsRow (w.heap.size + 2) 135 2 (.slice qo x.m.length qc) x.m.length (prCells x.m)) := rowE_keep HY4.out kS (fun g hg hh => by have := HG1.out; omega)
  obtain ⟨u0, u1, u2, u3, u4, u5, u6, f0, f1, f2, f3, f4, f5, f6⟩ := q1.cells
  obtain ⟨t0, t1, t2, t3, t4, t5, t6, h0, h1, h2, h3, h4, h5, h6⟩ := q1S.cells
  obtain ⟨xt0, xt1, xt2, xt3, xt4, xt5, xt6, xh0, xh1, xh2, xh3, xh4, xh5, xh6⟩ := q2S.cells
  clear HX4 HY4 K4 kS
  go_wp2_with fail
  refine bodyPost_ret (retSb rfl _ _ _ rfl (q2S.put _ _ _ _ _ _ _)) rfl ?_
  refine HP.out _ _ bo bc qo qc rfl (rowP_mono (rowE_keep HXS.out (put7_keep _ g2 _ _ _ _ _ _ _) (fun g hg hh => by have := HG1.out; have := HG2.out; omega)) (by omega)) (rowP_mono (rowE_keep HYS.out (put7_keep _ g2 _ _ _ _ _ _ _) (fun g hg hh => by have := HG1.out; have := HG2.out; omega)) (by omega)) ?_
  exact KS.step (put7_keep _ g2 _ _ _ _ _ _ _) (fun i hi hh => by have := HG1.out; have := HG2.out; omega)
end Go.Proofs.YtoefibkhlhmlfaaGreat
