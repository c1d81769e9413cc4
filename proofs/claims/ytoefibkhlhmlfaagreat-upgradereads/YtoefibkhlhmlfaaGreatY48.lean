/-
  What this seat's claims lean on of the texts UpD.
  Conditions: as each theorem states.
-/
import Derived.WalkKit
import Derived.ProofKit
import Derived.Below
import Derived.Deep.Draws
import Derived.Deep.RegionHeld
import Derived.Test.YtoefibkhlhmlfaaGreatChecked
import Derived.OpenShut
import Derived.ShutString
import Derived.WalkSpells
import Derived.WalkLawsBesides
import Derived.Deep.QuietTactic
import Derived.BigQuiet
import Derived.Laws.Bits64b
import Derived.PlainAid
import Derived.Lib.AppendStr
import Derived.Deep.AppendLies
import Derived.Laws.IdiomStrings
import Derived.Laws.BytesArg
import Derived.Deep.RegionWith
import Derived.Laws.AppendOwn
import Derived.Deep.DeepAppendWide
import Derived.Deep.Upon
import Derived.Maps.AppendAt
import Derived.Deep.Slices
import Derived.Laws.Rows
import Derived.Deep.CutRange
import Derived.Deep.RegionLaw
import Derived.RunT
import Derived.Calls
import Derived.Shelf.SlSortCmp.WholeK
import Derived.Test.YtoefibkhlhmlfaaGreatY44
import Derived.Test.YtoefibkhlhmlfaaGreatY42
import Derived.Test.YtoefibkhlhmlfaaGreatY29
import Derived.Test.YtoefibkhlhmlfaaGreatY46
import Derived.Test.YtoefibkhlhmlfaaGreatY47
import Derived.Test.YtoefibkhlhmlfaaGreatY27
import Derived.Test.YtoefibkhlhmlfaaGreatY26
import Derived.Test.YtoefibkhlhmlfaaGreatY19
namespace Go.Proofs.YtoefibkhlhmlfaaGreat
open Go.RowKit
theorem okUp18 {key : ByteArray} {L : List Po} (ok : Ok17 key L) (h0 : olCheck ⟨key, L.map Po.x⟩ = 0) : Ok16 ⟨key, L.map (fun p => upS p.x)⟩ := by
  obtain ⟨_, h2, _⟩ := olCheck_zero.1 h0
  refine ⟨ok.key, ?_, fun x hx => ?_⟩
  · show (L.map (fun p => upS p.x)).length ≤ 100
    rw [List.length_map]
    exact ok.len
  · have hx : x ∈ L.map (fun p => upS p.x) := hx
    obtain ⟨p, hp, rfl⟩ := List.mem_map.1 hx
    have hm : p.x ∈ L.map Po.x := List.mem_map.2 ⟨p, hp, rfl⟩
    exact (okSib_U.2 ⟨sCheck_up (h2 _ hm), sbU_up (ok.u _ hm)⟩).ok
theorem sortU18 {key : ByteArray} {L : List Po} (ok : Ok17 key L) (h0 : olCheck ⟨key, L.map Po.x⟩ = 0) (W : World) (bo : Option Addr) (bc : Nat) (O : List Pl) (hO : O.map Pl.x = L.map (fun p => upS p.x)) (hP : PlsAt W bo O) (hcp : O.length ≤ bc ∧ bc ≤ maxLen) :
    Calls Tryz.prog 31 #[.string key, .slice bo O.length bc] W (RObA (oUp ⟨key, L.map Po.x⟩) W) := by
  have hs : oUp ⟨key, L.map Po.x⟩ = oSort key (O.map Pl.x) := by
    have h1 : oUp ⟨key, L.map Po.x⟩ = oSort key ((L.map Po.x).map upS) := if_pos h0
    rw [h1, hO, List.map_map]
    rfl
  have he : (O.map Pl.x).length = O.length := List.length_map ..
  have hk : Ok16 ⟨key, O.map Pl.x⟩ := by rw [hO]; exact okUp18 ok h0
  have y := sort16 W key bo bc (O.map Pl.x) hk hP.sibs (by rw [he]; exact hcp.1) hcp.2
  rw [he, ← hs] at y
  refine y.mono ?_
  rintro e w' h
  exact h.a
set_option maxRecDepth 100000 in
set_option maxHeartbeats 8000000 in
theorem up18 (w : World) (key : ByteArray) (ao : Option Addr) (cap : Nat) (L : List Po) (ok : Ok17 key L) (hc1 : L.length ≤ cap) (hc2 : cap ≤ maxLen) (hc : PosAt w ao L) :
    Calls Tryz.prog 9 #[.agg #[.string key, .slice ao L.length cap]] w (RObA (oUp ⟨key, L.map Po.x⟩) w) := by
  have HE : Hid (∀ (W : World) (e : Ending) (E : Int), oUp ⟨key, L.map Po.x⟩ = (zOb, E) → e = .returned (.tuple #[.agg #[.string ⟨#[]⟩, .slice none 0 0], .int .i64 E]) → Keep0 w W → RObA (oUp ⟨key, L.map Po.x⟩) w e W) := fun _ _ _ h1 h2 h3 => RObA.bare h1 h2 h3
  have kA : Keep0 w ((w.alloc (.cells #[.string key, .slice ao L.length cap] 24)).alloc (.cells #[.string ⟨#[]⟩, .slice none 0 0] 27)) := ((Keep.refl _ w).alloc _).alloc _
  have qO : DAt ((w.alloc (.cells #[.string key, .slice ao L.length cap] 24)).alloc (.cells #[.string ⟨#[]⟩, .slice none 0 0] 27)) w.heap.size (.string key) (.slice ao L.length cap) := (DAt.new w 24 (.string key) (.slice ao L.length cap)).keep0 ((Keep.refl _ _).alloc _)
  have q2 : DAt ((w.alloc (.cells #[.string key, .slice ao L.length cap] 24)).alloc (.cells #[.string ⟨#[]⟩, .slice none 0 0] 27)) (w.heap.size + 1) (.string ⟨#[]⟩) (.slice none 0 0) := by
    have := DAt.new (w.alloc (.cells #[.string key, .slice ao L.length cap] 24)) 27 (.string ⟨#[]⟩) (.slice none 0 0)
    rw [World.size_alloc] at this
    exact this
  have yc := check17 ((w.alloc (.cells #[.string key, .slice ao L.length cap] 24)).alloc (.cells #[.string ⟨#[]⟩, .slice none 0 0] 27)) key ao cap L ok hc1 hc2 (hc.keep0 kA)
  obtain ⟨x0, x1, xf0, xf1⟩ := qO.cells
  clear xf0 xf1
  by_cases h0 : olCheck ⟨key, L.map Po.x⟩ = 0
  case neg =>
    have HV : Hid (oUp ⟨key, L.map Po.x⟩ = (zOb, olCheck ⟨key, L.map Po.x⟩)) := up_bad h0
    have e0 : (olCheck ⟨key, L.map Po.x⟩ != 0) = true := by simpa using h0
    clear h0 ok hc1 hc2 hc qO
    generalize olCheck ⟨key, L.map Po.x⟩ = C at *
    go_enter Tryz.func9, Tryz.ntmps9
    go_wp2_with fail
    generalize ((w.alloc (.cells #[.string key, .slice ao L.length cap] 24)).alloc (.cells #[.string ⟨#[]⟩, .slice none 0 0] 27)) = W0 at *
    obtain ⟨g, hg⟩ : ∃ z, w.heap.size = z := ⟨_, rfl⟩
    have HG : Hid (w.heap.size = g) := hg
    rw [hg] at q2 x0 x1 ⊢
    refine yc.mono ?_
    rintro e w1 ⟨rfl, k1⟩
    have K1 := kA.trans k1
    have q2a := q2.keep0 k1
    obtain ⟨u0, u1, f0, f1⟩ := q2a.cells
    clear yc kA k1 q2 x0 x1 hg
    go_wp2
    first
      | (refine bodyPost_ret (retOb2 rfl _ _ _ rfl (q2a.put (.string ⟨#[]⟩) (.slice none 0 0))) rfl ?_
         exact HE.out _ _ _ HV.out rfl (K1.step (put2_keep _ _ _ _) (fun i hi hh => by have := HG.out; omega)))
      | (refine bodyPost_ret (retOb2 rfl _ _ _ rfl q2a) rfl ?_
         exact HE.out _ _ _ HV.out rfl K1)
  have yo := fun W (K : Keep0 w W) => overU18 W ao cap L ok.len ok.s (hc.keep0 K)
  have ys := sortU18 ok h0
  rw [h0] at yc
  clear h0 ok hc1 hc2 hc HE qO
  generalize oUp ⟨key, L.map Po.x⟩ = U at *
  go_enter Tryz.func9, Tryz.ntmps9
  go_wp2_with fail
  generalize ((w.alloc (.cells #[.string key, .slice ao L.length cap] 24)).alloc (.cells #[.string ⟨#[]⟩, .slice none 0 0] 27)) = W0 at *
  obtain ⟨g, hg⟩ : ∃ z, w.heap.size = z := ⟨_, rfl⟩
  have HG : Hid (w.heap.size = g) := hg
  rw [hg] at q2 x0 x1 ⊢
  clear hg
  refine yc.mono ?_
  rintro e w1 ⟨rfl, k1⟩
  have K1 := kA.trans k1
  have q2a := q2.keep0 k1
  replace x0 := k1.cell x0 (fun f => f)
  replace x1 := k1.cell x1 (fun f => f)
  have yo := yo w1 K1
  clear yc kA k1 q2
  go_wp2_with fail
  refine yo.mono ?_
  rintro e w2 ⟨bo, bc, O, rfl, hO, hP, hcp, k2⟩
  have K2 := K1.trans k2
  have q2b := q2a.keep0 k2
  replace x0 := k2.cell x0 (fun f => f)
  have ys := ys w2 bo bc O hO hP hcp
  clear yo k2 q2a K1 hO hP hcp x1
  go_wp2_with fail
  refine ys.mono ?_
  rintro e w5 ⟨co, cb, M, rfl, h1, h2, hcm, k5⟩
  have HCM : Hid (M.length ≤ cb ∧ cb ≤ maxLen) := hcm
  have HP5 : Hid (PlsAt w5 co M) := h2
  have HM5 : Hid (M.map Pl.x = U.1.l) := h1
  have q5 := q2b.keep0 k5
  have K5 := K2.trans k5
  obtain ⟨u0, u1, f0, f1⟩ := q5.cells
  clear ys k5 q2b K2 hcm h1 h2 x0
  go_wp2
  refine bodyPost_ret (retOb2 rfl _ _ _ rfl (q5.put (.string U.1.key) (.slice co U.1.l.length cb))) rfl ?_
  exact ⟨co, cb, M, rfl, HM5.out, pls_beside q5 (put2_keep _ _ _ _) HP5.out, HCM.out, K5.step (put2_keep _ _ _ _) (fun i hi hh => by have := HG.out; omega)⟩
def rdOld (s : ByteArray) : Ob × Int := if (decL s).2 = 0 then oUp (decL s).1 else (zOb, (decL s).2)
set_option maxRecDepth 100000 in
set_option maxHeartbeats 8000000 in
theorem readOld18 (w : World) (s : ByteArray) (hs : s.size ≤ 1000000) :
    Calls Tryz.prog 53 #[.string s] w (RObA (rdOld s) w) := by
  have kA : Keep0 w (w.alloc (.cells #[.string ⟨#[]⟩, .slice none 0 0] 27)) := (Keep.refl _ w).alloc _
  have q2 : DAt (w.alloc (.cells #[.string ⟨#[]⟩, .slice none 0 0] 27)) w.heap.size (.string ⟨#[]⟩) (.slice none 0 0) := DAt.new w 27 (.string ⟨#[]⟩) (.slice none 0 0)
  have yd := decode17 (w.alloc (.cells #[.string ⟨#[]⟩, .slice none 0 0] 27)) s hs
  have HOK : Hid ((decL s).2 = 0 → ∀ L : List Po, L.map Po.x = (decL s).1.l → Ok17 (decL s).1.key L) := fun h L hL => okOl_ok18 (ol_codec.dec_zero (z := zOl) h).1 hL
  have HV : Hid (rdOld s = if (decL s).2 = 0 then oUp (decL s).1 else (zOb, (decL s).2)) := rfl
  generalize rdOld s = RV at *
  obtain ⟨⟨D, E⟩, hDE⟩ : ∃ D, decL s = D := ⟨_, rfl⟩
  rw [hDE] at yd HOK HV
  have yd : Calls Tryz.prog 88 #[.string s] (w.alloc (.cells #[.string ⟨#[]⟩, .slice none 0 0] 27)) fun e w' => ∃ ao cap L, e = .returned (.tuple #[.agg #[.string D.key, .slice ao L.length cap], .int .i64 E]) ∧ L.map Po.x = D.l ∧ L.length ≤ cap ∧ cap ≤ maxLen ∧ PosAt w' ao L ∧ Keep0 (w.alloc (.cells #[.string ⟨#[]⟩, .slice none 0 0] 27)) w' := yd
  have HOK : Hid (E = 0 → ∀ L : List Po, L.map Po.x = D.l → Ok17 D.key L) := HOK
  have HV : Hid (RV = if E = 0 then oUp D else (zOb, E)) := HV
  clear hDE hs
  go_enter Tryz.func53, Tryz.ntmps53
  go_wp2_with fail
  generalize (w.alloc (.cells #[.string ⟨#[]⟩, .slice none 0 0] 27)) = W0 at *
  obtain ⟨g, hg⟩ : ∃ z, w.heap.size = z := ⟨_, rfl⟩
  have HG : Hid (w.heap.size = g) := hg
  rw [hg] at q2 ⊢
  refine yd.mono ?_
  rintro e w1 ⟨lo, lc, L1, rfl, hL1, hc1, hm1, x1, k1⟩
  have K1 := kA.trans k1
  have kB : Keep0 w1 (w1.alloc (.cells #[.string D.key, .slice lo L1.length lc] 24)) := (Keep.refl _ _).alloc _
  have qX := DAt.new w1 24 (.string D.key) (.slice lo L1.length lc)
  have x1 := x1.keep0 kB
  have q2a := (q2.keep0 k1).keep0 kB
  have K2 := K1.trans kB
  by_cases hE : E = 0
  case neg =>
    have e0 : (E != 0) = true := by simpa using hE
    have HV2 : Hid (RV = (zOb, E)) := by show _ = _; rw [HV.out, if_neg hE]
    obtain ⟨u0, u1, f0, f1⟩ := q2a.cells
    clear yd k1 kB kA q2 K1 x1 hL1 hg hE HV HOK
    go_wp2
    first
      | (refine bodyPost_ret (retOb2 rfl _ _ _ rfl (q2a.put (.string ⟨#[]⟩) (.slice none 0 0))) rfl ?_
         exact RObA.bare HV2.out rfl (K2.step (put2_keep _ _ _ _) (fun i hi hh => by have := HG.out; omega)))
      | (refine bodyPost_ret (retOb2 rfl _ _ _ rfl q2a) rfl ?_
         exact RObA.bare HV2.out rfl K2)
  subst hE
  have yu := up18 _ D.key lo lc L1 (HOK.out rfl L1 hL1) hc1 hm1 x1
  have hD : (⟨D.key, L1.map Po.x⟩ : Ol) = D := by rw [hL1]
  have HV2 : Hid (RV = oUp D) := by show _ = _; rw [HV.out, if_pos rfl]
  rw [hD] at yu
  obtain ⟨a0, b0, af0, bf0⟩ := qX.cells
  clear yd k1 kB kA q2 K1 x1 hL1 hg HV HOK hD hc1 hm1
  generalize oUp D = U at *
  go_wp2_with fail
  generalize (w1.alloc (.cells #[.string D.key, .slice lo L1.length lc] 24)) = W2 at *
  generalize w1.heap.size = gx at *
  refine yu.mono ?_
  rintro e w5 ⟨bo, cb, L, rfl, h1, h2, hcp, k5⟩
  have HCP : Hid (L.length ≤ cb ∧ cb ≤ maxLen) := hcp
  clear hcp
  have q9 := q2a.keep0 k5
  have K9 := K2.trans k5
  obtain ⟨u0, u1, f0, f1⟩ := q9.cells
  clear yu k5 q2a K2 qX a0 b0 af0 bf0
  go_wp2
  refine bodyPost_ret (retOb2 rfl _ _ _ rfl (q9.put (.string U.1.key) (.slice bo U.1.l.length cb))) rfl ?_
  show RObA RV _ _ _
  rw [HV2.out]
  exact ⟨bo, cb, L, rfl, h1, pls_beside q9 (put2_keep _ _ _ _) h2, HCP.out, K9.step (put2_keep _ _ _ _) (fun i hi hh => by have := HG.out; omega)⟩
set_option maxRecDepth 100000 in
set_option maxHeartbeats 8000000 in
theorem read18 (w : World) (v : Int) (hv : (Lit.int .u8 v).wf = true) (s : ByteArray) (hs : s.size ≤ 1000000) :
    Calls Tryz.prog 23 #[.int .u8 v, .string s] w (RObA (oRead v s) w) := by
  have kA : Keep0 w (w.alloc (.cells #[.string ⟨#[]⟩, .slice none 0 0] 27)) := (Keep.refl _ w).alloc _
  have q2 : DAt (w.alloc (.cells #[.string ⟨#[]⟩, .slice none 0 0] 27)) w.heap.size (.string ⟨#[]⟩) (.slice none 0 0) := DAt.new w 27 (.string ⟨#[]⟩) (.slice none 0 0)
  by_cases h1 : v = 1
  · subst h1
    have HV : oRead 1 s = rdOld s := rfl
    rw [HV]
    have yd := readOld18 (w.alloc (.cells #[.string ⟨#[]⟩, .slice none 0 0] 27)) s hs
    generalize rdOld s = U at *
    clear HV hs hv
    go_enter Tryz.func23, Tryz.ntmps23
    go_wp2_with fail
    generalize (w.alloc (.cells #[.string ⟨#[]⟩, .slice none 0 0] 27)) = W0 at *
    obtain ⟨g, hg⟩ : ∃ z, w.heap.size = z := ⟨_, rfl⟩
    have HG : Hid (w.heap.size = g) := hg
    rw [hg] at q2 ⊢
    refine yd.mono ?_
    rintro e w5 ⟨bo, cb, L, rfl, h1, h2, hcp, k5⟩
    have HCP : Hid (L.length ≤ cb ∧ cb ≤ maxLen) := hcp
    clear hcp
    have q9 := q2.keep0 k5
    have K9 := kA.trans k5
    obtain ⟨u0, u1, f0, f1⟩ := q9.cells
    clear yd k5 q2 kA hg
    go_wp2
    refine bodyPost_ret (retOb2 rfl _ _ _ rfl (q9.put (.string U.1.key) (.slice bo U.1.l.length cb))) rfl ?_
    exact ⟨bo, cb, L, rfl, h1, pls_beside q9 (put2_keep _ _ _ _) h2, HCP.out, K9.step (put2_keep _ _ _ _) (fun i hi hh => by have := HG.out; omega)⟩
  have n1 : (v == 1) = false := beq_eq_false_iff_ne.2 h1
  by_cases h2 : v = 2
  · subst h2
    have HV : oRead 2 s = decO s := rfl
    rw [HV]
    have yd := decode16 (w.alloc (.cells #[.string ⟨#[]⟩, .slice none 0 0] 27)) s (by unfold maxLen; omega)
    generalize decO s = U at *
    clear HV hs hv h1
    go_enter Tryz.func23, Tryz.ntmps23
    go_wp2_with fail
    generalize (w.alloc (.cells #[.string ⟨#[]⟩, .slice none 0 0] 27)) = W0 at *
    obtain ⟨g, hg⟩ : ∃ z, w.heap.size = z := ⟨_, rfl⟩
    have HG : Hid (w.heap.size = g) := hg
    rw [hg] at q2 ⊢
    refine yd.mono ?_
    rintro e w5 h5
    obtain ⟨bo, cb, L, rfl, h1, h2, hcp, k5⟩ := h5.a
    have HCP : Hid (L.length ≤ cb ∧ cb ≤ maxLen) := hcp
    clear hcp
    have q9 := q2.keep0 k5
    have K9 := kA.trans k5
    obtain ⟨u0, u1, f0, f1⟩ := q9.cells
    clear yd k5 q2 kA h5 hg
    go_wp2
    refine bodyPost_ret (retOb2 rfl _ _ _ rfl (q9.put (.string U.1.key) (.slice bo U.1.l.length cb))) rfl ?_
    exact ⟨bo, cb, L, rfl, h1, pls_beside q9 (put2_keep _ _ _ _) h2, HCP.out, K9.step (put2_keep _ _ _ _) (fun i hi hh => by have := HG.out; omega)⟩
  have n2 : (v == 2) = false := beq_eq_false_iff_ne.2 h2
  have HV : oRead v s = (zOb, 10) := by unfold oRead; rw [if_neg h2, if_neg h1]
  rw [HV]
  obtain ⟨g, hg⟩ : ∃ z, w.heap.size = z := ⟨_, rfl⟩
  have HG : Hid (w.heap.size = g) := hg
  rw [hg] at q2
  obtain ⟨u0, u1, f0, f1⟩ := q2.cells
  clear HV hs hv
  go_enter Tryz.func23, Tryz.ntmps23
  go_wp2
  first
    | (refine bodyPost_ret (retOb2 rfl _ _ _ rfl (q2.put (.string ⟨#[]⟩) (.slice none 0 0))) rfl ?_
       exact RObA.bare rfl rfl (kA.step (put2_keep _ _ _ _) (fun i hi hh => by have := HG.out; omega)))
    | (refine bodyPost_ret (retOb2 rfl _ _ _ rfl q2) rfl ?_
       exact RObA.bare rfl rfl kA)
theorem upR : UpR := { up := up18, read := fun w v s hv hs => read18 w v hv s hs }
end Go.Proofs.YtoefibkhlhmlfaaGreat
