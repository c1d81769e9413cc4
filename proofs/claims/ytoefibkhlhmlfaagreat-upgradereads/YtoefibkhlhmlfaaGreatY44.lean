/-
  What this seat's claims lean on of the texts UpB, ObC.
  Conditions: as each theorem states.
-/
import Derived.WalkKit
import Derived.ProofKit
import Derived.Below
import Derived.Deep.Draws
import Derived.Deep.RegionHeld
import Derived.Test.YtoefibkhlhmlfaaGreatChecked
import Derived.OpenShut
import Derived.ShutString
import Derived.WalkSpells
import Derived.WalkLawsBesides
import Derived.Deep.QuietTactic
import Derived.BigQuiet
import Derived.Laws.Bits64b
import Derived.PlainAid
import Derived.Lib.AppendStr
import Derived.Deep.AppendLies
import Derived.Laws.IdiomStrings
import Derived.Laws.BytesArg
import Derived.Deep.RegionWith
import Derived.Laws.AppendOwn
import Derived.Deep.DeepAppendWide
import Derived.Deep.Upon
import Derived.Maps.AppendAt
import Derived.Deep.Slices
import Derived.Laws.Rows
import Derived.Deep.CutRange
import Derived.Deep.RegionLaw
import Derived.Test.YtoefibkhlhmlfaaGreatY42
import Derived.Test.YtoefibkhlhmlfaaGreatY34
import Derived.Test.YtoefibkhlhmlfaaGreatY43
import Derived.Test.YtoefibkhlhmlfaaGreatY37
namespace Go.Proofs.YtoefibkhlhmlfaaGreat
open Go.RowKit
def RUp1 (x : Os) (w : World) (e : Ending) (w' : World) : Prop := ∃ bo c, e = .returned (.agg #[.slice bo x.c.length c, .bool false, .string ⟨#[]⟩, .int .u64 0, .slice none 0 0, .bool x.d, .string x.v]) ∧ EnsAt w' bo x.c ∧ (∀ g off m, bo = some ⟨g, off, m⟩ → w.heap.size ≤ g) ∧ Keep0 w w'
set_option maxRecDepth 100000 in
set_option maxHeartbeats 8000000 in
theorem upF18 (w : World) (p : Po) (op : Oks p.x) (hc : EnsAt w p.vo p.x.c) :
    Calls Tryz.prog 29 #[.agg #[.slice p.vo p.x.c.length p.vc, .bool p.x.d, .string p.x.v]] w (RUp1 p.x w) := by
  have HM : Hid (∀ (W : World) (e : Ending) (bo : Option Addr) (c : Nat), e = .returned (.agg #[.slice bo p.x.c.length c, .bool false, .string ⟨#[]⟩, .int .u64 0, .slice none 0 0, .bool p.x.d, .string p.x.v]) → EnsAt W bo p.x.c → (∀ g off m, bo = some ⟨g, off, m⟩ → w.heap.size ≤ g) → Keep0 w W → RUp1 p.x w e W) := fun _ _ bo c h1 h2 h3 h4 => ⟨bo, c, h1, h2, h3, h4⟩
  have kA : Keep0 w ((w.alloc (.cells #[.slice p.vo p.x.c.length p.vc, .bool p.x.d, .string p.x.v] 56)).alloc (.cells #[.slice none 0 0, .bool false, .string ⟨#[]⟩, .int .u64 0, .slice none 0 0, .bool false, .string ⟨#[]⟩] 61)) := ((Keep.refl _ w).alloc _).alloc _
  obtain ⟨x0, x1, x2⟩ := (poAt_new w 56 p).keep0 ((Keep.refl _ _).alloc (.cells #[.slice none 0 0, .bool false, .string ⟨#[]⟩, .int .u64 0, .slice none 0 0, .bool false, .string ⟨#[]⟩] 61))
  have qS : SAt ((w.alloc (.cells #[.slice p.vo p.x.c.length p.vc, .bool p.x.d, .string p.x.v] 56)).alloc (.cells #[.slice none 0 0, .bool false, .string ⟨#[]⟩, .int .u64 0, .slice none 0 0, .bool false, .string ⟨#[]⟩] 61)) (w.heap.size + 1) (.slice none 0 0) (.bool false) (.string ⟨#[]⟩) (.int .u64 0) (.slice none 0 0) (.bool false) (.string ⟨#[]⟩) := by
    have := SAt.new (w.alloc (.cells #[.slice p.vo p.x.c.length p.vc, .bool p.x.d, .string p.x.v] 56)) 61 (.slice none 0 0) (.bool false) (.string ⟨#[]⟩) (.int .u64 0) (.slice none 0 0) (.bool false) (.string ⟨#[]⟩)
    rw [World.size_alloc] at this
    exact this
  have hz : ((w.alloc (.cells #[.slice p.vo p.x.c.length p.vc, .bool p.x.d, .string p.x.v] 56)).alloc (.cells #[.slice none 0 0, .bool false, .string ⟨#[]⟩, .int .u64 0, .slice none 0 0, .bool false, .string ⟨#[]⟩] 61)).heap.size = w.heap.size + 2 := by rw [World.size_alloc, World.size_alloc]
  have yp := fun W (K : Keep0 w W) => plainC18 W p.vo p.vc p.x.c op.1.1 (hc.keep0 K)
  clear hc op
  go_enter Tryz.func29, Tryz.ntmps29
  go_wp2_with fail
  generalize ((w.alloc (.cells #[.slice p.vo p.x.c.length p.vc, .bool p.x.d, .string p.x.v] 56)).alloc (.cells #[.slice none 0 0, .bool false, .string ⟨#[]⟩, .int .u64 0, .slice none 0 0, .bool false, .string ⟨#[]⟩] 61)) = W0 at *
  obtain ⟨g, hg⟩ : ∃ z, w.heap.size = z := ⟨_, rfl⟩
  have HG : Hid (w.heap.size = g) := hg
  rw [hg] at x0 x1 x2 qS hz ⊢
  have HZ : Hid (W0.heap.size = g + 2) := hz
  clear hz hg
  refine wp_region_held_drew (S := (fun W => W.cell? ⟨g, 0, none⟩ = some (.slice p.vo p.x.c.length p.vc) ∧ W.cell? ⟨g, 1, none⟩ = some (.bool p.x.d) ∧ W.cell? ⟨g, 2, none⟩ = some (.string p.x.v))) (by kernel_rfl) ⟨x0, x1, x2⟩ (fun hHeld => ?_)
  refine wpAnyH_take (i := 0) (v := ?ua0v) (by simp only [List.getElem?_toArray, List.getElem?_cons_zero] <;> rfl) (by kernel_rfl) (by kernel_rfl) (by kernel_rfl) (by exact fun _ _ _ h => h) (Or.inl ⟨by rfl, ?ua0y⟩) hHeld ?ua0r
  case ua0y => intro w hSw; (try dsimp only at hSw); go_simp <;> rfl
  simp only [Act.put, List.setIfInBounds_toArray, List.set_cons_zero, List.set_cons_succ]
  refine wpAnyH_take (i := 1) (v := ?ua1v) (by simp only [List.getElem?_toArray, List.getElem?_cons_succ, List.getElem?_cons_zero] <;> rfl) (by kernel_rfl) (by kernel_rfl) (by kernel_rfl) (by exact fun _ _ _ h => h) (Or.inl ⟨by rfl, ?ua1y⟩) hHeld ?ua1r
  case ua1y => intro w hSw; (try dsimp only at hSw); go_simp <;> rfl
  simp only [Act.put, List.setIfInBounds_toArray, List.set_cons_zero, List.set_cons_succ]
  refine wpAnyH_take (i := 3) (v := ?ua2v) (by simp only [List.getElem?_toArray, List.getElem?_cons_succ, List.getElem?_cons_zero] <;> rfl) (by kernel_rfl) (by kernel_rfl) (by kernel_rfl) (by exact fun _ _ _ h => h) (Or.inl ⟨by rfl, ?ua2y⟩) hHeld ?ua2r
  case ua2y => intro w hSw; (try dsimp only at hSw); go_simp <;> rfl
  simp only [Act.put, List.setIfInBounds_toArray, List.set_cons_zero, List.set_cons_succ]
  refine wpAnyH_take (i := 4) (v := ?ua3v) (by simp only [List.getElem?_toArray, List.getElem?_cons_succ, List.getElem?_cons_zero] <;> rfl) (by kernel_rfl) (by kernel_rfl) (by kernel_rfl) (by exact fun _ _ _ h => h) (Or.inl ⟨by rfl, ?ua3y⟩) hHeld ?ua3r
  case ua3y => intro w hSw; (try dsimp only at hSw); go_simp <;> rfl
  simp only [Act.put, List.setIfInBounds_toArray, List.set_cons_zero, List.set_cons_succ]
  refine wpAnyH_take (i := 5) (v := ?ua4v) (by simp only [List.getElem?_toArray, List.getElem?_cons_succ, List.getElem?_cons_zero] <;> rfl) (by kernel_rfl) (by kernel_rfl) (by kernel_rfl) (by exact fun _ _ _ h => h) (Or.inl ⟨by rfl, ?ua4y⟩) hHeld ?ua4r
  case ua4y => intro w hSw; (try dsimp only at hSw); go_simp <;> rfl
  simp only [Act.put, List.setIfInBounds_toArray, List.set_cons_zero, List.set_cons_succ]
  refine wpAnyH_take (i := 6) (v := ?ua5v) (by simp only [List.getElem?_toArray, List.getElem?_cons_succ, List.getElem?_cons_zero] <;> rfl) (by kernel_rfl) (by kernel_rfl) (by kernel_rfl) (by exact fun _ _ _ h => h) (Or.inl ⟨by rfl, ?ua5y⟩) hHeld ?ua5r
  case ua5y => intro w hSw; (try dsimp only at hSw); go_simp <;> rfl
  simp only [Act.put, List.setIfInBounds_toArray, List.set_cons_zero, List.set_cons_succ]
  refine wpAnyH_ready (rs := [2]) (by kernel_rfl) (by simp) ?_
  refine AllReadyH.cons (by simp only [List.getElem?_toArray, List.getElem?_cons_succ, List.getElem?_cons_zero] <;> rfl) (fun K hK => ?_) AllReadyH.nil
  go_simp
  refine (yp _ kA.drew).mono ?_
  rintro e w3 ⟨bo, bc, rfl, hE, hbo, kx⟩
  have kw : Keep0 W0 w3 := ((Keep.refl _ W0).drew).trans kx
  have HB : Hid (∀ b off m, bo = some ⟨b, off, m⟩ → g + 2 ≤ b) := fun b off m e => by have h1 := hbo b off m e; have h2 := ((Keep.refl (fun _ => False) W0).drew).size; have h3 := HZ.out; omega
  clear kx hbo
  go_wp2_with fail
  refine hK.out _ _ ⟨kw.cell x0 (fun f => f), kw.cell x1 (fun f => f), kw.cell x2 (fun f => f)⟩ (fun hHeld => ?_)
  clear hK K
  refine wpAnyH_take (i := 7) (v := ?ua6v) (by simp only [List.getElem?_toArray, List.getElem?_cons_succ, List.getElem?_cons_zero] <;> rfl) (by kernel_rfl) (by kernel_rfl) (by kernel_rfl) (by exact fun _ _ _ h => h) (Or.inl ⟨by rfl, ?ua6y⟩) hHeld ?ua6r
  case ua6y => intro w hSw; (try dsimp only at hSw); go_simp <;> rfl
  simp only [Act.put, List.setIfInBounds_toArray, List.set_cons_zero, List.set_cons_succ]
  have qw := qS.keep0 kw
  have kP : Keep1 (g + 1) w3 (((((((w3.setCell ⟨g + 1, 0, none⟩ (.slice bo p.x.c.length bc)).setCell ⟨g + 1, 1, none⟩ (.bool false)).setCell ⟨g + 1, 2, none⟩ (.string ⟨#[]⟩)).setCell ⟨g + 1, 3, none⟩ (.int .u64 0)).setCell ⟨g + 1, 4, none⟩ (.slice none 0 0)).setCell ⟨g + 1, 5, none⟩ (.bool p.x.d)).setCell ⟨g + 1, 6, none⟩ (.string p.x.v)) := put7_keep w3 (g + 1) (.slice bo p.x.c.length bc) (.bool false) (.string ⟨#[]⟩) (.int .u64 0) (.slice none 0 0) (.bool p.x.d) (.string p.x.v)
  obtain ⟨t0, t1, t2, t3, t4, t5, t6, f0, f1, f2, f3, f4, f5, f6⟩ := qw.cells
  refine wpAnyH_ready (rs := [8]) (by kernel_rfl) (by simp) ?_
  refine AllReadyH.cons (by simp only [List.getElem?_toArray, List.getElem?_cons_succ, List.getElem?_cons_zero] <;> rfl) (fun K hK => ?_) AllReadyH.nil
  go_simp
  refine hK.out _ _ ⟨kP.cell (kw.cell x0 (fun f => f)) (fun e => by have e : g = g + 1 := e; omega), kP.cell (kw.cell x1 (fun f => f)) (fun e => by have e : g = g + 1 := e; omega), kP.cell (kw.cell x2 (fun f => f)) (fun e => by have e : g = g + 1 := e; omega)⟩ (fun hHeld => ?_)
  clear hK K
  try simp only [Act.put, List.setIfInBounds_toArray, List.set_cons_zero, List.set_cons_succ]
  refine wpAnyH_done (by kernel_rfl) ?_ _
  have HK : Hid (Keep0 w (((((((w3.setCell ⟨g + 1, 0, none⟩ (.slice bo p.x.c.length bc)).setCell ⟨g + 1, 1, none⟩ (.bool false)).setCell ⟨g + 1, 2, none⟩ (.string ⟨#[]⟩)).setCell ⟨g + 1, 3, none⟩ (.int .u64 0)).setCell ⟨g + 1, 4, none⟩ (.slice none 0 0)).setCell ⟨g + 1, 5, none⟩ (.bool p.x.d)).setCell ⟨g + 1, 6, none⟩ (.string p.x.v))) := (kA.trans kw).step kP (fun i hi hh => by have := HG.out; omega)
  have HE : Hid (EnsAt (((((((w3.setCell ⟨g + 1, 0, none⟩ (.slice bo p.x.c.length bc)).setCell ⟨g + 1, 1, none⟩ (.bool false)).setCell ⟨g + 1, 2, none⟩ (.string ⟨#[]⟩)).setCell ⟨g + 1, 3, none⟩ (.int .u64 0)).setCell ⟨g + 1, 4, none⟩ (.slice none 0 0)).setCell ⟨g + 1, 5, none⟩ (.bool p.x.d)).setCell ⟨g + 1, 6, none⟩ (.string p.x.v)) bo p.x.c) := hE.keep kP (fun b off m e f => by have h1 := HB.out b off m e; omega)
  have HQ : Hid (SAt (((((((w3.setCell ⟨g + 1, 0, none⟩ (.slice bo p.x.c.length bc)).setCell ⟨g + 1, 1, none⟩ (.bool false)).setCell ⟨g + 1, 2, none⟩ (.string ⟨#[]⟩)).setCell ⟨g + 1, 3, none⟩ (.int .u64 0)).setCell ⟨g + 1, 4, none⟩ (.slice none 0 0)).setCell ⟨g + 1, 5, none⟩ (.bool p.x.d)).setCell ⟨g + 1, 6, none⟩ (.string p.x.v)) (g + 1) (.slice bo p.x.c.length bc) (.bool false) (.string ⟨#[]⟩) (.int .u64 0) (.slice none 0 0) (.bool p.x.d) (.string p.x.v)) := qw.put (.slice bo p.x.c.length bc) (.bool false) (.string ⟨#[]⟩) (.int .u64 0) (.slice none 0 0) (.bool p.x.d) (.string p.x.v)
  have HB2 : Hid (∀ b off m, bo = some ⟨b, off, m⟩ → w.heap.size ≤ b) := fun b off m e => by have h1 := HB.out b off m e; have := HG.out; omega
  clear hHeld kP kw hE HB kA qS qw t0 t1 t2 t3 t4 t5 t6 f0 f1 f2 f3 f4 f5 f6 x0 x1 x2 yp
  go_wp2_with fail
  refine bodyPost_ret (retSb rfl _ _ _ rfl HQ.out) rfl ?_
  exact HM.out _ _ bo bc rfl HE.out HB2.out HK.out
def RPlsN (l : List Sb) (w : World) (e : Ending) (w' : World) : Prop := ∃ ao cap L, e = .returned (.slice ao L.length cap) ∧ L.map Pl.x = l ∧ PlsAt w' ao L ∧ (L.length ≤ cap ∧ cap ≤ maxLen) ∧ Keep0 w w'
theorem upS_more {L : List Po} {O : List Pl} {k : Nat} {p : Pl} (hk : k < L.length) (h : O.map Pl.x = (L.take k).map (fun q => upS q.x)) (hp : p.x = upS L[k].x) : (O ++ [p]).map Pl.x = (L.take (k + 1)).map (fun q => upS q.x) := by
  rw [List.map_append, h, List.take_succ_eq_append_getElem hk, List.map_append, List.map_cons, List.map_nil, hp]
  rfl
set_option maxRecDepth 100000 in
set_option maxHeartbeats 8000000 in
theorem overU18 (w : World) (ao : Option Addr) (cap : Nat) (L : List Po) (hl : L.length ≤ 100) (hL : ∀ p ∈ L, Oks p.x) (hc : PosAt w ao L) :
    Calls Tryz.prog 28 #[.slice ao L.length cap, .func (.func 29) #[] #[]] w (RPlsN (L.map (fun p => upS p.x)) w) := by
  have i1 : (L.length : Int) ≤ 9223372036854775807 := by omega
  have HL : Hid (L.length ≤ 100) := hl
  have HC : Hid (PosAt w ao L) := hc
  have HF : Hid (∀ p ∈ L, Oks p.x) := hL
  have HM : Hid (∀ (W : World) (e : Ending) (v : Value) (O : List Pl), e = .returned v → O.map Pl.x = L.map (fun p => upS p.x) → OwnP w.heap.size W v O → Keep0 w W → RPlsN (L.map (fun p => upS p.x)) w e W) := by
    intro W e v O h1 h2 h3 h4
    obtain ⟨ao2, cap2, rfl, h5, h6, h7⟩ := h3.newL
    exact ⟨ao2, cap2, O, h1, h2, h5.at_, ⟨h6, h7⟩, h4⟩
  clear hc hL hl
  go_enter Tryz.func28, Tryz.ntmps28
  go_wp2_with fail
  go_loopw [5, 10] (fun u i wr => ∃ (k : Nat) (O : List Pl) (v : Value), v = u ∧ i = .int .i64 (k : Int) ∧ k ≤ L.length ∧ Hid (O.map Pl.x = (L.take k).map (fun q => upS q.x)) ∧ Hid (OwnP w.heap.size wr v O) ∧ Hid (Keep0 w wr)) (fun _ i _ => L.length - (intOf i).toNat)
  case atStart => exact ⟨0, [], _, rfl, rfl, by omega, rfl, OwnP.nil _ _, Keep.refl _ _⟩
  case round =>
    obtain ⟨k, O, v, rfl, rfl, hk, HO, HW, HKw⟩ := hrel
    by_cases hlt : k < L.length
    · have j2 : (k : Int) < L.length := by omega
      obtain ⟨bb, off, rfl, s1, s2⟩ := (HC.out.keep0 HKw.out).at_ k hlt
      obtain ⟨b0, b1, b2⟩ := s1
      have hop := HF.out _ (List.getElem_mem hlt)
      have HOl : Hid (O.length = k) := by
        show _ = _
        have := congrArg List.length HO.out
        rw [List.length_map, List.length_map, List.length_take] at this
        omega
      obtain ⟨p, hp⟩ : ∃ p, L[k] = p := ⟨_, rfl⟩
      have HX : Hid (L[k] = p) := hp
      rw [hp] at b0 b1 b2 s2 hop
      have kX : Keep0 wr (wr.alloc (.cells #[.slice p.vo p.x.c.length p.vc, .bool p.x.d, .string p.x.v] 56)) := (Keep.refl _ wr).alloc _
      obtain ⟨c0, c1, c2⟩ := poAt_new wr 56 p
      have yf := upF18 (wr.alloc (.cells #[.slice p.vo p.x.c.length p.vc, .bool p.x.d, .string p.x.v] 56)) p hop (s2.keep0 kX)
      have HWx : Hid (OwnP w.heap.size (wr.alloc (.cells #[.slice p.vo p.x.c.length p.vc, .bool p.x.d, .string p.x.v] 56)) v O) := HW.out.keep0 kX
      have HLt : Hid (∀ g, v.ownBlock = some g → w.heap.size ≤ g ∧ g < wr.heap.size) := HW.out.lt
      have HKx : Hid (Keep0 w (wr.alloc (.cells #[.slice p.vo p.x.c.length p.vc, .bool p.x.d, .string p.x.v] 56))) := HKw.out.trans kX
      have HZx : Hid (wr.heap.size ≤ (wr.alloc (.cells #[.slice p.vo p.x.c.length p.vc, .bool p.x.d, .string p.x.v] 56)).heap.size) := kX.size
      have HZw : Hid (w.heap.size ≤ wr.heap.size) := HKw.out.size
      clear kX s2 hp hop HW HKw
      go_wp2_with fail
      generalize (wr.alloc (.cells #[.slice p.vo p.x.c.length p.vc, .bool p.x.d, .string p.x.v] 56)) = W2 at *
      generalize wr.heap.size = g7 at *
      refine yf.mono ?_
      rintro e w1 ⟨bo, bc, rfl, hE, hbo, k1⟩
      have kS : Keep0 w1 (w1.alloc (.cells #[.slice bo p.x.c.length bc, .bool false, .string ⟨#[]⟩, .int .u64 0, .slice none 0 0, .bool p.x.d, .string p.x.v] 61)) := (Keep.refl _ w1).alloc _
      have kT := k1.trans kS
      have hsrc : RowAt Pl.cells 7 (w1.alloc (.cells #[.slice bo p.x.c.length bc, .bool false, .string ⟨#[]⟩, .int .u64 0, .slice none 0 0, .bool p.x.d, .string p.x.v] 61)) (some ⟨w1.heap.size, 0, none⟩) [(⟨upS p.x, bo, bc, none, 0⟩ : Pl)] := pl_new w1 61 ⟨upS p.x, bo, bc, none, 0⟩
      have HWS : Hid (OwnP w.heap.size (w1.alloc (.cells #[.slice bo p.x.c.length bc, .bool false, .string ⟨#[]⟩, .int .u64 0, .slice none 0 0, .bool p.x.d, .string p.x.v] 61)) v O) := HWx.out.keep0 kT
      have hrow := HWS.out.row
      have hB : w.heap.size ≤ (w1.alloc (.cells #[.slice bo p.x.c.length bc, .bool false, .string ⟨#[]⟩, .int .u64 0, .slice none 0 0, .bool p.x.d, .string p.x.v] 61)).heap.size := by have := kT.size; have := HZx.out; have := HZw.out; omega
      have hlen : O.length + [(⟨upS p.x, bo, bc, none, 0⟩ : Pl)].length ≤ 1000000 := by show _ + 1 ≤ _; have := HL.out; have := HOl.out; omega
      have HIn : Hid ((⟨upS p.x, bo, bc, none, 0⟩ : Pl).in (w1.alloc (.cells #[.slice bo p.x.c.length bc, .bool false, .string ⟨#[]⟩, .int .u64 0, .slice none 0 0, .bool p.x.d, .string p.x.v] 61))) := ⟨hE.keep0 kS, prs_nil _ _, Nat.le_refl _, Nat.zero_le _⟩
      have HVo : Hid (∀ g off m, bo = some ⟨g, off, m⟩ → w.heap.size ≤ g ∧ v.ownBlock ≠ some g) := fun g off m e => ⟨by have := hbo g off m e; have := HZx.out; have := HZw.out; omega, fun h => by have := hbo g off m e; have := (HLt.out g h).2; have := HZx.out; omega⟩
      have HKS : Hid (Keep0 w (w1.alloc (.cells #[.slice bo p.x.c.length bc, .bool false, .string ⟨#[]⟩, .int .u64 0, .slice none 0 0, .bool p.x.d, .string p.x.v] 61))) := HKx.out.trans kT
      clear yf k1 kS kT hE hbo HWx HLt HKx HZx HZw c0 c1 c2 b0 b1 b2
      go_wp2_with (at_builtin; refine wpList_append_row_at plT rfl _ _ rfl rfl rfl hrow hsrc hB hlen ?_)
      intro v' w4 r1 r4 r5
      have r1 : w4.ownsRow w.heap.size 61 7 v' (O ++ [(⟨upS p.x, bo, bc, none, 0⟩ : Pl)]).length (rowOf Pl.cells (O ++ [(⟨upS p.x, bo, bc, none, 0⟩ : Pl)])) := by first | exact r1 | (rw [List.length_append]; exact r1)
      have HW4 : Hid (OwnP w.heap.size w4 v' (O ++ [(⟨upS p.x, bo, bc, none, 0⟩ : Pl)])) := HWS.out.more (p := ⟨upS p.x, bo, bc, none, 0⟩) HIn.out (fun g off m e => ⟨(HVo.out g off m e).1, .inr (HVo.out g off m e).2⟩) (fun g off m e => by cases e) r1 r4 (by first | exact r5 | (rw [World.size_alloc]; exact r5))
      have HK4 : Hid (Keep0 w w4) := HKS.out.step (keep_grown r4) (fun i hi e => by have := (HWS.out.row.lt i e).1; omega)
      have HO4 : Hid ((O ++ [(⟨upS p.x, bo, bc, none, 0⟩ : Pl)]).map Pl.x = (L.take (k + 1)).map (fun q => upS q.x)) := upS_more hlt HO.out (by rw [HX.out])
      clear r1 r4 r5 hsrc hrow hB hlen HWS HIn HVo HKS HO HOl HX
      generalize (O ++ [(⟨upS p.x, bo, bc, none, 0⟩ : Pl)]) = ON at *
      go_wp2
      go_roundw
      case rel => exact ⟨k + 1, ON, v', rfl, by go_num, by omega, HO4, HW4, HK4⟩
      case measure => simp [intOf]; omega
    · have j2 : ¬ (k : Int) < L.length := by omega
      have HO2 : Hid (O.map Pl.x = L.map (fun p => upS p.x)) := by
        have h := HO.out
        rw [List.take_of_length_le (by omega)] at h
        exact h
      clear HO
      go_wp2
      go_ret
      exact HM.out _ _ _ _ rfl HO2.out HW.out HKw.out
end Go.Proofs.YtoefibkhlhmlfaaGreat
namespace Go.Proofs.YtoefibkhlhmlfaaGreat
open Go.RowKit
theorem SibsBy.at {w : World} {b r : Nat} {ao : Option Addr} {l : List Sb} (h : SibsBy w b r ao l) : SibsAt w ao l := by
  intro i hi
  obtain ⟨bb, off, vo, vc, po, pc, e, _, h1, h2, _, _⟩ := h i hi
  exact ⟨bb, off, vo, vc, po, pc, e, h1, h2⟩
theorem SibsBy.after {w W : World} {b r r' : Nat} {ao : Option Addr} {l : List Sb} (h : SibsBy w b r ao l) (k : Keep (two b r) w W) (hr : r' = r ∨ w.heap.size ≤ r') : SibsBy W b r' ao l := by
  intro i hi
  obtain ⟨bb, off, vo, vc, po, pc, e, hn, h1, h2, h3, h4⟩ := h i hi
  have hb := World.block_lt_of_cell? w _ h1.c0
  have hb : bb < w.heap.size := hb
  refine ⟨bb, off, vo, vc, po, pc, e, fun hh => ?_, h1.keep k hn, ⟨ens_keepE h2.ens k (fun g off m e => ?_), prs_keepE h2.prs k (fun g off m e => ?_), h2.room⟩, fun hl g off m e hh => ?_, fun hl g off m e hh => ?_⟩
  · unfold two at hh hn; omega
  · by_cases hz : 0 < l[i].k.c.length
    · exact .inr (h3 hz g off m e)
    · exact .inl (by omega)
  · by_cases hz : 0 < l[i].m.length
    · exact .inr (h4 hz g off m e)
    · exact .inl (by omega)
  · have n := h3 hl g off m e
    have := (ens_lt h2.ens g off m e).resolve_left (by omega)
    unfold two at hh n
    omega
  · have n := h4 hl g off m e
    have := (prs_lt h2.prs g off m e).resolve_left (by omega)
    unfold two at hh n
    omega
set_option maxRecDepth 100000 in
set_option maxHeartbeats 8000000 in
theorem decode16 (w : World) (s : ByteArray) (hs : s.size ≤ maxLen) :
    Calls Tryz.prog 19 #[.string s] w (RObE (decO s) w) := by
  have HE : Hid (∀ (W : World) (e : Ending) (E : Int), decO s = (zOb, E) → e = .returned (.tuple #[.agg #[.string ⟨#[]⟩, .slice none 0 0], .int .i64 E]) → Keep0 w W → RObE (decO s) w e W) := fun _ _ _ h1 h2 h3 => RObE.bare h1 h2 h3
  have HM : Hid (∀ (W : World) (e : Ending) (K : ByteArray) (L : List Pl) (ao : Option Addr) (cap : Nat), decO s = (⟨K, L.map Pl.x⟩, 0) → e = .returned (.tuple #[.agg #[.string K, .slice ao L.length cap], .int .i64 0]) → NewL w.heap.size W ao L → (L.length ≤ cap ∧ cap ≤ maxLen) → Keep0 w W → RObE (decO s) w e W) := fun _ _ _ _ _ _ h1 h2 h3 h3' h4 => RObE.mk h1 h2 h3 h3' h4
  have kA : Keep0 w (w.alloc (.cells #[.string ⟨#[]⟩, .slice none 0 0] 27)) := (Keep.refl _ w).alloc _
  have q2 : DAt (w.alloc (.cells #[.string ⟨#[]⟩, .slice none 0 0] 27)) w.heap.size (.string ⟨#[]⟩) (.slice none 0 0) := DAt.new w 27 (.string ⟨#[]⟩) (.slice none 0 0)
  have z1 : (w.alloc (.cells #[.string ⟨#[]⟩, .slice none 0 0] 27)).heap.size = w.heap.size + 1 := by rw [World.size_alloc]
  have yn := new_any (w.alloc (.cells #[.string ⟨#[]⟩, .slice none 0 0] 27)) s hs
  rw [z1] at yn
  have yt := fun W (h : Cur W (w.heap.size + 1) s 0 0) => take16 h
  rw [rX_yes] at yt
  have HD : Hid (if cEnd s (rOb s 0).2.1 (rOb s 0).2.2 = 0 then decO s = ((rOb s 0).1, 0) else decO s = (zOb, cEnd s (rOb s 0).2.1 (rOb s 0).2.2)) := by
    show if _ then _ else _
    unfold decO dec
    split <;> rfl
  have ye := fun (W : World) (h : Cur W (w.heap.size + 1) s (rOb s 0).2.1 (rOb s 0).2.2) => end_any h
  generalize hE : cEnd s (rOb s 0).2.1 (rOb s 0).2.2 = E at *
  obtain ⟨⟨OO, A, X⟩, hRV⟩ : ∃ RV, rOb s 0 = RV := ⟨_, rfl⟩
  rw [hRV] at yt ye HD
  clear hE hRV
  have ye : ∀ (W : World), Cur W (w.heap.size + 1) s A X → Calls Tryz.prog 47 #[ptr (w.heap.size + 1)] W fun e w' => e = .returned (.int .i64 E) ∧ Cur w' (w.heap.size + 1) s A E ∧ Keep1 (w.heap.size + 1) W w' := ye
  have HD : Hid (if E = 0 then decO s = (OO, 0) else decO s = (zOb, E)) := HD
  go_enter Tryz.func19, Tryz.ntmps19
  go_wp2_with fail
  generalize (w.alloc (.cells #[.string ⟨#[]⟩, .slice none 0 0] 27)) = W0 at *
  obtain ⟨g2, hg2⟩ : ∃ g2, w.heap.size = g2 := ⟨_, rfl⟩
  rw [hg2] at q2 z1 yn yt ye ⊢
  obtain ⟨gc, hgc⟩ : ∃ gc, g2 + 1 = gc := ⟨_, rfl⟩
  rw [hgc] at yn yt ye z1
  have n2 : g2 ≠ gc := by omega
  have HG : Hid (w.heap.size = g2 ∧ g2 + 1 = gc) := ⟨hg2, hgc⟩
  refine yn.mono ?_
  rintro e w0 ⟨rfl, c0, kn⟩
  have K0 := kA.trans kn
  have qn := q2.keep0 kn
  have sz0 := c0.lt
  have yt := yt _ c0
  clear yn kA kn q2 hs z1
  go_wp2_with fail
  refine yt.mono ?_
  rintro e w1 ⟨ao, cap, L, rfl, hL, c1, hN, hcp, k1⟩
  obtain ⟨K, l⟩ := OO
  have hL : L.map Pl.x = l := hL
  subst hL
  replace c1 : Cur w1 gc s A X := c1
  have el : (L.map Pl.x).length = L.length := List.length_map ..
  dsimp only
  rw [el]
  have HCP : Hid (L.length ≤ cap ∧ cap ≤ maxLen) := hcp
  clear hcp
  have K1 : Keep0 w w1 := K0.step k1 (fun i hi hh => by have := HG.out; omega)
  have q2a := qn.keep k1 n2
  have HNL : Hid (NewL (gc + 1) w1 ao L) := hN.lower (by omega)
  clear yt k1 K0 qn hN hg2 hgc el c0 sz0
  have kB : Keep0 w1 (w1.alloc (.cells #[.string K, .slice ao L.length cap] 27)) := (Keep.refl _ w1).alloc _
  have q3 := DAt.new w1 27 (.string K) (.slice ao L.length cap)
  have c2 := c1.keep0 kB
  have q2b := q2a.keep0 kB
  have HNL2 : Hid (NewL (gc + 1) (w1.alloc (.cells #[.string K, .slice ao L.length cap] 27)) ao L) := HNL.out.keep kB (fun _ _ f => f)
  have K2 := K1.trans kB
  have hlt := c1.lt
  have ye := ye _ c2
  clear kB c1 q2a HNL K1
  go_wp2_with fail
  generalize (w1.alloc (.cells #[.string K, .slice ao L.length cap] 27)) = W2 at *
  obtain ⟨g3, hg3⟩ : ∃ g3, w1.heap.size = g3 := ⟨_, rfl⟩
  rw [hg3] at q3 hlt ⊢
  have n3 : g3 ≠ gc := by omega
  refine ye.mono ?_
  rintro e w3 ⟨rfl, c3, k3⟩
  have K3 : Keep0 w w3 := K2.step k3 (fun i hi hh => by have := HG.out; omega)
  have q2c := q2b.keep k3 n2
  have q3c := q3.keep k3 n3
  have HNL3 : Hid (NewL (gc + 1) w3 ao L) := HNL2.out.keep k3 (fun g hg hh => by omega)
  clear ye k3 K2 q2b q3 HNL2 c2 c3 hg3 hlt
  obtain ⟨u0, u1, f0, f1⟩ := q2c.cells
  obtain ⟨t0, t1, h0, h1⟩ := q3c.cells
  by_cases hz : E = 0
  · have hd := HD.out
    rw [if_pos hz] at hd
    have HV : Hid (decO s = (⟨K, L.map Pl.x⟩, 0)) := hd
    subst hz
    clear hd HD HE
    go_wp2
    refine bodyPost_ret (retOb2 rfl _ _ _ rfl (q2c.put (.string K) (.slice ao L.length cap))) rfl ?_
    exact HM.out _ _ K L ao cap HV.out rfl ((HNL3.out.keep (put2_keep _ _ _ _) (fun g hg hh => by have := HG.out; omega)).lower (by have := HG.out; omega)) HCP.out (K3.step (put2_keep _ _ _ _) (fun i hi hh => by have := HG.out; omega))
  · have hd := HD.out
    rw [if_neg hz] at hd
    have HV : Hid (decO s = (zOb, E)) := hd
    have e0 : (E != 0) = true := by simpa using hz
    clear hd HD HM hz
    go_wp2
    refine bodyPost_ret (retOb2 rfl _ _ _ rfl (q2c.put (.string ⟨#[]⟩) (.slice none 0 0))) rfl ?_
    exact HE.out _ _ _ HV.out rfl (K3.step (put2_keep _ _ _ _) (fun i hi hh => by have := HG.out; omega))
end Go.Proofs.YtoefibkhlhmlfaaGreat
