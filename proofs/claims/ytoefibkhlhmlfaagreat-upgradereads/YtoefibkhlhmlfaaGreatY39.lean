/-
  What this seat's claims lean on of the texts RefUpg, Law16.
  Conditions: as each theorem states.
-/
import Derived.WalkKit
import Derived.ProofKit
import Derived.Below
import Derived.Deep.Draws
import Derived.Deep.RegionHeld
import Derived.Test.YtoefibkhlhmlfaaGreatChecked
import Derived.OpenShut
import Derived.ShutString
import Derived.WalkSpells
import Derived.WalkLawsBesides
import Derived.Deep.QuietTactic
import Derived.BigQuiet
import Derived.Laws.Bits64b
import Derived.PlainAid
import Derived.Lib.AppendStr
import Derived.Deep.AppendLies
import Derived.Laws.IdiomStrings
import Derived.Laws.BytesArg
import Derived.Deep.RegionWith
import Derived.Laws.AppendOwn
import Derived.Deep.DeepAppendWide
import Derived.Deep.Upon
import Derived.Maps.AppendAt
import Derived.Deep.Slices
import Derived.Laws.Rows
import Derived.Deep.CutRange
import Derived.Deep.RegionLaw
import Derived.Test.YtoefibkhlhmlfaaGreatY19
import Derived.Test.YtoefibkhlhmlfaaGreatY22
import Derived.Test.YtoefibkhlhmlfaaGreatY38
import Derived.Test.YtoefibkhlhmlfaaGreatY30
import Derived.Test.YtoefibkhlhmlfaaGreatY17
import Derived.Test.YtoefibkhlhmlfaaGreatY36
import Derived.Test.YtoefibkhlhmlfaaGreatY32
import Derived.Test.YtoefibkhlhmlfaaGreatY34
import Derived.Test.YtoefibkhlhmlfaaGreatY3
namespace Go.Proofs.YtoefibkhlhmlfaaGreat
open Go.RowKit
def RObA (p : Ob × Int) (w : World) (e : Ending) (w' : World) : Prop := ∃ ao cap L, e = .returned (.tuple #[.agg #[.string p.1.key, .slice ao p.1.l.length cap], .int .i64 p.2]) ∧ L.map Pl.x = p.1.l ∧ PlsAt w' ao L ∧ (L.length ≤ cap ∧ cap ≤ maxLen) ∧ Keep0 w w'
theorem RObS.a {p : Ob × Int} {w w' : World} {e : Ending} (h : RObS p w e w') : RObA p w e w' := by
  obtain ⟨ao, cap, L, h1, h2, h3, _, h4, h5⟩ := h
  exact ⟨ao, cap, L, h1, h2, h3, h4, h5⟩
theorem RObE.a {p : Ob × Int} {w w' : World} {e : Ending} (h : RObE p w e w') : RObA p w e w' := by
  obtain ⟨ao, cap, L, h1, h2, h3, h4, h5⟩ := h
  exact ⟨ao, cap, L, h1, h2, h3.at_, h4, h5⟩
theorem RObA.bare {p : Ob × Int} {w w' : World} {e : Ending} {E : Int} (hp : p = (zOb, E)) (h : e = .returned (.tuple #[.agg #[.string ⟨#[]⟩, .slice none 0 0], .int .i64 E])) (h3 : Keep0 w w') : RObA p w e w' := by
  subst hp
  exact ⟨none, 0, [], h, rfl, PlsAt.nil _ _, ⟨Nat.le_refl _, Nat.zero_le _⟩, h3⟩
def upP (p : Po) : Pl := ⟨upS p.x, p.vo, p.vc, none, 0⟩
theorem upP_map (L : List Po) : (L.map upP).map Pl.x = (L.map Po.x).map upS := by rw [List.map_map, List.map_map]; rfl
theorem upS_fit {x : Os} (h : FitsOs x) : FitsS (upS x) := ⟨⟨h.vec, Nat.zero_le _, by show 0 < 18446744073709551616; omega⟩, ⟨Nat.zero_le _, fun y hy => by cases hy⟩, h.val⟩
theorem map_take {α β : Type} {f : α → β} {l : List α} {k : Nat} (h : k < l.length) : (l.take (k + 1)).map f = (l.take k).map f ++ [f l[k]] := by
  rw [List.take_add_one, List.getElem?_eq_getElem h, List.map_append]
  rfl
set_option maxRecDepth 100000 in
set_option maxHeartbeats 8000000 in
theorem rup18 (w : World) (key : ByteArray) (hk : key.size ≤ maxLen) (ao : Option Addr) (cap : Nat) (LP : List Po) (hl : LP.length ≤ maxLen) (hf : ∀ p ∈ LP, FitsOs p.x) (hc : PosAt w ao LP) :
    Calls Tryz.prog 10 #[.agg #[.string key, .slice ao LP.length cap]] w (RObA (oUp ⟨key, LP.map Po.x⟩) w) := by
  have i0 : (LP.length : Int) ≤ 9223372036854775807 := by unfold maxLen at hl; omega
  have HE : Hid (∀ (W : World) (e : Ending) (E : Int), oUp ⟨key, LP.map Po.x⟩ = (zOb, E) → e = .returned (.tuple #[.agg #[.string ⟨#[]⟩, .slice none 0 0], .int .i64 E]) → Keep0 w W → RObA (oUp ⟨key, LP.map Po.x⟩) w e W) := fun _ _ _ h1 h2 h3 => RObA.bare h1 h2 h3
  have HC : Hid (PosAt w ao LP) := hc
  have HF : Hid (∀ p ∈ LP, FitsOs p.x) := hf
  have HKs : Hid (key.size ≤ maxLen) := hk
  have kA : Keep0 w ((w.alloc (.cells #[.string key, .slice ao LP.length cap] 24)).alloc (.cells #[.string ⟨#[]⟩, .slice none 0 0] 27)) := ((Keep.refl _ w).alloc _).alloc _
  have qO : DAt ((w.alloc (.cells #[.string key, .slice ao LP.length cap] 24)).alloc (.cells #[.string ⟨#[]⟩, .slice none 0 0] 27)) w.heap.size (.string key) (.slice ao LP.length cap) := (DAt.new w 24 (.string key) (.slice ao LP.length cap)).keep0 ((Keep.refl _ _).alloc _)
  have q2 : DAt ((w.alloc (.cells #[.string key, .slice ao LP.length cap] 24)).alloc (.cells #[.string ⟨#[]⟩, .slice none 0 0] 27)) (w.heap.size + 1) (.string ⟨#[]⟩) (.slice none 0 0) := by
    have := DAt.new (w.alloc (.cells #[.string key, .slice ao LP.length cap] 24)) 27 (.string ⟨#[]⟩) (.slice none 0 0)
    rw [World.size_alloc] at this
    exact this
  have z1 : ((w.alloc (.cells #[.string key, .slice ao LP.length cap] 24)).alloc (.cells #[.string ⟨#[]⟩, .slice none 0 0] 27)).heap.size = w.heap.size + 2 := by rw [World.size_alloc, World.size_alloc]
  have yc := rcheck17 ((w.alloc (.cells #[.string key, .slice ao LP.length cap] 24)).alloc (.cells #[.string ⟨#[]⟩, .slice none 0 0] 27)) key hk ao cap LP hl hf (hc.keep0 kA)
  obtain ⟨x0, x1, xf0, xf1⟩ := qO.cells
  clear hc hf hk
  by_cases h0 : olCheck ⟨key, LP.map Po.x⟩ = 0
  case neg =>
    have HV : Hid (oUp ⟨key, LP.map Po.x⟩ = (zOb, olCheck ⟨key, LP.map Po.x⟩)) := up_bad h0
    have e0 : (olCheck ⟨key, LP.map Po.x⟩ != 0) = true := by simpa using h0
    clear h0
    generalize olCheck ⟨key, LP.map Po.x⟩ = C at *
    go_enter Tryz.func10, Tryz.ntmps10
    go_wp2_with fail
    generalize ((w.alloc (.cells #[.string key, .slice ao LP.length cap] 24)).alloc (.cells #[.string ⟨#[]⟩, .slice none 0 0] 27)) = W0 at *
    obtain ⟨g, hg⟩ : ∃ z, w.heap.size = z := ⟨_, rfl⟩
    have HG : Hid (w.heap.size = g) := hg
    rw [hg] at qO q2 z1 ⊢
    refine yc.mono ?_
    rintro e w1 ⟨rfl, k1⟩
    have K1 := kA.trans k1
    have q2a := q2.keep0 k1
    obtain ⟨u0, u1, f0, f1⟩ := q2a.cells
    clear yc kA k1 qO q2 x0 x1 xf0 xf1 z1 hg
    go_wp2
    refine bodyPost_ret (retOb2 rfl _ _ _ rfl (q2a.put (.string ⟨#[]⟩) (.slice none 0 0))) rfl ?_
    exact HE.out _ _ _ HV.out rfl (K1.step (put2_keep _ _ _ _) (fun i hi hh => by have := HG.out; omega))
  have HV : Hid (oUp ⟨key, LP.map Po.x⟩ = oSort key ((LP.map upP).map Pl.x)) := by
    show _ = _
    rw [upP_map]
    exact if_pos h0
  have hn : LP.length ≤ 16 := by
    have h := (outS_zero.1 (olCheck_zero.1 h0).1).2.2.2
    have h : (LP.map Po.x).length ≤ 16 := h
    rwa [List.length_map] at h
  rw [h0] at yc
  clear h0 HE
  go_enter Tryz.func10, Tryz.ntmps10
  go_wp2_with fail
  generalize ((w.alloc (.cells #[.string key, .slice ao LP.length cap] 24)).alloc (.cells #[.string ⟨#[]⟩, .slice none 0 0] 27)) = W0 at *
  obtain ⟨g, hg⟩ : ∃ z, w.heap.size = z := ⟨_, rfl⟩
  have HG : Hid (w.heap.size = g) := hg
  rw [hg] at qO q2 z1 ⊢
  refine yc.mono ?_
  rintro e w1 ⟨rfl, k1⟩
  have HK1 : Hid (Keep0 w w1) := kA.trans k1
  have HO1 : Hid (DAt w1 g (.string key) (.slice ao LP.length cap)) := qO.keep0 k1
  have HQ1 : Hid (DAt w1 (g + 1) (.string ⟨#[]⟩) (.slice none 0 0)) := q2.keep0 k1
  have HZ1 : Hid (g + 2 ≤ w1.heap.size) := by show _ ≤ _; have := k1.size; omega
  clear yc kA k1 qO q2 x0 x1 xf0 xf1 z1 hg
  go_wp2_with fail
  go_loopw [5, 6] (fun vv i wr => ∃ (k : Nat) (O : List Pl) (v : Value), v = vv ∧ i = .int .i64 (k : Int) ∧ k ≤ LP.length ∧ Hid (O = (LP.take k).map upP) ∧ Hid (wr.ownsRow (g + 2) 61 7 v O.length (rowOf Pl.cells O)) ∧ Hid (DAt wr g (.string key) (.slice ao LP.length cap)) ∧ Hid (DAt wr (g + 1) (.string ⟨#[]⟩) (.slice none 0 0)) ∧ Hid (Keep0 w wr) ∧ Hid (g + 2 ≤ wr.heap.size)) (fun _ i _ => LP.length - (intOf i).toNat)
  case atStart => exact ⟨0, [], _, rfl, rfl, Nat.zero_le _, rfl, World.ownsRow_nil _ _ _ _, HO1, HQ1, HK1, HZ1⟩
  case round =>
    obtain ⟨k, O, v, rfl, rfl, hk2, HOe, HR, HO, HQ, HKw, HZ⟩ := hrel
    clear HO1 HQ1 HK1 HZ1
    obtain ⟨x0, x1, xf0, xf1⟩ := HO.out.cells
    have hOl : O.length = k := by rw [HOe.out, List.length_map, List.length_take]; omega
    have HOl : Hid (O.length = k) := hOl
    clear hOl
    by_cases hlt : k < LP.length
    · have i1 : (k : Int) < LP.length := by omega
      obtain ⟨bb, off, eao, s1, s2⟩ := (HC.out.keep0 HKw.out).at_ k hlt
      subst eao
      have HN : Hid ((LP.take (k + 1)).map upP = O ++ [upP LP[k]]) := by show _ = _; rw [map_take hlt, HOe.out]
      obtain ⟨b0, b1, b2⟩ := s1
      clear s2
      generalize LP[k] = p at *
      have kX : Keep0 wr (wr.alloc (.cells #[.slice p.vo p.x.c.length p.vc, .bool p.x.d, .string p.x.v] 56)) := (Keep.refl _ wr).alloc _
      obtain ⟨c0, c1, c2, cf0, cf1, cf2⟩ := (TAt.new wr 56 (.slice p.vo p.x.c.length p.vc) (.bool p.x.d) (.string p.x.v)).cells
      have kS : Keep0 wr ((wr.alloc (.cells #[.slice p.vo p.x.c.length p.vc, .bool p.x.d, .string p.x.v] 56)).alloc (.cells #[.slice p.vo p.x.c.length p.vc, .bool false, .string ⟨#[]⟩, .int .u64 0, .slice none 0 0, .bool p.x.d, .string p.x.v] 61)) := kX.alloc _
      have hsrc : RowAt Pl.cells 7 ((wr.alloc (.cells #[.slice p.vo p.x.c.length p.vc, .bool p.x.d, .string p.x.v] 56)).alloc (.cells #[.slice p.vo p.x.c.length p.vc, .bool false, .string ⟨#[]⟩, .int .u64 0, .slice none 0 0, .bool p.x.d, .string p.x.v] 61)) (some ⟨wr.heap.size + 1, 0, none⟩) [upP p] := by
        have := pl_new (wr.alloc (.cells #[.slice p.vo p.x.c.length p.vc, .bool p.x.d, .string p.x.v] 56)) 61 (upP p)
        rw [World.size_alloc] at this
        exact this
      have hrow : ((wr.alloc (.cells #[.slice p.vo p.x.c.length p.vc, .bool p.x.d, .string p.x.v] 56)).alloc (.cells #[.slice p.vo p.x.c.length p.vc, .bool false, .string ⟨#[]⟩, .int .u64 0, .slice none 0 0, .bool p.x.d, .string p.x.v] 61)).ownsRow (g + 2) 61 7 v O.length (rowOf Pl.cells O) := rowE_keep HR.out kS (fun _ _ f => f)
      have hB : g + 2 ≤ ((wr.alloc (.cells #[.slice p.vo p.x.c.length p.vc, .bool p.x.d, .string p.x.v] 56)).alloc (.cells #[.slice p.vo p.x.c.length p.vc, .bool false, .string ⟨#[]⟩, .int .u64 0, .slice none 0 0, .bool p.x.d, .string p.x.v] 61)).heap.size := by have := kS.size; have := HZ.out; omega
      have hlen : O.length + [upP p].length ≤ 1000000 := by show _ + 1 ≤ _; have := HOl.out; omega
      have HkS : Hid (Keep0 wr ((wr.alloc (.cells #[.slice p.vo p.x.c.length p.vc, .bool p.x.d, .string p.x.v] 56)).alloc (.cells #[.slice p.vo p.x.c.length p.vc, .bool false, .string ⟨#[]⟩, .int .u64 0, .slice none 0 0, .bool p.x.d, .string p.x.v] 61))) := kS
      clear kX kS
      go_wp2_with (at_builtin; refine wpList_append_row_at plT rfl _ _ rfl rfl rfl hrow hsrc hB hlen ?_)
      intro v' w4 g1 g2 g3
      obtain ⟨ON, hON⟩ : ∃ z, O ++ [upP p] = z := ⟨_, rfl⟩
      have g1 : w4.ownsRow (g + 2) 61 7 v' (O ++ [upP p]).length (rowOf Pl.cells (O ++ [upP p])) := by first | exact g1 | (rw [List.length_append]; exact g1)
      rw [hON] at g1 HN
      have hn4 : ∀ q, Value.ownBlock v = some q → g + 2 ≤ q := fun q e => (HR.out.lt q e).1
      have K4 : Keep (fun q => Value.ownBlock v = some q) wr w4 := (HkS.out.any).trans (keep_grown g2)
      have HR4 : Hid (w4.ownsRow (g + 2) 61 7 v' ON.length (rowOf Pl.cells ON)) := g1
      have HO4 : Hid (DAt w4 g (.string key) (.slice (some ⟨bb, off, none⟩) LP.length cap)) := HO.out.keep K4 (fun e => by have := hn4 _ e; omega)
      have HQ4 : Hid (DAt w4 (g + 1) (.string ⟨#[]⟩) (.slice none 0 0)) := HQ.out.keep K4 (fun e => by have := hn4 _ e; omega)
      have HK4 : Hid (Keep0 w w4) := HKw.out.step K4 (fun i hi e => by have := hn4 _ e; have := HG.out; omega)
      have HZ4 : Hid (g + 2 ≤ w4.heap.size) := by show _ ≤ _; have := K4.size; have := HZ.out; omega
      have HNe : Hid (ON = (LP.take (k + 1)).map upP) := HN.out.symm
      clear g1 g2 g3 hn4 K4 hsrc hrow hB hlen HkS HR HO HQ HKw HZ x0 x1 xf0 xf1 b0 b1 b2 c0 c1 c2 cf0 cf1 cf2 hON HN
      go_wp2
      go_roundw
      case rel => exact ⟨k + 1, ON, v', rfl, by go_num, by omega, HNe, HR4, HO4, HQ4, HK4, HZ4⟩
      case measure => simp [intOf]; omega
    have i1 : ¬ (k : Int) < LP.length := by omega
    have hOe : O = LP.map upP := by rw [HOe.out, List.take_of_length_le (by omega)]
    obtain ⟨vo, vc, rfl, r1, r2, r3, r4⟩ := row_of_own plT.len plT.pos HR.out
    have hmem : ∀ q ∈ O, ∃ p ∈ LP, upP p = q := fun q hq => by rw [hOe] at hq; exact List.mem_map.1 hq
    have hP : PlsAt wr vo O := ⟨r1, fun q hq => by
      obtain ⟨p, hp, rfl⟩ := hmem q hq
      exact ⟨(HC.out.ins p hp).keep0 HKw.out, prs_nil _ _, Nat.le_refl _, Nat.zero_le _⟩⟩
    have ys := rsort16_pl wr key HKs.out vo vc O (by have := HOl.out; unfold maxLen; omega) (fun q hq => by
      obtain ⟨p, hp, rfl⟩ := hmem q hq
      exact upS_fit (HF.out p hp)) hP
    rw [hOe, ← HV.out, ← hOe] at ys
    clear r1 r2 r3 r4 hmem hP hOe HV
    generalize oUp ⟨key, LP.map Po.x⟩ = U at *
    go_wp2_with fail
    refine ys.mono ?_
    rintro e w5 ⟨bo, cb, L, rfl, h1, h2, h3, hcp, k5⟩
    have HCP : Hid (L.length ≤ cb ∧ cb ≤ maxLen) := hcp
    clear hcp
    have q5 := HQ.out.keep0 k5
    have K5 := HKw.out.trans k5
    obtain ⟨u0, u1, f0, f1⟩ := q5.cells
    clear ys k5 x0 x1 xf0 xf1
    go_wp2
    refine bodyPost_ret (retOb2 rfl _ _ _ rfl (q5.put (.string U.1.key) (.slice bo U.1.l.length cb))) rfl ?_
    exact ⟨bo, cb, L, rfl, h1, pls_beside q5 (put2_keep _ _ _ _) h2, HCP.out, K5.step (put2_keep _ _ _ _) (fun i hi hh => by have := HG.out; omega)⟩
set_option maxRecDepth 100000 in
set_option maxHeartbeats 8000000 in
theorem rread18 (w : World) (v : Int) (hv : (Lit.int .u8 v).wf = true) (s : ByteArray) (hs : s.size ≤ maxLen) :
    Calls Tryz.prog 24 #[.int .u8 v, .string s] w (RObA (oRead v s) w) := by
  have kA : Keep0 w (w.alloc (.cells #[.string ⟨#[]⟩, .slice none 0 0] 27)) := (Keep.refl _ w).alloc _
  have q2 : DAt (w.alloc (.cells #[.string ⟨#[]⟩, .slice none 0 0] 27)) w.heap.size (.string ⟨#[]⟩) (.slice none 0 0) := DAt.new w 27 (.string ⟨#[]⟩) (.slice none 0 0)
  by_cases h2 : v = 2
  · subst h2
    have HV : oRead 2 s = decO s := if_pos rfl
    rw [HV]
    have yd := rdecode16 (w.alloc (.cells #[.string ⟨#[]⟩, .slice none 0 0] 27)) s hs
    generalize decO s = U at *
    clear HV hs hv
    go_enter Tryz.func24, Tryz.ntmps24
    go_wp2_with fail
    generalize (w.alloc (.cells #[.string ⟨#[]⟩, .slice none 0 0] 27)) = W0 at *
    obtain ⟨g, hg⟩ : ∃ z, w.heap.size = z := ⟨_, rfl⟩
    have HG : Hid (w.heap.size = g) := hg
    rw [hg] at q2 ⊢
    refine yd.mono ?_
    rintro e w5 h5
    obtain ⟨bo, cb, L, rfl, h1, h2, hcp, k5⟩ := h5.a
    have HCP : Hid (L.length ≤ cb ∧ cb ≤ maxLen) := hcp
    clear hcp
    have q9 := q2.keep0 k5
    have K9 := kA.trans k5
    obtain ⟨u0, u1, f0, f1⟩ := q9.cells
    clear yd k5 q2 kA h5 hg
    go_wp2
    refine bodyPost_ret (retOb2 rfl _ _ _ rfl (q9.put (.string U.1.key) (.slice bo U.1.l.length cb))) rfl ?_
    exact ⟨bo, cb, L, rfl, h1, pls_beside q9 (put2_keep _ _ _ _) h2, HCP.out, K9.step (put2_keep _ _ _ _) (fun i hi hh => by have := HG.out; omega)⟩
  have n2 : (v == 2) = false := beq_eq_false_iff_ne.2 h2
  by_cases h1 : v = 1
  case neg =>
    have HV : oRead v s = (zOb, 10) := by unfold oRead; rw [if_neg h2, if_neg h1]
    rw [HV]
    have n1 : (v != 1) = true := by simpa using h1
    obtain ⟨u0, u1, f0, f1⟩ := q2.cells
    clear HV hs hv
    go_enter Tryz.func24, Tryz.ntmps24
    go_wp2
    refine bodyPost_ret (retOb2 rfl _ _ _ rfl q2) rfl ?_
    exact RObA.bare rfl rfl kA
  subst h1
  have yd := rdecode17 (w.alloc (.cells #[.string ⟨#[]⟩, .slice none 0 0] 27)) s hs
  have HOK : Hid (∀ L : List Po, L.map Po.x = (decL s).1.l → (decL s).1.key.size ≤ maxLen ∧ L.length ≤ maxLen ∧ ∀ p ∈ L, FitsOs p.x) := by
    intro L hL
    by_cases h : (decL s).2 = 0
    · have hk := (ol_codec.dec_zero (z := zOl) h).1
      obtain ⟨h1, h2, _⟩ := olCheck_zero.1 hk.1
      obtain ⟨_, h3, _, h4⟩ := outS_zero.1 h1
      have hl : L.length = (decL s).1.l.length := by rw [← hL, List.length_map]
      refine ⟨?_, ?_, fun p hp => ?_⟩
      · have h3 : (decL s).1.key.size ≤ 128 := h3
        unfold maxLen; omega
      · have h4 : (decL s).1.l.length ≤ 16 := h4
        unfold maxLen; omega
      · have hm : p.x ∈ (decL s).1.l := by rw [← hL]; exact List.mem_map.2 ⟨p, hp, rfl⟩
        exact okOs_fit (okOs_U.2 ⟨h2 _ hm, hk.2 _ hm⟩)
    · have e : (decL s).1 = zOl := dec_no h
      rw [e] at hL ⊢
      have : L = [] := List.map_eq_nil_iff.1 hL
      subst this
      exact ⟨Nat.zero_le _, Nat.zero_le _, (fun p hp => by cases hp)⟩
  have HV : Hid (oRead 1 s = if (decL s).2 = 0 then oUp (decL s).1 else (zOb, (decL s).2)) := rfl
  obtain ⟨⟨D, E⟩, hDE⟩ : ∃ D, decL s = D := ⟨_, rfl⟩
  rw [hDE] at yd HOK HV
  have yd : Calls Tryz.prog 55 #[.string s] (w.alloc (.cells #[.string ⟨#[]⟩, .slice none 0 0] 27)) fun e w' => ∃ ao cap L, e = .returned (.tuple #[.agg #[.string D.key, .slice ao L.length cap], .int .i64 E]) ∧ L.map Po.x = D.l ∧ L.length ≤ cap ∧ cap ≤ maxLen ∧ PosAt w' ao L ∧ Keep0 (w.alloc (.cells #[.string ⟨#[]⟩, .slice none 0 0] 27)) w' := yd
  have HOK : Hid (∀ L : List Po, L.map Po.x = D.l → D.key.size ≤ maxLen ∧ L.length ≤ maxLen ∧ ∀ p ∈ L, FitsOs p.x) := HOK
  have HV : Hid (oRead 1 s = if E = 0 then oUp D else (zOb, E)) := HV
  clear hDE hs hv h2
  go_enter Tryz.func24, Tryz.ntmps24
  go_wp2_with fail
  generalize (w.alloc (.cells #[.string ⟨#[]⟩, .slice none 0 0] 27)) = W0 at *
  obtain ⟨g, hg⟩ : ∃ z, w.heap.size = z := ⟨_, rfl⟩
  have HG : Hid (w.heap.size = g) := hg
  rw [hg] at q2 ⊢
  refine yd.mono ?_
  rintro e w1 ⟨lo, lc, L1, rfl, hL1, hc1, hm1, x1, k1⟩
  have K1 := kA.trans k1
  have kB : Keep0 w1 (w1.alloc (.cells #[.string D.key, .slice lo L1.length lc] 24)) := (Keep.refl _ _).alloc _
  have qX := DAt.new w1 24 (.string D.key) (.slice lo L1.length lc)
  have x1 := x1.keep0 kB
  have q2a := (q2.keep0 k1).keep0 kB
  have K2 := K1.trans kB
  obtain ⟨a1, a2, a3⟩ := HOK.out L1 hL1
  by_cases hE : E = 0
  case neg =>
    have e0 : (E != 0) = true := by simpa using hE
    have HV2 : Hid (oRead 1 s = (zOb, E)) := by show _ = _; rw [HV.out, if_neg hE]
    obtain ⟨u0, u1, f0, f1⟩ := q2a.cells
    clear yd k1 kB kA q2 K1 x1 a1 a2 a3 hL1 hg hE HV HOK
    go_wp2
    refine bodyPost_ret (retOb2 rfl _ _ _ rfl (q2a.put (.string ⟨#[]⟩) (.slice none 0 0))) rfl ?_
    exact RObA.bare HV2.out rfl (K2.step (put2_keep _ _ _ _) (fun i hi hh => by have := HG.out; omega))
  subst hE
  have yu := rup18 _ D.key a1 lo lc L1 a2 a3 x1
  have hD : (⟨D.key, L1.map Po.x⟩ : Ol) = D := by rw [hL1]
  have HV2 : Hid (oRead 1 s = oUp D) := by show _ = _; rw [HV.out, if_pos rfl]
  rw [hD] at yu
  obtain ⟨a0, b0, af0, bf0⟩ := qX.cells
  clear yd k1 kB kA q2 K1 x1 a1 a2 a3 hL1 hg HV HOK hD hc1 hm1
  generalize oUp D = U at *
  go_wp2_with fail
  generalize (w1.alloc (.cells #[.string D.key, .slice lo L1.length lc] 24)) = W2 at *
  generalize w1.heap.size = gx at *
  refine yu.mono ?_
  rintro e w5 ⟨bo, cb, L, rfl, h1, h2, hcp, k5⟩
  have HCP : Hid (L.length ≤ cb ∧ cb ≤ maxLen) := hcp
  clear hcp
  have q9 := q2a.keep0 k5
  have K9 := K2.trans k5
  obtain ⟨u0, u1, f0, f1⟩ := q9.cells
  clear yu k5 q2a K2 qX a0 b0 af0 bf0
  go_wp2
  refine bodyPost_ret (retOb2 rfl _ _ _ rfl (q9.put (.string U.1.key) (.slice bo U.1.l.length cb))) rfl ?_
  show RObA (oRead 1 s) _ _ _
  rw [HV2.out]
  exact ⟨bo, cb, L, rfl, h1, pls_beside q9 (put2_keep _ _ _ _) h2, HCP.out, K9.step (put2_keep _ _ _ _) (fun i hi hh => by have := HG.out; omega)⟩
end Go.Proofs.YtoefibkhlhmlfaaGreat
namespace Go.Proofs.YtoefibkhlhmlfaaGreat
open Go.RowKit
structure Ok16 (o : Ob) : Prop where
  key : o.key.size ≤ 1000000
  len : o.l.length ≤ 100
  sib : ∀ x ∈ o.l, Ok15 x
theorem Ok16.fit {o : Ob} (h : Ok16 o) : FitsO o := ⟨by have := h.key; unfold maxLen; omega, by have := h.len; unfold maxLen; omega, fun x hx => (h.sib x hx).fit⟩
theorem okOb.ok {o : Ob} (h : okOb o) : Ok16 o := by
  obtain ⟨h1, h2⟩ := oCheck_zero.1 h.1
  obtain ⟨a1, a2, a3, a4⟩ := outS_zero.1 h1
  exact ⟨by omega, by omega, fun x hx => (okSib_U.2 ⟨h2.1 x hx, h.2 x hx⟩).ok⟩
theorem zOb_ok : Ok16 zOb := ⟨by show 0 ≤ 1000000; omega, by show 0 ≤ 100; omega, (fun _ h => by cases h)⟩
theorem Ok16.u {o : Ob} (h : Ok16 o) : ∀ x ∈ o.l, sbU x := fun x hx => (h.sib x hx).fit.u
structure CopyL (B : Nat) (w : World) (ao : Option Addr) (cap : Nat) (L : List Pl) : Prop where
  row : w.ownsRow B 61 7 (.slice ao L.length cap) L.length (rowOf Pl.cells L)
  vec : ∀ p ∈ L, w.ownsRow B 53 2 (.slice p.vo p.x.k.c.length p.vc) p.x.k.c.length (enCells p.x.k.c)
  prs : ∀ p ∈ L, w.ownsRow B 135 2 (.slice p.po p.x.m.length p.pc) p.x.m.length (prCells p.x.m)
  off : ∀ i j (_ : i < L.length) (_ : j < L.length), i ≠ j → 0 < L[i].x.m.length → 0 < L[j].x.m.length → ∀ g o m g' o' m', L[i].po = some ⟨g, o, m⟩ → L[j].po = some ⟨g', o', m'⟩ → g ≠ g'
end Go.Proofs.YtoefibkhlhmlfaaGreat
