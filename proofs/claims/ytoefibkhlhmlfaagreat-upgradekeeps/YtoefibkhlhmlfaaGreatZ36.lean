/-
  What this seat's claims lean on of the texts RefUpg.
  Conditions: as each theorem states.
-/
import Derived.WalkKit
import Derived.ProofKit
import Derived.Below
import Derived.Deep.Draws
import Derived.Deep.RegionHeld
import Derived.Test.YtoefibkhlhmlfaaGreatChecked
import Derived.OpenShut
import Derived.ShutString
import Derived.WalkSpells
import Derived.WalkLawsBesides
import Derived.Deep.QuietTactic
import Derived.BigQuiet
import Derived.Laws.Bits64b
import Derived.PlainAid
import Derived.Lib.AppendStr
import Derived.Deep.AppendLies
import Derived.Laws.IdiomStrings
import Derived.Laws.BytesArg
import Derived.Deep.RegionWith
import Derived.Laws.AppendOwn
import Derived.Deep.DeepAppendWide
import Derived.Deep.Upon
import Derived.Maps.AppendAt
import Derived.Deep.Slices
import Derived.Laws.Rows
import Derived.Deep.CutRange
import Derived.Deep.RegionLaw
import Derived.Test.YtoefibkhlhmlfaaGreatZ16
import Derived.Test.YtoefibkhlhmlfaaGreatZ24
import Derived.Test.YtoefibkhlhmlfaaGreatZ34
import Derived.Test.YtoefibkhlhmlfaaGreatZ26
namespace Go.Proofs.YtoefibkhlhmlfaaGreat
open Go.RowKit
def RObA (p : Ob × Int) (w : World) (e : Ending) (w' : World) : Prop := ∃ ao cap L, e = .returned (.tuple #[.agg #[.string p.1.key, .slice ao p.1.l.length cap], .int .i64 p.2]) ∧ L.map Pl.x = p.1.l ∧ PlsAt w' ao L ∧ (L.length ≤ cap ∧ cap ≤ maxLen) ∧ Keep0 w w'
theorem RObS.a {p : Ob × Int} {w w' : World} {e : Ending} (h : RObS p w e w') : RObA p w e w' := by
  obtain ⟨ao, cap, L, h1, h2, h3, _, h4, h5⟩ := h
  exact ⟨ao, cap, L, h1, h2, h3, h4, h5⟩
theorem RObE.a {p : Ob × Int} {w w' : World} {e : Ending} (h : RObE p w e w') : RObA p w e w' := by
  obtain ⟨ao, cap, L, h1, h2, h3, h4, h5⟩ := h
  exact ⟨ao, cap, L, h1, h2, h3.at_, h4, h5⟩
theorem RObA.bare {p : Ob × Int} {w w' : World} {e : Ending} {E : Int} (hp : p = (zOb, E)) (h : e = .returned (.tuple #[.agg #[.string ⟨#[]⟩, .slice none 0 0], .int .i64 E])) (h3 : Keep0 w w') : RObA p w e w' := by
  subst hp
  exact ⟨none, 0, [], h, rfl, PlsAt.nil _ _, ⟨Nat.le_refl _, Nat.zero_le _⟩, h3⟩
def upP (p : Po) : Pl := ⟨upS p.x, p.vo, p.vc, none, 0⟩
def dnP (p : Pl) : Po := ⟨dnS p.x, p.vo, p.vc⟩
theorem upP_map (L : List Po) : (L.map upP).map Pl.x = (L.map Po.x).map upS := by rw [List.map_map, List.map_map]; rfl
theorem dnP_map (L : List Pl) : (L.map dnP).map Po.x = (L.map Pl.x).map dnS := by rw [List.map_map, List.map_map]; rfl
theorem upS_fit {x : Os} (h : FitsOs x) : FitsS (upS x) := ⟨⟨h.vec, Nat.zero_le _, by show 0 < 18446744073709551616; omega⟩, ⟨Nat.zero_le _, fun y hy => by cases hy⟩, h.val⟩
theorem dnS_fit {x : Sb} (h : FitsS x) : FitsOs (dnS x) := ⟨h.clk.vec, h.val⟩
theorem map_take {α β : Type} {f : α → β} {l : List α} {k : Nat} (h : k < l.length) : (l.take (k + 1)).map f = (l.take k).map f ++ [f l[k]] := by
  rw [List.take_add_one, List.getElem?_eq_getElem h, List.map_append]
  rfl
set_option maxRecDepth 100000 in
set_option maxHeartbeats 8000000 in
theorem rup18 (w : World) (key : ByteArray) (hk : key.size ≤ maxLen) (ao : Option Addr) (cap : Nat) (LP : List Po) (hl : LP.length ≤ maxLen) (hf : ∀ p ∈ LP, FitsOs p.x) (hc : PosAt w ao LP) :
    Calls Tryz.prog 10 #[.agg #[.string key, .slice ao LP.length cap]] w (RObA (oUp ⟨key, LP.map Po.x⟩) w) := by
  have i0 : (LP.length : Int) ≤ 9223372036854775807 := by unfold maxLen at hl; omega
  have HE : Hid (∀ (W : World) (e : Ending) (E : Int), oUp ⟨key, LP.map Po.x⟩ = (zOb, E) → e = .returned (.tuple #[.agg #[.string ⟨#[]⟩, .slice none 0 0], .int .i64 E]) → Keep0 w W → RObA (oUp ⟨key, LP.map Po.x⟩) w e W) := fun _ _ _ h1 h2 h3 => RObA.bare h1 h2 h3
  have HC : Hid (PosAt w ao LP) := hc
  have HF : Hid (∀ p ∈ LP, FitsOs p.x) := hf
  have HKs : Hid (key.size ≤ maxLen) := hk
  have kA : Keep0 w ((w.alloc (.cells #[.string key, .slice ao LP.length cap] 24)).alloc (.cells #[.string ⟨#[]⟩, .slice none 0 0] 27)) := ((Keep.refl _ w).alloc _).alloc _
  have qO : DAt ((w.alloc (.cells #[.string key, .slice ao LP.length cap] 24)).alloc (.cells #[.string ⟨#[]⟩, .slice none 0 0] 27)) w.heap.size (.string key) (.slice ao LP.length cap) := (DAt.new w 24 (.string key) (.slice ao LP.length cap)).keep0 ((Keep.refl _ _).alloc _)
  have q2 : DAt ((w.alloc (.cells #[.string key, .slice ao LP.length cap] 24)).alloc (.cells #[.string ⟨#[]⟩, .slice none 0 0] 27)) (w.heap.size + 1) (.string ⟨#[]⟩) (.slice none 0 0) := by
    have := DAt.new (w.alloc (.cells #[.string key, .slice ao LP.length cap] 24)) 27 (.string ⟨#[]⟩) (.slice none 0 0)
    rw [World.size_alloc] at this
    exact this
  have z1 : ((w.alloc (.cells #[.string key, .slice ao LP.length cap] 24)).alloc (.cells #[.string ⟨#[]⟩, .slice none 0 0] 27)).heap.size = w.heap.size + 2 := by rw [World.size_alloc, World.size_alloc]
  have yc := rcheck17 ((w.alloc (.cells #[.string key, .slice ao LP.length cap] 24)).alloc (.cells #[.string ⟨#[]⟩, .slice none 0 0] 27)) key hk ao cap LP hl hf (hc.keep0 kA)
  obtain ⟨x0, x1, xf0, xf1⟩ := qO.cells
  clear hc hf hk
  by_cases h0 : olCheck ⟨key, LP.map Po.x⟩ = 0
  case neg =>
    have HV : Hid (oUp ⟨key, LP.map Po.x⟩ = (zOb, olCheck ⟨key, LP.map Po.x⟩)) := up_bad h0
    have e0 : (olCheck ⟨key, LP.map Po.x⟩ != 0) = true := by simpa using h0
    clear h0
    generalize olCheck ⟨key, LP.map Po.x⟩ = C at *
    go_enter Tryz.func10, Tryz.ntmps10
    go_wp2_with fail
    generalize ((w.alloc (.cells #[.string key, .slice ao LP.length cap] 24)).alloc (.cells #[.string ⟨#[]⟩, .slice none 0 0] 27)) = W0 at *
    obtain ⟨g, hg⟩ : ∃ z, w.heap.size = z := ⟨_, rfl⟩
    have HG : Hid (w.heap.size = g) := hg
    rw [hg] at qO q2 z1 ⊢
    refine yc.mono ?_
    rintro e w1 ⟨rfl, k1⟩
    have K1 := kA.trans k1
    have q2a := q2.keep0 k1
    obtain ⟨u0, u1, f0, f1⟩ := q2a.cells
    clear yc kA k1 qO q2 x0 x1 xf0 xf1 z1 hg
    go_wp2
    refine bodyPost_ret (retOb2 rfl _ _ _ rfl (q2a.put (.string ⟨#[]⟩) (.slice none 0 0))) rfl ?_
    exact HE.out _ _ _ HV.out rfl (K1.step (put2_keep _ _ _ _) (fun i hi hh => by have := HG.out; omega))
  have HV : Hid (oUp ⟨key, LP.map Po.x⟩ = oSort key ((LP.map upP).map Pl.x)) := by
    show _ = _
    rw [upP_map]
    exact if_pos h0
  have hn : LP.length ≤ 16 := by
    have h := (outS_zero.1 (olCheck_zero.1 h0).1).2.2.2
    have h : (LP.map Po.x).length ≤ 16 := h
    rwa [List.length_map] at h
  rw [h0] at yc
  clear h0 HE
  go_enter Tryz.func10, Tryz.ntmps10
  go_wp2_with fail
  generalize ((w.alloc (.cells #[.string key, .slice ao LP.length cap] 24)).alloc (.cells #[.string ⟨#[]⟩, .slice none 0 0] 27)) = W0 at *
  obtain ⟨g, hg⟩ : ∃ z, w.heap.size = z := ⟨_, rfl⟩
  have HG : Hid (w.heap.size = g) := hg
  rw [hg] at qO q2 z1 ⊢
  refine yc.mono ?_
  rintro e w1 ⟨rfl, k1⟩
  have HK1 : Hid (Keep0 w w1) := kA.trans k1
  have HO1 : Hid (DAt w1 g (.string key) (.slice ao LP.length cap)) := qO.keep0 k1
  have HQ1 : Hid (DAt w1 (g + 1) (.string ⟨#[]⟩) (.slice none 0 0)) := q2.keep0 k1
  have HZ1 : Hid (g + 2 ≤ w1.heap.size) := by show _ ≤ _; have := k1.size; omega
  clear yc kA k1 qO q2 x0 x1 xf0 xf1 z1 hg
  go_wp2_with fail
  go_loopw [5, 6] (fun vv i wr => ∃ (k : Nat) (O : List Pl) (v : Value), v = vv ∧ i = .int .i64 (k : Int) ∧ k ≤ LP.length ∧ Hid (O = (LP.take k).map upP) ∧ Hid (wr.ownsRow (g + 2) 61 7 v O.length (rowOf Pl.cells O)) ∧ Hid (DAt wr g (.string key) (.slice ao LP.length cap)) ∧ Hid (DAt wr (g + 1) (.string ⟨#[]⟩) (.slice none 0 0)) ∧ Hid (Keep0 w wr) ∧ Hid (g + 2 ≤ wr.heap.size)) (fun _ i _ => LP.length - (intOf i).toNat)
  case atStart => exact ⟨0, [], _, rfl, rfl, Nat.zero_le _, rfl, World.ownsRow_nil _ _ _ _, HO1, HQ1, HK1, HZ1⟩
  case round =>
    obtain ⟨k, O, v, rfl, rfl, hk2, HOe, HR, HO, HQ, HKw, HZ⟩ := hrel
    clear HO1 HQ1 HK1 HZ1
    obtain ⟨x0, x1, xf0, xf1⟩ := HO.out.cells
    have hOl : O.length = k := by rw [HOe.out, List.length_map, List.length_take]; omega
    have HOl : Hid (O.length = k) := hOl
    clear hOl
    by_cases hlt : k < LP.length
    · have i1 : (k : Int) < LP.length := by omega
      obtain ⟨bb, off, eao, s1, s2⟩ := (HC.out.keep0 HKw.out).at_ k hlt
      subst eao
      have HN : Hid ((LP.take (k + 1)).map upP = O ++ [upP LP[k]]) := by show _ = _; rw [map_take hlt, HOe.out]
      obtain ⟨b0, b1, b2⟩ := s1
      clear s2
      generalize LP[k] = p at *
      have kX : Keep0 wr (wr.alloc (.cells #[.slice p.vo p.x.c.length p.vc, .bool p.x.d, .string p.x.v] 56)) := (Keep.refl _ wr).alloc _
      obtain ⟨c0, c1, c2, cf0, cf1, cf2⟩ := (TAt.new wr 56 (.slice p.vo p.x.c.length p.vc) (.bool p.x.d) (.string p.x.v)).cells
      have kS : Keep0 wr ((wr.alloc (.cells #[.slice p.vo p.x.c.length p.vc, .bool p.x.d, .string p.x.v] 56)).alloc (.cells #[.slice p.vo p.x.c.length p.vc, .bool false, .string ⟨#[]⟩, .int .u64 0, .slice none 0 0, .bool p.x.d, .string p.x.v] 61)) := kX.alloc _
      have hsrc : RowAt Pl.cells 7 ((wr.alloc (.cells #[.slice p.vo p.x.c.length p.vc, .bool p.x.d, .string p.x.v] 56)).alloc (.cells #[.slice p.vo p.x.c.length p.vc, .bool false, .string ⟨#[]⟩, .int .u64 0, .slice none 0 0, .bool p.x.d, .string p.x.v] 61)) (some ⟨wr.heap.size + 1, 0, none⟩) [upP p] := by
        have := pl_new (wr.alloc (.cells #[.slice p.vo p.x.c.length p.vc, .bool p.x.d, .string p.x.v] 56)) 61 (upP p)
        rw [World.size_alloc] at this
        exact this
      have hrow : ((wr.alloc (.cells #[.slice p.vo p.x.c.length p.vc, .bool p.x.d, .string p.x.v] 56)).alloc (.cells #[.slice p.vo p.x.c.length p.vc, .bool false, .string ⟨#[]⟩, .int .u64 0, .slice none 0 0, .bool p.x.d, .string p.x.v] 61)).ownsRow (g + 2) 61 7 v O.length (rowOf Pl.cells O) := rowE_keep HR.out kS (fun _ _ f => f)
      have hB : g + 2 ≤ ((wr.alloc (.cells #[.slice p.vo p.x.c.length p.vc, .bool p.x.d, .string p.x.v] 56)).alloc (.cells #[.slice p.vo p.x.c.length p.vc, .bool false, .string ⟨#[]⟩, .int .u64 0, .slice none 0 0, .bool p.x.d, .string p.x.v] 61)).heap.size := by have := kS.size; have := HZ.out; omega
      have hlen : O.length + [upP p].length ≤ 1000000 := by show _ + 1 ≤ _; have := HOl.out; omega
      have HkS : Hid (Keep0 wr ((wr.alloc (.cells #[.slice p.vo p.x.c.length p.vc, .bool p.x.d, .string p.x.v] 56)).alloc (.cells #[.slice p.vo p.x.c.length p.vc, .bool false, .string ⟨#[]⟩, .int .u64 0, .slice none 0 0, .bool p.x.d, .string p.x.v] 61))) := kS
      clear kX kS
      go_wp2_with (at_builtin; refine wpList_append_row_at plT rfl _ _ rfl rfl rfl hrow hsrc hB hlen ?_)
      intro v' w4 g1 g2 g3
      obtain ⟨ON, hON⟩ : ∃ z, O ++ [upP p] = z := ⟨_, rfl⟩
      have g1 : w4.ownsRow (g + 2) 61 7 v' (O ++ [upP p]).length (rowOf Pl.cells (O ++ [upP p])) := by first | exact g1 | (rw [List.length_append]; exact g1)
      rw [hON] at g1 HN
      have hn4 : ∀ q, Value.ownBlock v = some q → g + 2 ≤ q := fun q e => (HR.out.lt q e).1
      have K4 : Keep (fun q => Value.ownBlock v = some q) wr w4 := (HkS.out.any).trans (keep_grown g2)
      have HR4 : Hid (w4.ownsRow (g + 2) 61 7 v' ON.length (rowOf Pl.cells ON)) := g1
      have HO4 : Hid (DAt w4 g (.string key) (.slice (some ⟨bb, off, none⟩) LP.length cap)) := HO.out.keep K4 (fun e => by have := hn4 _ e; omega)
      have HQ4 : Hid (DAt w4 (g + 1) (.string ⟨#[]⟩) (.slice none 0 0)) := HQ.out.keep K4 (fun e => by have := hn4 _ e; omega)
      have HK4 : Hid (Keep0 w w4) := HKw.out.step K4 (fun i hi e => by have := hn4 _ e; have := HG.out; omega)
      have HZ4 : Hid (g + 2 ≤ w4.heap.size) := by show _ ≤ _; have := K4.size; have := HZ.out; omega
      have HNe : Hid (ON = (LP.take (k + 1)).map upP) := HN.out.symm
      clear g1 g2 g3 hn4 K4 hsrc hrow hB hlen HkS HR HO HQ HKw HZ x0 x1 xf0 xf1 b0 b1 b2 c0 c1 c2 cf0 cf1 cf2 hON HN
      go_wp2
      go_roundw
      case rel => exact ⟨k + 1, ON, v', rfl, by go_num, by omega, HNe, HR4, HO4, HQ4, HK4, HZ4⟩
      case measure => simp [intOf]; omega
    have i1 : ¬ (k : Int) < LP.length := by omega
    have hOe : O = LP.map upP := by rw [HOe.out, List.take_of_length_le (by omega)]
    obtain ⟨vo, vc, rfl, r1, r2, r3, r4⟩ := row_of_own plT.len plT.pos HR.out
    have hmem : ∀ q ∈ O, ∃ p ∈ LP, upP p = q := fun q hq => by rw [hOe] at hq; exact List.mem_map.1 hq
    have hP : PlsAt wr vo O := ⟨r1, fun q hq => by
      obtain ⟨p, hp, rfl⟩ := hmem q hq
      exact ⟨(HC.out.ins p hp).keep0 HKw.out, prs_nil _ _, Nat.le_refl _, Nat.zero_le _⟩⟩
    have ys := rsort16_pl wr key HKs.out vo vc O (by have := HOl.out; unfold maxLen; omega) (fun q hq => by
      obtain ⟨p, hp, rfl⟩ := hmem q hq
      exact upS_fit (HF.out p hp)) hP
    rw [hOe, ← HV.out, ← hOe] at ys
    clear r1 r2 r3 r4 hmem hP hOe HV
    generalize oUp ⟨key, LP.map Po.x⟩ = U at *
    go_wp2_with fail
    refine ys.mono ?_
    rintro e w5 ⟨bo, cb, L, rfl, h1, h2, h3, hcp, k5⟩
    have HCP : Hid (L.length ≤ cb ∧ cb ≤ maxLen) := hcp
    clear hcp
    have q5 := HQ.out.keep0 k5
    have K5 := HKw.out.trans k5
    obtain ⟨u0, u1, f0, f1⟩ := q5.cells
    clear ys k5 x0 x1 xf0 xf1
    go_wp2
    refine bodyPost_ret (retOb2 rfl _ _ _ rfl (q5.put (.string U.1.key) (.slice bo U.1.l.length cb))) rfl ?_
    exact ⟨bo, cb, L, rfl, h1, pls_beside q5 (put2_keep _ _ _ _) h2, HCP.out, K5.step (put2_keep _ _ _ _) (fun i hi hh => by have := HG.out; omega)⟩
set_option maxRecDepth 100000 in
set_option maxHeartbeats 8000000 in
theorem rplain18 (w : World) (ao : Option Addr) (cap : Nat) (o : Ob) (f : FitsO o) (hc : SibsAt w ao o.l) :
    Calls Tryz.prog 16 #[.agg #[.string o.key, .slice ao o.l.length cap]] w fun e w' => e = .returned (.bool (oPlain o)) ∧ Keep0 w w' := by
  have i0 : (o.l.length : Int) ≤ 9223372036854775807 := by have := f.len; unfold maxLen at this; omega
  have HC : Hid (SibsAt w ao o.l) := hc
  have HFl : Hid (∀ x ∈ o.l, x.m.length ≤ maxLen) := fun x hx => (f.sib x hx).prs.1
  have kA : Keep0 w (w.alloc (.cells #[.string o.key, .slice ao o.l.length cap] 27)) := (Keep.refl _ w).alloc _
  have qO : DAt (w.alloc (.cells #[.string o.key, .slice ao o.l.length cap] 27)) w.heap.size (.string o.key) (.slice ao o.l.length cap) := DAt.new w 27 (.string o.key) (.slice ao o.l.length cap)
  have yc := rcheck16 (w.alloc (.cells #[.string o.key, .slice ao o.l.length cap] 27)) ao cap o f (hc.keep0 kA)
  obtain ⟨x0, x1, xf0, xf1⟩ := qO.cells
  clear hc f
  by_cases h0 : oCheck o = 0
  case neg =>
    have hr : oPlain o = false := by unfold oPlain; rw [decide_eq_false h0, Bool.false_and]
    rw [hr]
    have e0 : (oCheck o != 0) = true := by simpa using h0
    clear h0 hr
    generalize oCheck o = C at *
    go_enter Tryz.func16, Tryz.ntmps16
    go_wp2_with fail
    generalize (w.alloc (.cells #[.string o.key, .slice ao o.l.length cap] 27)) = W0 at *
    generalize w.heap.size = g at *
    refine yc.mono ?_
    rintro e w1 ⟨rfl, k1⟩
    have K1 := kA.trans k1
    clear yc kA k1 qO x0 x1 xf0 xf1
    go_wp2
    go_ret
    exact ⟨rfl, K1⟩
  obtain ⟨r, hr⟩ : ∃ r, oPlain o = r := ⟨_, rfl⟩
  rw [hr]
  have HR0 : Hid ((o.l.drop 0).all plS = r) := by
    show _ = _
    rw [List.drop_zero, ← hr]
    unfold oPlain
    rw [decide_eq_true h0, Bool.true_and]
  rw [h0] at yc
  clear h0 hr
  go_enter Tryz.func16, Tryz.ntmps16
  go_wp2_with fail
  generalize (w.alloc (.cells #[.string o.key, .slice ao o.l.length cap] 27)) = W0 at *
  generalize w.heap.size = g at *
  refine yc.mono ?_
  rintro e w1 ⟨rfl, k1⟩
  have HK1 : Hid (Keep0 w w1) := kA.trans k1
  have HO1 : Hid (DAt w1 g (.string o.key) (.slice ao o.l.length cap)) := qO.keep0 k1
  clear yc kA k1 qO x0 x1 xf0 xf1
  go_wp2_with fail
  go_loopw [3] (fun i wr => ∃ (k : Nat), i = .int .i64 (k : Int) ∧ k ≤ o.l.length ∧ Hid ((o.l.drop k).all plS = r) ∧ Hid (DAt wr g (.string o.key) (.slice ao o.l.length cap)) ∧ Hid (Keep0 w wr)) (fun i _ => o.l.length - (intOf i).toNat)
  case atStart => exact ⟨0, rfl, Nat.zero_le _, HR0, HO1, HK1⟩
  case round =>
    obtain ⟨k, rfl, hk2, HRk, HO, HKw⟩ := hrel
    clear HO1 HK1 HR0
    obtain ⟨x0, x1, xf0, xf1⟩ := HO.out.cells
    by_cases hlt : k < o.l.length
    · have i1 : (k : Int) < o.l.length := by omega
      obtain ⟨bb, off, vo, vc, po, pc, eao, s1, s2⟩ := (HC.out.keep0 HKw.out) k hlt
      subst eao
      have hd := HRk.out
      rw [List.drop_eq_getElem_cons hlt, List.all_cons] at hd
      have hml := HFl.out _ (List.getElem_mem hlt)
      obtain ⟨b0, b1, b2, b3, b4, b5, b6⟩ := s1
      clear s2
      generalize o.l[k] = x at *
      have j0 : (x.m.length : Int) ≤ 9223372036854775807 := by unfold maxLen at hml; omega
      clear hml
      cases hp : plS x with
      | true =>
        rw [hp, Bool.true_and] at hd
        have HRn : Hid ((o.l.drop (k + 1)).all plS = r) := hd
        have hp1 : x.k.d = false ∧ ¬ 0 < x.m.length := by
          unfold plS at hp
          rw [Bool.not_eq_true'] at hp
          rw [Bool.or_eq_false_iff] at hp
          exact ⟨hp.1, of_decide_eq_false hp.2⟩
        obtain ⟨p1, p2⟩ := hp1
        have p3 : x.m.length = 0 := by omega
        rw [p1] at b1
        rw [p3] at b4
        clear hd hp p2 HRk
        go_wp2
        go_roundw
        case rel => exact ⟨k + 1, by go_num, by omega, HRn, HO, HKw⟩
        case measure => simp [intOf]; omega
      | false =>
        rw [hp, Bool.false_and] at hd
        have HRn : Hid (false = r) := hd
        cases hdd : x.k.d with
        | true =>
          rw [hdd] at b1
          clear hd hp HRk hdd
          go_wp2
          go_ret
          exact ⟨by rw [← HRn.out]; rfl, HKw.out⟩
        | false =>
          have hp1 : 0 < x.m.length := by
            unfold plS at hp
            rw [hdd] at hp
            simpa using hp
          rw [hdd] at b1
          have p3 : (0 : Int) < x.m.length := by omega
          clear hd hp HRk hdd
          go_wp2
          go_ret
          exact ⟨by rw [← HRn.out]; rfl, HKw.out⟩
    have i1 : ¬ (k : Int) < o.l.length := by omega
    have hd := HRk.out
    rw [List.drop_eq_nil_of_le (by omega)] at hd
    have HRn : Hid (true = r) := hd
    clear hd HRk
    go_wp2
    go_ret
    exact ⟨by rw [← HRn.out]; rfl, HKw.out⟩
set_option maxRecDepth 100000 in
set_option maxHeartbeats 8000000 in
theorem rdown18_pl (w : World) (key : ByteArray) (hk : key.size ≤ maxLen) (ao : Option Addr) (cap : Nat) (LP : List Pl) (hl : LP.length ≤ maxLen) (hf : ∀ p ∈ LP, FitsS p.x) (hc : PlsAt w ao LP) :
    Calls Tryz.prog 12 #[.agg #[.string key, .slice ao LP.length cap]] w (ROlE (oDown ⟨key, LP.map Pl.x⟩) w) := by
  have i0 : (LP.length : Int) ≤ 9223372036854775807 := by unfold maxLen at hl; omega
  have HE : Hid (∀ (W : World) (e : Ending) (E : Int), oDown ⟨key, LP.map Pl.x⟩ = (zOl, E) → e = .returned (.tuple #[.agg #[.string ⟨#[]⟩, .slice none 0 0], .int .i64 E]) → Keep0 w W → ROlE (oDown ⟨key, LP.map Pl.x⟩) w e W) := fun _ _ _ h1 h2 h3 => ROlE.bare h1 h2 h3
  have HM : Hid (∀ (W : World) (e : Ending) (K : ByteArray) (L : List Po) (ao : Option Addr) (cap : Nat), oDown ⟨key, LP.map Pl.x⟩ = (⟨K, L.map Po.x⟩, 0) → e = .returned (.tuple #[.agg #[.string K, .slice ao L.length cap], .int .i64 0]) → L.length ≤ cap → cap ≤ maxLen → PosAt W ao L → Keep0 w W → ROlE (oDown ⟨key, LP.map Pl.x⟩) w e W) := fun _ _ _ _ _ _ h1 h2 h3 h4 h5 h6 => ROlE.mk h1 h2 h3 h4 h5 h6
  have HC : Hid (PlsAt w ao LP) := hc
  have elm : (LP.map Pl.x).length = LP.length := List.length_map ..
  have kA : Keep0 w ((w.alloc (.cells #[.string key, .slice ao LP.length cap] 27)).alloc (.cells #[.string ⟨#[]⟩, .slice none 0 0] 24)) := ((Keep.refl _ w).alloc _).alloc _
  have qO : DAt ((w.alloc (.cells #[.string key, .slice ao LP.length cap] 27)).alloc (.cells #[.string ⟨#[]⟩, .slice none 0 0] 24)) w.heap.size (.string key) (.slice ao LP.length cap) := (DAt.new w 27 (.string key) (.slice ao LP.length cap)).keep0 ((Keep.refl _ _).alloc _)
  have q2 : DAt ((w.alloc (.cells #[.string key, .slice ao LP.length cap] 27)).alloc (.cells #[.string ⟨#[]⟩, .slice none 0 0] 24)) (w.heap.size + 1) (.string ⟨#[]⟩) (.slice none 0 0) := by
    have := DAt.new (w.alloc (.cells #[.string key, .slice ao LP.length cap] 27)) 24 (.string ⟨#[]⟩) (.slice none 0 0)
    rw [World.size_alloc] at this
    exact this
  have z1 : ((w.alloc (.cells #[.string key, .slice ao LP.length cap] 27)).alloc (.cells #[.string ⟨#[]⟩, .slice none 0 0] 24)).heap.size = w.heap.size + 2 := by rw [World.size_alloc, World.size_alloc]
  have yc := rplain18 ((w.alloc (.cells #[.string key, .slice ao LP.length cap] 27)).alloc (.cells #[.string ⟨#[]⟩, .slice none 0 0] 24)) ao cap ⟨key, LP.map Pl.x⟩ ⟨hk, by show (LP.map Pl.x).length ≤ maxLen; rw [elm]; exact hl, fun x hx => by
    obtain ⟨p, hp, rfl⟩ := List.mem_map.1 hx
    exact hf p hp⟩ (hc.keep0 kA).sibs
  have yc : Calls Tryz.prog 16 #[.agg #[.string key, .slice ao (LP.map Pl.x).length cap]] ((w.alloc (.cells #[.string key, .slice ao LP.length cap] 27)).alloc (.cells #[.string ⟨#[]⟩, .slice none 0 0] 24)) fun e w' => e = .returned (.bool (oPlain ⟨key, LP.map Pl.x⟩)) ∧ Keep0 ((w.alloc (.cells #[.string key, .slice ao LP.length cap] 27)).alloc (.cells #[.string ⟨#[]⟩, .slice none 0 0] 24)) w' := yc
  rw [elm] at yc
  obtain ⟨x0, x1, xf0, xf1⟩ := qO.cells
  clear hc hf hk elm
  cases h0 : oPlain ⟨key, LP.map Pl.x⟩ with
  | false =>
    have HV : Hid (oDown ⟨key, LP.map Pl.x⟩ = (zOl, 1)) := by
      show _ = _
      unfold oDown
      rw [h0]
      rfl
    rw [h0] at yc
    clear h0 HM
    go_enter Tryz.func12, Tryz.ntmps12
    go_wp2_with fail
    generalize ((w.alloc (.cells #[.string key, .slice ao LP.length cap] 27)).alloc (.cells #[.string ⟨#[]⟩, .slice none 0 0] 24)) = W0 at *
    obtain ⟨g, hg⟩ : ∃ z, w.heap.size = z := ⟨_, rfl⟩
    have HG : Hid (w.heap.size = g) := hg
    rw [hg] at qO q2 z1 ⊢
    refine yc.mono ?_
    rintro e w1 ⟨rfl, k1⟩
    have K1 := kA.trans k1
    have q2a := q2.keep0 k1
    obtain ⟨u0, u1, f0, f1⟩ := q2a.cells
    clear yc kA k1 qO q2 x0 x1 xf0 xf1 z1 hg
    go_wp2
    refine bodyPost_ret (retOl2 rfl _ _ _ rfl (q2a.put (.string ⟨#[]⟩) (.slice none 0 0))) rfl ?_
    exact HE.out _ _ _ HV.out rfl (K1.step (put2_keep _ _ _ _) (fun i hi hh => by have := HG.out; omega))
  | true =>
  have HV : Hid (oDown ⟨key, LP.map Pl.x⟩ = (⟨key, (LP.map dnP).map Po.x⟩, 0)) := by
    show _ = _
    unfold oDown
    rw [h0, if_pos rfl, dnP_map]
  have hn : LP.length ≤ 16 := by
    unfold oPlain at h0
    rw [Bool.and_eq_true] at h0
    have h := (outS_zero.1 (oCheck_zero.1 (of_decide_eq_true h0.1)).1).2.2.2
    have h : (LP.map Pl.x).length ≤ 16 := h
    rwa [List.length_map] at h
  rw [h0] at yc
  clear h0 HE
  go_enter Tryz.func12, Tryz.ntmps12
  go_wp2_with fail
  generalize ((w.alloc (.cells #[.string key, .slice ao LP.length cap] 27)).alloc (.cells #[.string ⟨#[]⟩, .slice none 0 0] 24)) = W0 at *
  obtain ⟨g, hg⟩ : ∃ z, w.heap.size = z := ⟨_, rfl⟩
  have HG : Hid (w.heap.size = g) := hg
  rw [hg] at qO q2 z1 ⊢
  refine yc.mono ?_
  rintro e w1 ⟨rfl, k1⟩
  have K1 := kA.trans k1
  have qO1 := qO.keep0 k1
  have k2 : Keep0 w1 (w1.alloc (.cells #[.string key, .slice none 0 0] 24)) := (Keep.refl _ _).alloc _
  have q4 := DAt.new w1 24 (.string key) (.slice none 0 0)
  have hz : g + 2 ≤ w1.heap.size := by have := k1.size; omega
  have HK1 : Hid (Keep0 w (w1.alloc (.cells #[.string key, .slice none 0 0] 24))) := K1.trans k2
  have HO1 : Hid (DAt (w1.alloc (.cells #[.string key, .slice none 0 0] 24)) g (.string key) (.slice ao LP.length cap)) := qO1.keep0 k2
  have HQ1 : Hid (DAt (w1.alloc (.cells #[.string key, .slice none 0 0] 24)) (g + 1) (.string ⟨#[]⟩) (.slice none 0 0)) := (q2.keep0 k1).keep0 k2
  have HZ1 : Hid (w1.heap.size + 1 ≤ (w1.alloc (.cells #[.string key, .slice none 0 0] 24)).heap.size) := by show _ ≤ _; rw [World.size_alloc]; omega
  obtain ⟨x0, x1, xf0, xf1⟩ := qO1.cells
  clear yc kA k1 qO q2 z1 hg K1 qO1 k2
  go_wp2_with fail
  generalize (w1.alloc (.cells #[.string key, .slice none 0 0] 24)) = W1 at *
  obtain ⟨g4, hg4⟩ : ∃ z, w1.heap.size = z := ⟨_, rfl⟩
  rw [hg4] at q4 HZ1 hz ⊢
  have HQ4a : Hid (DAt W1 g4 (.string key) (.slice none 0 0)) := q4
  have HG4 : Hid (g + 2 ≤ g4) := hz
  clear q4 hz hg4 x0 x1 xf0 xf1
  go_loopw [5] (fun i wr => ∃ (k : Nat) (O : List Po) (v : Value), i = .int .i64 (k : Int) ∧ k ≤ LP.length ∧ Hid (O = (LP.take k).map dnP) ∧ Hid (wr.ownsRow (g4 + 1) 56 3 v O.length (rowOf Po.cells O)) ∧ Hid (DAt wr g (.string key) (.slice ao LP.length cap)) ∧ Hid (DAt wr (g + 1) (.string ⟨#[]⟩) (.slice none 0 0)) ∧ Hid (DAt wr g4 (.string key) v) ∧ Hid (Keep0 w wr) ∧ Hid (g4 + 1 ≤ wr.heap.size)) (fun i _ => LP.length - (intOf i).toNat)
  case atStart => exact ⟨0, [], _, rfl, Nat.zero_le _, rfl, World.ownsRow_nil _ _ _ _, HO1, HQ1, HQ4a, HK1, HZ1⟩
  case round =>
    obtain ⟨k, O, v, rfl, hk2, HOe, HR, HO, HQ, HQ4, HKw, HZ⟩ := hrel
    clear HO1 HQ1 HK1 HZ1 HQ4a
    obtain ⟨x0, x1, xf0, xf1⟩ := HO.out.cells
    obtain ⟨y0, y1, yf0, yf1⟩ := HQ4.out.cells
    have hOl : O.length = k := by rw [HOe.out, List.length_map, List.length_take]; omega
    have HOl : Hid (O.length = k) := hOl
    clear hOl
    by_cases hlt : k < LP.length
    · have i1 : (k : Int) < LP.length := by omega
      obtain ⟨bb, off, eao, s1, s2⟩ := (HC.out.keep0 HKw.out).at_ k hlt
      subst eao
      have HN : Hid ((LP.take (k + 1)).map dnP = O ++ [dnP LP[k]]) := by show _ = _; rw [map_take hlt, HOe.out]
      obtain ⟨b0, b1, b2, b3, b4, b5, b6⟩ := s1
      clear s2
      generalize LP[k] = p at *
      have kX : Keep0 wr (wr.alloc (.cells #[.slice p.vo p.x.k.c.length p.vc, .bool p.x.k.d, .string p.x.k.x.a, .int .u64 (p.x.k.x.n : Int), .slice p.po p.x.m.length p.pc, .bool p.x.d, .string p.x.v] 61)) := (Keep.refl _ wr).alloc _
      obtain ⟨c0, c1, c2, c3, c4, c5, c6⟩ := sib_new wr 61 p.x p.vo p.vc p.po p.pc
      have y1x := kX.cell y1 (fun f => f)
      have kS : Keep0 wr ((wr.alloc (.cells #[.slice p.vo p.x.k.c.length p.vc, .bool p.x.k.d, .string p.x.k.x.a, .int .u64 (p.x.k.x.n : Int), .slice p.po p.x.m.length p.pc, .bool p.x.d, .string p.x.v] 61)).alloc (.cells #[.slice p.vo p.x.k.c.length p.vc, .bool p.x.d, .string p.x.v] 56)) := kX.alloc _
      have hsrc : RowAt Po.cells 3 ((wr.alloc (.cells #[.slice p.vo p.x.k.c.length p.vc, .bool p.x.k.d, .string p.x.k.x.a, .int .u64 (p.x.k.x.n : Int), .slice p.po p.x.m.length p.pc, .bool p.x.d, .string p.x.v] 61)).alloc (.cells #[.slice p.vo p.x.k.c.length p.vc, .bool p.x.d, .string p.x.v] 56)) (some ⟨wr.heap.size + 1, 0, none⟩) [dnP p] := by
        have := po_new (wr.alloc (.cells #[.slice p.vo p.x.k.c.length p.vc, .bool p.x.k.d, .string p.x.k.x.a, .int .u64 (p.x.k.x.n : Int), .slice p.po p.x.m.length p.pc, .bool p.x.d, .string p.x.v] 61)) 56 (dnP p)
        rw [World.size_alloc] at this
        exact this
      have hrow : ((wr.alloc (.cells #[.slice p.vo p.x.k.c.length p.vc, .bool p.x.k.d, .string p.x.k.x.a, .int .u64 (p.x.k.x.n : Int), .slice p.po p.x.m.length p.pc, .bool p.x.d, .string p.x.v] 61)).alloc (.cells #[.slice p.vo p.x.k.c.length p.vc, .bool p.x.d, .string p.x.v] 56)).ownsRow (g4 + 1) 56 3 v O.length (rowOf Po.cells O) := rowE_keep HR.out kS (fun _ _ f => f)
      have hB : g4 + 1 ≤ ((wr.alloc (.cells #[.slice p.vo p.x.k.c.length p.vc, .bool p.x.k.d, .string p.x.k.x.a, .int .u64 (p.x.k.x.n : Int), .slice p.po p.x.m.length p.pc, .bool p.x.d, .string p.x.v] 61)).alloc (.cells #[.slice p.vo p.x.k.c.length p.vc, .bool p.x.d, .string p.x.v] 56)).heap.size := by have := kS.size; have := HZ.out; omega
      have hlen : O.length + [dnP p].length ≤ 1000000 := by show _ + 1 ≤ _; have := HOl.out; omega
      have HkS : Hid (Keep0 wr ((wr.alloc (.cells #[.slice p.vo p.x.k.c.length p.vc, .bool p.x.k.d, .string p.x.k.x.a, .int .u64 (p.x.k.x.n : Int), .slice p.po p.x.m.length p.pc, .bool p.x.d, .string p.x.v] 61)).alloc (.cells #[.slice p.vo p.x.k.c.length p.vc, .bool p.x.d, .string p.x.v] 56))) := kS
      clear kX kS
      go_wp2_with (at_builtin; refine wpList_append_row_at poT rfl _ _ rfl rfl rfl hrow hsrc hB hlen ?_)
      intro v' w4 g1 g2 g3
      obtain ⟨ON, hON⟩ : ∃ z, O ++ [dnP p] = z := ⟨_, rfl⟩
      have g1 : w4.ownsRow (g4 + 1) 56 3 v' (O ++ [dnP p]).length (rowOf Po.cells (O ++ [dnP p])) := by first | exact g1 | (rw [List.length_append]; exact g1)
      rw [hON] at g1 HN
      obtain ⟨ao5, an5, ac5, rfl⟩ := sliceE_of_own g1
      have hn4 : ∀ q, Value.ownBlock v = some q → g4 + 1 ≤ q := fun q e => (HR.out.lt q e).1
      have K4 : Keep (fun q => Value.ownBlock v = some q) wr w4 := (HkS.out.any).trans (keep_grown g2)
      have r4 : DAt w4 g4 (.string key) v := HQ4.out.keep K4 (fun e => by have := hn4 _ e; omega)
      have k5 : Keep1 g4 w4 (w4.setCell ⟨g4, 1, none⟩ (.slice ao5 an5 ac5)) := set_keep1 _ _ _ _
      have HR5 : Hid ((w4.setCell ⟨g4, 1, none⟩ (.slice ao5 an5 ac5)).ownsRow (g4 + 1) 56 3 (.slice ao5 an5 ac5) ON.length (rowOf Po.cells ON)) := rowE_keep g1 k5 (fun q hq e => by omega)
      have HO5 : Hid (DAt (w4.setCell ⟨g4, 1, none⟩ (.slice ao5 an5 ac5)) g (.string key) (.slice (some ⟨bb, off, none⟩) LP.length cap)) := (HO.out.keep K4 (fun e => by have := hn4 _ e; have := HG4.out; omega)).keep k5 (by have := HG4.out; omega)
      have HQ5 : Hid (DAt (w4.setCell ⟨g4, 1, none⟩ (.slice ao5 an5 ac5)) (g + 1) (.string ⟨#[]⟩) (.slice none 0 0)) := (HQ.out.keep K4 (fun e => by have := hn4 _ e; have := HG4.out; omega)).keep k5 (by have := HG4.out; omega)
      have HR6 : Hid (DAt (w4.setCell ⟨g4, 1, none⟩ (.slice ao5 an5 ac5)) g4 (.string key) (.slice ao5 an5 ac5)) := r4.set1 _
      have HK5 : Hid (Keep0 w (w4.setCell ⟨g4, 1, none⟩ (.slice ao5 an5 ac5))) := (HKw.out.step K4 (fun i hi e => by have := hn4 _ e; have := HG.out; have := HG4.out; omega)).step1 k5 (by have := HG.out; have := HG4.out; omega)
      have HZ5 : Hid (g4 + 1 ≤ (w4.setCell ⟨g4, 1, none⟩ (.slice ao5 an5 ac5)).heap.size) := by show _ ≤ _; have := K4.size; have := k5.size; have := HZ.out; omega
      have HNe : Hid (ON = (LP.take (k + 1)).map dnP) := HN.out.symm
      obtain ⟨t0, t1, tf0, tf1⟩ := r4.cells
      clear g1 g2 g3 hn4 K4 hsrc hrow hB hlen HkS HR HO HQ HKw HZ HQ4 x0 x1 xf0 xf1 y0 y1 yf0 yf1 y1x b0 b1 b2 b3 b4 b5 b6 c0 c1 c2 c3 c4 c5 c6 hON HN r4 k5
      go_wp2
      go_roundw
      case rel => exact ⟨k + 1, ON, _, by go_num, by omega, HNe, HR5, HO5, HQ5, HR6, HK5, HZ5⟩
      case measure => simp [intOf]; omega
    have i1 : ¬ (k : Int) < LP.length := by omega
    have hOe : O = LP.map dnP := by rw [HOe.out, List.take_of_length_le (by omega)]
    obtain ⟨vo, vc, rfl, r1, r2, r3, r4⟩ := row_of_own poT.len poT.pos HR.out
    have hP : PosAt wr vo O := ⟨r1, fun q hq => by
      rw [hOe] at hq
      obtain ⟨p, hp, rfl⟩ := List.mem_map.1 hq
      exact (HC.out.ins p hp).ens.keep0 HKw.out⟩
    have HV2 : Hid (oDown ⟨key, LP.map Pl.x⟩ = (⟨key, O.map Po.x⟩, 0)) := by show _ = _; rw [HV.out, hOe]
    have q2 := HQ.out
    obtain ⟨u0, u1, f0, f1⟩ := q2.cells
    clear r1 r2 hOe HV
    go_wp2
    refine bodyPost_ret (retOl2 rfl _ _ _ rfl (q2.put (.string key) (.slice vo O.length vc))) rfl ?_
    exact HM.out _ _ key O vo vc HV2.out rfl r3 r4 (pos_beside q2 (put2_keep _ _ _ _) hP) (HKw.out.step (put2_keep _ _ _ _) (fun i hi hh => by have := HG.out; omega))
theorem rdown18 (w : World) (ao : Option Addr) (cap : Nat) (o : Ob) (f : FitsO o) (hc : SibsAt w ao o.l) :
    Calls Tryz.prog 12 #[.agg #[.string o.key, .slice ao o.l.length cap]] w (ROlE (oDown o) w) := by
  obtain ⟨LP, hLP, hPA⟩ := sibs_pls hc
  have h := rdown18_pl w o.key f.key ao cap LP (by rw [← List.length_map (f := Pl.x), hLP]; exact f.len) (fun p hp => f.sib _ (by rw [← hLP]; exact List.mem_map.2 ⟨p, hp, rfl⟩)) hPA
  have e : LP.length = o.l.length := by rw [← hLP, List.length_map]
  rw [hLP, e] at h
  exact h
end Go.Proofs.YtoefibkhlhmlfaaGreat
