/-
  What this seat's claims lean on of the texts UpC, ObC.
  Conditions: as each theorem states.
-/
import Derived.WalkKit
import Derived.ProofKit
import Derived.Below
import Derived.Deep.Draws
import Derived.Deep.RegionHeld
import Derived.Test.YtoefibkhlhmlfaaGreatChecked
import Derived.OpenShut
import Derived.ShutString
import Derived.WalkSpells
import Derived.WalkLawsBesides
import Derived.Deep.QuietTactic
import Derived.BigQuiet
import Derived.Laws.Bits64b
import Derived.PlainAid
import Derived.Lib.AppendStr
import Derived.Deep.AppendLies
import Derived.Laws.IdiomStrings
import Derived.Laws.BytesArg
import Derived.Deep.RegionWith
import Derived.Laws.AppendOwn
import Derived.Deep.DeepAppendWide
import Derived.Deep.Upon
import Derived.Maps.AppendAt
import Derived.Deep.Slices
import Derived.Laws.Rows
import Derived.Deep.CutRange
import Derived.Deep.RegionLaw
import Derived.Test.YtoefibkhlhmlfaaGreatZ40
import Derived.Test.YtoefibkhlhmlfaaGreatZ28
import Derived.Test.YtoefibkhlhmlfaaGreatZ41
import Derived.Test.YtoefibkhlhmlfaaGreatZ37
import Derived.Test.YtoefibkhlhmlfaaGreatZ33
namespace Go.Proofs.YtoefibkhlhmlfaaGreat
open Go.RowKit
theorem step_append_ens18 {w : World} {ops : Array Oper} {o : Oper} {a : Act} {K : Act → World → Prop} {Q : Exit → Act → World → Prop} {X : Prop} (hgd : o.guard = none) (s x : Operand)
    (ho : o.op = .call { callee := .builtin .append, args := #[s, x], argTypes := #[54, 54] }) {B : Nat} {v : Value} {l m : List En} {ao : Option Addr} {c n : Nat}
    (hs : a.eval s = v) (hx : a.eval x = .slice ao n c) (hn : n = m.length) (hown : w.ownsRow B 53 2 v l.length (enCells l)) (hsrc : EnsAt w ao m) (hB : B ≤ w.heap.size) (hlen : l.length + m.length ≤ 1000000)
    (h : ∀ v' w', w'.ownsRow B 53 2 v' (l ++ m).length (enCells (l ++ m)) → w.grownBy w' v.ownBlock → K (a.put o.dst v') w') :
    if Region.wanted o (yielded ops a.tmps) = true then Oper.wp Tryz.prog o a w K Q else X := by
  have hw : Region.wanted o (yielded ops a.tmps) = true := by simp [Region.wanted, hgd]
  rw [if_pos hw]
  subst hn
  obtain ⟨v', w', hr, h2, h3⟩ := run_append_ens (c := c) o.type hown hsrc hB hlen
  unfold Oper.wp execOp
  simp only [ho, resolve, invoke, builtin, Sem.run_bind, Sem.run_pure, Result.andThen_ok, List.map_toArray, List.map_cons, List.map_nil, hs, hx, hr]
  exact h v' w' h2 h3
def RDn1 (x : Sb) (w : World) (e : Ending) (w' : World) : Prop := ∃ bo c, e = .returned (.agg #[.slice bo x.k.c.length c, .bool x.d, .string x.v]) ∧ EnsAt w' bo x.k.c ∧ (∀ g off m, bo = some ⟨g, off, m⟩ → w.heap.size ≤ g) ∧ Keep0 w w'
set_option maxRecDepth 100000 in
set_option maxHeartbeats 8000000 in
theorem downF18 (w : World) (p : Pl) (ok : Ok15 p.x) (hc : EnsAt w p.vo p.x.k.c) :
    Calls Tryz.prog 34 #[.agg #[.slice p.vo p.x.k.c.length p.vc, .bool p.x.k.d, .string p.x.k.x.a, .int .u64 (p.x.k.x.n : Int), .slice p.po p.x.m.length p.pc, .bool p.x.d, .string p.x.v]] w (RDn1 p.x w) := by
  have HM : Hid (∀ (W : World) (e : Ending) (bo : Option Addr) (c : Nat), e = .returned (.agg #[.slice bo p.x.k.c.length c, .bool p.x.d, .string p.x.v]) → EnsAt W bo p.x.k.c → (∀ g off m, bo = some ⟨g, off, m⟩ → w.heap.size ≤ g) → Keep0 w W → RDn1 p.x w e W) := fun _ _ bo c h1 h2 h3 h4 => ⟨bo, c, h1, h2, h3, h4⟩
  have kA : Keep0 w ((w.alloc (.cells #[.slice p.vo p.x.k.c.length p.vc, .bool p.x.k.d, .string p.x.k.x.a, .int .u64 (p.x.k.x.n : Int), .slice p.po p.x.m.length p.pc, .bool p.x.d, .string p.x.v] 61)).alloc (.cells #[.slice none 0 0, .bool false, .string ⟨#[]⟩] 56)) := ((Keep.refl _ w).alloc _).alloc _
  obtain ⟨x0, x1, x2, x3, x4, x5, x6⟩ := (sib_new w 61 p.x p.vo p.vc p.po p.pc).keep0 ((Keep.refl _ _).alloc (.cells #[.slice none 0 0, .bool false, .string ⟨#[]⟩] 56))
  have qS : TAt ((w.alloc (.cells #[.slice p.vo p.x.k.c.length p.vc, .bool p.x.k.d, .string p.x.k.x.a, .int .u64 (p.x.k.x.n : Int), .slice p.po p.x.m.length p.pc, .bool p.x.d, .string p.x.v] 61)).alloc (.cells #[.slice none 0 0, .bool false, .string ⟨#[]⟩] 56)) (w.heap.size + 1) (.slice none 0 0) (.bool false) (.string ⟨#[]⟩) := by
    have := TAt.new (w.alloc (.cells #[.slice p.vo p.x.k.c.length p.vc, .bool p.x.k.d, .string p.x.k.x.a, .int .u64 (p.x.k.x.n : Int), .slice p.po p.x.m.length p.pc, .bool p.x.d, .string p.x.v] 61)) 56 (.slice none 0 0) (.bool false) (.string ⟨#[]⟩)
    rw [World.size_alloc] at this
    exact this
  have hz : ((w.alloc (.cells #[.slice p.vo p.x.k.c.length p.vc, .bool p.x.k.d, .string p.x.k.x.a, .int .u64 (p.x.k.x.n : Int), .slice p.po p.x.m.length p.pc, .bool p.x.d, .string p.x.v] 61)).alloc (.cells #[.slice none 0 0, .bool false, .string ⟨#[]⟩] 56)).heap.size = w.heap.size + 2 := by rw [World.size_alloc, World.size_alloc]
  have HC : Hid (EnsAt w p.vo p.x.k.c) := hc
  have HL : Hid (p.x.k.c.length ≤ 10000) := ok.len
  rw [Nat.zero_add] at x1 x2 x3 x4 x5 x6
  clear hc ok x1 x2 x3 x4
  go_enter Tryz.func34, Tryz.ntmps34
  go_wp2_with fail
  generalize ((w.alloc (.cells #[.slice p.vo p.x.k.c.length p.vc, .bool p.x.k.d, .string p.x.k.x.a, .int .u64 (p.x.k.x.n : Int), .slice p.po p.x.m.length p.pc, .bool p.x.d, .string p.x.v] 61)).alloc (.cells #[.slice none 0 0, .bool false, .string ⟨#[]⟩] 56)) = W0 at *
  obtain ⟨g, hg⟩ : ∃ z, w.heap.size = z := ⟨_, rfl⟩
  have HG : Hid (w.heap.size = g) := hg
  rw [hg] at x0 x5 x6 qS hz ⊢
  have HZ : Hid (W0.heap.size = g + 2) := hz
  clear hz hg
  refine wp_region_held_drew (S := (fun W => W.cell? ⟨g, 0, none⟩ = some (.slice p.vo p.x.k.c.length p.vc) ∧ W.cell? ⟨g, 5, none⟩ = some (.bool p.x.d) ∧ W.cell? ⟨g, 6, none⟩ = some (.string p.x.v))) (by kernel_rfl) ⟨x0, x5, x6⟩ (fun hHeld => ?_)
  have kD : Keep0 W0 W0.drew := (Keep.refl _ W0).drew
  generalize W0.drew = WD at *
  refine wpAnyH_take (i := 0) (v := ?da0v) (by simp only [List.getElem?_toArray, List.getElem?_cons_zero] <;> rfl) (by kernel_rfl) (by kernel_rfl) (by kernel_rfl) (by exact fun _ _ _ h => h) (Or.inl ⟨by rfl, ?da0y⟩) hHeld ?da0r
  case da0y => intro w hSw; (try dsimp only at hSw); go_simp <;> rfl
  simp only [Act.put, List.setIfInBounds_toArray, List.set_cons_zero, List.set_cons_succ]
  refine wpAnyH_take (i := 1) (v := ?da1v) (by simp only [List.getElem?_toArray, List.getElem?_cons_succ, List.getElem?_cons_zero] <;> rfl) (by kernel_rfl) (by kernel_rfl) (by kernel_rfl) (by exact fun _ _ _ h => h) (Or.inl ⟨by rfl, ?da1y⟩) hHeld ?da1r
  case da1y => intro w hSw; (try dsimp only at hSw); go_simp <;> rfl
  simp only [Act.put, List.setIfInBounds_toArray, List.set_cons_zero, List.set_cons_succ]
  refine wpAnyH_take (i := 2) (v := ?da2v) (by simp only [List.getElem?_toArray, List.getElem?_cons_succ, List.getElem?_cons_zero] <;> rfl) (by kernel_rfl) (by kernel_rfl) (by kernel_rfl) (by exact fun _ _ _ h => h) (Or.inl ⟨by rfl, ?da2y⟩) hHeld ?da2r
  case da2y => intro w hSw; (try dsimp only at hSw); go_simp <;> rfl
  simp only [Act.put, List.setIfInBounds_toArray, List.set_cons_zero, List.set_cons_succ]
  refine wpAnyH_take (i := 4) (v := ?da3v) (by simp only [List.getElem?_toArray, List.getElem?_cons_succ, List.getElem?_cons_zero] <;> rfl) (by kernel_rfl) (by kernel_rfl) (by kernel_rfl) (by exact fun _ _ _ h => h) (Or.inl ⟨by rfl, ?da3y⟩) hHeld ?da3r
  case da3y => intro w hSw; (try dsimp only at hSw); go_simp <;> rfl
  simp only [Act.put, List.setIfInBounds_toArray, List.set_cons_zero, List.set_cons_succ]
  refine wpAnyH_take (i := 5) (v := ?da4v) (by simp only [List.getElem?_toArray, List.getElem?_cons_succ, List.getElem?_cons_zero] <;> rfl) (by kernel_rfl) (by kernel_rfl) (by kernel_rfl) (by exact fun _ _ _ h => h) (Or.inl ⟨by rfl, ?da4y⟩) hHeld ?da4r
  case da4y => intro w hSw; (try dsimp only at hSw); go_simp <;> rfl
  simp only [Act.put, List.setIfInBounds_toArray, List.set_cons_zero, List.set_cons_succ]
  refine wpAnyH_take (i := 6) (v := ?da5v) (by simp only [List.getElem?_toArray, List.getElem?_cons_succ, List.getElem?_cons_zero] <;> rfl) (by kernel_rfl) (by kernel_rfl) (by kernel_rfl) (by exact fun _ _ _ h => h) (Or.inl ⟨by rfl, ?da5y⟩) hHeld ?da5r
  case da5y => intro w hSw; (try dsimp only at hSw); go_simp <;> rfl
  simp only [Act.put, List.setIfInBounds_toArray, List.set_cons_zero, List.set_cons_succ]
  refine wpAnyH_take (i := 7) (v := ?da6v) (by simp only [List.getElem?_toArray, List.getElem?_cons_succ, List.getElem?_cons_zero] <;> rfl) (by kernel_rfl) (by kernel_rfl) (by kernel_rfl) (by exact fun _ _ _ h => h) (Or.inl ⟨by rfl, ?da6y⟩) hHeld ?da6r
  case da6y => intro w hSw; (try dsimp only at hSw); go_simp <;> rfl
  simp only [Act.put, List.setIfInBounds_toArray, List.set_cons_zero, List.set_cons_succ]
  have hown : WD.ownsRow (g + 2) 53 2 (.slice none 0 0) ([] : List En).length (enCells []) := ⟨rfl, .inl ⟨rfl, rfl⟩⟩
  have hsrc : EnsAt WD p.vo p.x.k.c := HC.out.keep0 (kA.trans kD)
  have hB : g + 2 ≤ WD.heap.size := by have := kD.size; have := HZ.out; omega
  have hlen : ([] : List En).length + p.x.k.c.length ≤ 1000000 := by show 0 + _ ≤ _; have := HL.out; omega
  refine wpAnyH_ready (rs := [3]) (by kernel_rfl) (by simp) ?_
  refine AllReadyH.cons (by simp only [List.getElem?_toArray, List.getElem?_cons_succ, List.getElem?_cons_zero] <;> rfl) (fun K hK => ?_) AllReadyH.nil
  refine step_append_ens18 (l := []) rfl _ _ rfl rfl rfl rfl hown hsrc hB hlen ?_
  intro v6 w6 g1 g2
  have k6 : Keep0 WD w6 := (Keep.refl _ WD).ownGrown g2 (fun k hk => by cases hk)
  have g1 : w6.ownsRow (g + 2) 53 2 v6 p.x.k.c.length (enCells p.x.k.c) := g1
  obtain ⟨bo, bc, rfl, hE, hVb, _⟩ := ens_of_row g1
  refine hK.out _ _ ⟨k6.cell (kD.cell x0 (fun f => f)) (fun f => f), k6.cell (kD.cell x5 (fun f => f)) (fun f => f), k6.cell (kD.cell x6 (fun f => f)) (fun f => f)⟩ (fun hHeld => ?_)
  clear hK K
  try simp only [Act.put, List.setIfInBounds_toArray, List.set_cons_zero, List.set_cons_succ]
  have kw : Keep0 W0 w6 := kD.trans k6
  have HB : Hid (∀ b off m, bo = some ⟨b, off, m⟩ → g + 2 ≤ b) := hVb
  clear g1 g2 hown hsrc hB hlen kD k6 hVb
  refine wpAnyH_take (i := 8) (v := ?da7v) (by simp only [List.getElem?_toArray, List.getElem?_cons_succ, List.getElem?_cons_zero] <;> rfl) (by kernel_rfl) (by kernel_rfl) (by kernel_rfl) (by exact fun _ _ _ h => h) (Or.inl ⟨by rfl, ?da7y⟩) hHeld ?da7r
  case da7y => intro w hSw; (try dsimp only at hSw); go_simp <;> rfl
  simp only [Act.put, List.setIfInBounds_toArray, List.set_cons_zero, List.set_cons_succ]
  have qw := qS.keep0 kw
  have kP : Keep1 (g + 1) w6 (((w6.setCell ⟨g + 1, 0, none⟩ (.slice bo p.x.k.c.length bc)).setCell ⟨g + 1, 1, none⟩ (.bool p.x.d)).setCell ⟨g + 1, 2, none⟩ (.string p.x.v)) := put3_keep w6 (g + 1) (.slice bo p.x.k.c.length bc) (.bool p.x.d) (.string p.x.v)
  obtain ⟨t0, t1, t2, f0, f1, f2⟩ := qw.cells
  refine wpAnyH_ready (rs := [9]) (by kernel_rfl) (by simp) ?_
  refine AllReadyH.cons (by simp only [List.getElem?_toArray, List.getElem?_cons_succ, List.getElem?_cons_zero] <;> rfl) (fun K hK => ?_) AllReadyH.nil
  go_simp
  refine hK.out _ _ ⟨kP.cell (kw.cell x0 (fun f => f)) (fun e => by have e : g = g + 1 := e; omega), kP.cell (kw.cell x5 (fun f => f)) (fun e => by have e : g = g + 1 := e; omega), kP.cell (kw.cell x6 (fun f => f)) (fun e => by have e : g = g + 1 := e; omega)⟩ (fun hHeld => ?_)
  clear hK K
  try simp only [Act.put, List.setIfInBounds_toArray, List.set_cons_zero, List.set_cons_succ]
  refine wpAnyH_done (by kernel_rfl) ?_ _
  have HK : Hid (Keep0 w (((w6.setCell ⟨g + 1, 0, none⟩ (.slice bo p.x.k.c.length bc)).setCell ⟨g + 1, 1, none⟩ (.bool p.x.d)).setCell ⟨g + 1, 2, none⟩ (.string p.x.v))) := (kA.trans kw).step kP (fun i hi hh => by have := HG.out; omega)
  have HE : Hid (EnsAt (((w6.setCell ⟨g + 1, 0, none⟩ (.slice bo p.x.k.c.length bc)).setCell ⟨g + 1, 1, none⟩ (.bool p.x.d)).setCell ⟨g + 1, 2, none⟩ (.string p.x.v)) bo p.x.k.c) := hE.keep kP (fun b off m e f => by have h1 := HB.out b off m e; omega)
  have HQ : Hid (TAt (((w6.setCell ⟨g + 1, 0, none⟩ (.slice bo p.x.k.c.length bc)).setCell ⟨g + 1, 1, none⟩ (.bool p.x.d)).setCell ⟨g + 1, 2, none⟩ (.string p.x.v)) (g + 1) (.slice bo p.x.k.c.length bc) (.bool p.x.d) (.string p.x.v)) := qw.put (.slice bo p.x.k.c.length bc) (.bool p.x.d) (.string p.x.v)
  have HB2 : Hid (∀ b off m, bo = some ⟨b, off, m⟩ → w.heap.size ≤ b) := fun b off m e => by have h1 := HB.out b off m e; have := HG.out; omega
  clear hHeld kP kw hE HB kA qS qw t0 t1 t2 f0 f1 f2 x0 x5 x6
  go_wp2_with fail
  refine bodyPost_ret (retOs rfl _ _ _ rfl HQ.out) rfl ?_
  exact HM.out _ _ bo bc rfl HE.out HB2.out HK.out
def RPosN (l : List Os) (w : World) (e : Ending) (w' : World) : Prop := ∃ ao cap L, e = .returned (.slice ao L.length cap) ∧ L.map Po.x = l ∧ PosAt w' ao L ∧ (L.length ≤ cap ∧ cap ≤ maxLen) ∧ Keep0 w w'
theorem dnS_more {L : List Pl} {O : List Po} {k : Nat} {p : Po} (hk : k < L.length) (h : O.map Po.x = (L.take k).map (fun q => dnS q.x)) (hp : p.x = dnS L[k].x) : (O ++ [p]).map Po.x = (L.take (k + 1)).map (fun q => dnS q.x) := by
  rw [List.map_append, h, List.take_succ_eq_append_getElem hk, List.map_append, List.map_cons, List.map_nil, hp]
  rfl
set_option maxRecDepth 100000 in
set_option maxHeartbeats 8000000 in
theorem overD18 (w : World) (ao : Option Addr) (cap : Nat) (L : List Pl) (hl : L.length ≤ 100) (hL : ∀ p ∈ L, Ok15 p.x) (hc : PlsAt w ao L) :
    Calls Tryz.prog 33 #[.slice ao L.length cap, .func (.func 34) #[] #[]] w (RPosN (L.map (fun p => dnS p.x)) w) := by
  have i1 : (L.length : Int) ≤ 9223372036854775807 := by omega
  have HL : Hid (L.length ≤ 100) := hl
  have HC : Hid (PlsAt w ao L) := hc
  have HF : Hid (∀ p ∈ L, Ok15 p.x) := hL
  have HM : Hid (∀ (W : World) (e : Ending) (v : Value) (O : List Po), e = .returned v → O.map Po.x = L.map (fun p => dnS p.x) → OwnO w.heap.size W v O → Keep0 w W → RPosN (L.map (fun p => dnS p.x)) w e W) := by
    intro W e v O h1 h2 h3 h4
    obtain ⟨ao2, cap2, rfl, h5, h6, h7⟩ := h3.newO
    exact ⟨ao2, cap2, O, h1, h2, h5.at_, ⟨h6, h7⟩, h4⟩
  clear hc hL hl
  go_enter Tryz.func33, Tryz.ntmps33
  go_wp2_with fail
  go_loopw [5, 10] (fun u i wr => ∃ (k : Nat) (O : List Po) (v : Value), v = u ∧ i = .int .i64 (k : Int) ∧ k ≤ L.length ∧ Hid (O.map Po.x = (L.take k).map (fun q => dnS q.x)) ∧ Hid (OwnO w.heap.size wr v O) ∧ Hid (Keep0 w wr)) (fun _ i _ => L.length - (intOf i).toNat)
  case atStart => exact ⟨0, [], _, rfl, rfl, by omega, rfl, OwnO.nil _ _, Keep.refl _ _⟩
  case round =>
    obtain ⟨k, O, v, rfl, rfl, hk, HO, HW, HKw⟩ := hrel
    by_cases hlt : k < L.length
    · have j2 : (k : Int) < L.length := by omega
      obtain ⟨bb, off, rfl, s1, s2⟩ := (HC.out.keep0 HKw.out).at_ k hlt
      obtain ⟨b0, b1, b2, b3, b4, b5, b6⟩ := s1
      have hop := HF.out _ (List.getElem_mem hlt)
      have s3 := s2.ens
      have HOl : Hid (O.length = k) := by
        show _ = _
        have := congrArg List.length HO.out
        rw [List.length_map, List.length_map, List.length_take] at this
        omega
      obtain ⟨p, hp⟩ : ∃ p, L[k] = p := ⟨_, rfl⟩
      have HX : Hid (L[k] = p) := hp
      clear s2
      rw [hp] at b0 b1 b2 b3 b4 b5 b6 s3 hop
      have kX : Keep0 wr (wr.alloc (.cells #[.slice p.vo p.x.k.c.length p.vc, .bool p.x.k.d, .string p.x.k.x.a, .int .u64 (p.x.k.x.n : Int), .slice p.po p.x.m.length p.pc, .bool p.x.d, .string p.x.v] 61)) := (Keep.refl _ wr).alloc _
      obtain ⟨c0, c1, c2, c3, c4, c5, c6⟩ := sib_new wr 61 p.x p.vo p.vc p.po p.pc
      have yf := downF18 (wr.alloc (.cells #[.slice p.vo p.x.k.c.length p.vc, .bool p.x.k.d, .string p.x.k.x.a, .int .u64 (p.x.k.x.n : Int), .slice p.po p.x.m.length p.pc, .bool p.x.d, .string p.x.v] 61)) p hop (s3.keep0 kX)
      have HWx : Hid (OwnO w.heap.size (wr.alloc (.cells #[.slice p.vo p.x.k.c.length p.vc, .bool p.x.k.d, .string p.x.k.x.a, .int .u64 (p.x.k.x.n : Int), .slice p.po p.x.m.length p.pc, .bool p.x.d, .string p.x.v] 61)) v O) := HW.out.keep0 kX
      have HLt : Hid (∀ g, v.ownBlock = some g → w.heap.size ≤ g ∧ g < wr.heap.size) := HW.out.lt
      have HKx : Hid (Keep0 w (wr.alloc (.cells #[.slice p.vo p.x.k.c.length p.vc, .bool p.x.k.d, .string p.x.k.x.a, .int .u64 (p.x.k.x.n : Int), .slice p.po p.x.m.length p.pc, .bool p.x.d, .string p.x.v] 61))) := HKw.out.trans kX
      have HZx : Hid (wr.heap.size ≤ (wr.alloc (.cells #[.slice p.vo p.x.k.c.length p.vc, .bool p.x.k.d, .string p.x.k.x.a, .int .u64 (p.x.k.x.n : Int), .slice p.po p.x.m.length p.pc, .bool p.x.d, .string p.x.v] 61)).heap.size) := kX.size
      have HZw : Hid (w.heap.size ≤ wr.heap.size) := HKw.out.size
      clear kX s3 hp hop HW HKw
      go_wp2_with fail
      generalize (wr.alloc (.cells #[.slice p.vo p.x.k.c.length p.vc, .bool p.x.k.d, .string p.x.k.x.a, .int .u64 (p.x.k.x.n : Int), .slice p.po p.x.m.length p.pc, .bool p.x.d, .string p.x.v] 61)) = W2 at *
      generalize wr.heap.size = g7 at *
      refine yf.mono ?_
      rintro e w1 ⟨bo, bc, rfl, hE, hbo, k1⟩
      have kS : Keep0 w1 (w1.alloc (.cells #[.slice bo p.x.k.c.length bc, .bool p.x.d, .string p.x.v] 56)) := (Keep.refl _ w1).alloc _
      have kT := k1.trans kS
      have hsrc : RowAt Po.cells 3 (w1.alloc (.cells #[.slice bo p.x.k.c.length bc, .bool p.x.d, .string p.x.v] 56)) (some ⟨w1.heap.size, 0, none⟩) [(⟨dnS p.x, bo, bc⟩ : Po)] := po_new w1 56 ⟨dnS p.x, bo, bc⟩
      have HWS : Hid (OwnO w.heap.size (w1.alloc (.cells #[.slice bo p.x.k.c.length bc, .bool p.x.d, .string p.x.v] 56)) v O) := HWx.out.keep0 kT
      have hrow := HWS.out.row
      have hB : w.heap.size ≤ (w1.alloc (.cells #[.slice bo p.x.k.c.length bc, .bool p.x.d, .string p.x.v] 56)).heap.size := by have := kT.size; have := HZx.out; have := HZw.out; omega
      have hlen : O.length + [(⟨dnS p.x, bo, bc⟩ : Po)].length ≤ 1000000 := by show _ + 1 ≤ _; have := HL.out; have := HOl.out; omega
      have HIn : Hid (EnsAt (w1.alloc (.cells #[.slice bo p.x.k.c.length bc, .bool p.x.d, .string p.x.v] 56)) bo p.x.k.c) := hE.keep0 kS
      have HVo : Hid (∀ g off m, bo = some ⟨g, off, m⟩ → w.heap.size ≤ g ∧ v.ownBlock ≠ some g) := fun g off m e => ⟨by have := hbo g off m e; have := HZx.out; have := HZw.out; omega, fun h => by have := hbo g off m e; have := (HLt.out g h).2; have := HZx.out; omega⟩
      have HKS : Hid (Keep0 w (w1.alloc (.cells #[.slice bo p.x.k.c.length bc, .bool p.x.d, .string p.x.v] 56))) := HKx.out.trans kT
      clear yf k1 kS kT hE hbo HWx HLt HKx HZx HZw c0 c1 c2 c3 c4 c5 c6 b0 b1 b2 b3 b4 b5 b6
      go_wp2_with (at_builtin; refine wpList_append_row_at poT rfl _ _ rfl rfl rfl hrow hsrc hB hlen ?_)
      intro v' w4 r1 r4 r5
      have r1 : w4.ownsRow w.heap.size 56 3 v' (O ++ [(⟨dnS p.x, bo, bc⟩ : Po)]).length (rowOf Po.cells (O ++ [(⟨dnS p.x, bo, bc⟩ : Po)])) := by first | exact r1 | (rw [List.length_append]; exact r1)
      have HW4 : Hid (OwnO w.heap.size w4 v' (O ++ [(⟨dnS p.x, bo, bc⟩ : Po)])) := HWS.out.more (p := ⟨dnS p.x, bo, bc⟩) HIn.out (fun g off m e => ⟨(HVo.out g off m e).1, .inr (HVo.out g off m e).2⟩) r1 r4 (by first | exact r5 | (rw [World.size_alloc]; exact r5))
      have HK4 : Hid (Keep0 w w4) := HKS.out.step (keep_grown r4) (fun i hi e => by have := (HWS.out.row.lt i e).1; omega)
      have HO4 : Hid ((O ++ [(⟨dnS p.x, bo, bc⟩ : Po)]).map Po.x = (L.take (k + 1)).map (fun q => dnS q.x)) := dnS_more hlt HO.out (by rw [HX.out])
      clear r1 r4 r5 hsrc hrow hB hlen HWS HIn HVo HKS HO HOl HX
      generalize (O ++ [(⟨dnS p.x, bo, bc⟩ : Po)]) = ON at *
      go_wp2
      go_roundw
      case rel => exact ⟨k + 1, ON, v', rfl, by go_num, by omega, HO4, HW4, HK4⟩
      case measure => simp [intOf]; omega
    · have j2 : ¬ (k : Int) < L.length := by omega
      have HO2 : Hid (O.map Po.x = L.map (fun p => dnS p.x)) := by
        have h := HO.out
        rw [List.take_of_length_le (by omega)] at h
        exact h
      clear HO
      go_wp2
      go_ret
      exact HM.out _ _ _ _ rfl HO2.out HW.out HKw.out
theorem oDown_no {o : Ob} (h : oPlain o = false) : oDown o = (zOl, 1) := by unfold oDown; rw [h]; rfl
theorem oDown_yes {o : Ob} (h : oPlain o = true) : oDown o = (⟨o.key, o.l.map dnS⟩, 0) := by unfold oDown; rw [h]; rfl
set_option maxRecDepth 100000 in
set_option maxHeartbeats 8000000 in
theorem down18_pl (w : World) (key : ByteArray) (ao : Option Addr) (cap : Nat) (L : List Pl) (ok : Ok16 ⟨key, L.map Pl.x⟩) (hcap : L.length ≤ cap ∧ cap ≤ maxLen) (hc : PlsAt w ao L) :
    Calls Tryz.prog 11 #[.agg #[.string key, .slice ao L.length cap]] w (ROlE (oDown ⟨key, L.map Pl.x⟩) w) := by
  have HE : Hid (∀ (W : World) (e : Ending), oDown ⟨key, L.map Pl.x⟩ = (zOl, 1) → e = .returned (.tuple #[.agg #[.string ⟨#[]⟩, .slice none 0 0], .int .i64 1]) → Keep0 w W → ROlE (oDown ⟨key, L.map Pl.x⟩) w e W) := fun _ _ h1 h2 h3 => ROlE.bare h1 h2 h3
  have HM : Hid (∀ (W : World) (e : Ending) (O : List Po) (vo : Option Addr) (vc : Nat), oDown ⟨key, L.map Pl.x⟩ = (⟨key, O.map Po.x⟩, 0) → e = .returned (.tuple #[.agg #[.string key, .slice vo O.length vc], .int .i64 0]) → PosAt W vo O → (O.length ≤ vc ∧ vc ≤ maxLen) → Keep0 w W → ROlE (oDown ⟨key, L.map Pl.x⟩) w e W) := by
    intro W e O vo vc h1 h2 h3 h4 h5
    rw [h1]
    exact ⟨vo, vc, O, h2, rfl, h4.1, h4.2, h3, h5⟩
  have kA : Keep0 w ((w.alloc (.cells #[.string key, .slice ao L.length cap] 27)).alloc (.cells #[.string ⟨#[]⟩, .slice none 0 0] 24)) := ((Keep.refl _ w).alloc _).alloc _
  have qO : DAt ((w.alloc (.cells #[.string key, .slice ao L.length cap] 27)).alloc (.cells #[.string ⟨#[]⟩, .slice none 0 0] 24)) w.heap.size (.string key) (.slice ao L.length cap) := (DAt.new w 27 (.string key) (.slice ao L.length cap)).keep0 ((Keep.refl _ _).alloc _)
  have q2 : DAt ((w.alloc (.cells #[.string key, .slice ao L.length cap] 27)).alloc (.cells #[.string ⟨#[]⟩, .slice none 0 0] 24)) (w.heap.size + 1) (.string ⟨#[]⟩) (.slice none 0 0) := by
    have := DAt.new (w.alloc (.cells #[.string key, .slice ao L.length cap] 27)) 24 (.string ⟨#[]⟩) (.slice none 0 0)
    rw [World.size_alloc] at this
    exact this
  have hll : (L.map Pl.x).length = L.length := List.length_map ..
  have yp := plain18 ((w.alloc (.cells #[.string key, .slice ao L.length cap] 27)).alloc (.cells #[.string ⟨#[]⟩, .slice none 0 0] 24)) ao cap ⟨key, L.map Pl.x⟩ ok (by show (L.map Pl.x).length ≤ cap ∧ _; rw [hll]; exact hcap) (hc.keep0 kA).sibs
  replace yp : Calls Tryz.prog 15 #[.agg #[.string key, .slice ao (L.map Pl.x).length cap]] ((w.alloc (.cells #[.string key, .slice ao L.length cap] 27)).alloc (.cells #[.string ⟨#[]⟩, .slice none 0 0] 24)) fun e w' => e = .returned (.bool (oPlain ⟨key, L.map Pl.x⟩)) ∧ Keep0 ((w.alloc (.cells #[.string key, .slice ao L.length cap] 27)).alloc (.cells #[.string ⟨#[]⟩, .slice none 0 0] 24)) w' := yp
  rw [hll] at yp
  have hlen : L.length ≤ 100 := by rw [← hll]; exact ok.len
  have yo := fun W (K : Keep0 w W) => overD18 W ao cap L hlen (fun p hp => ok.sib _ (List.mem_map.2 ⟨p, hp, rfl⟩)) (hc.keep0 K)
  have HN : Hid (oPlain ⟨key, L.map Pl.x⟩ = false → oDown ⟨key, L.map Pl.x⟩ = (zOl, 1)) := oDown_no
  have HY : Hid (oPlain ⟨key, L.map Pl.x⟩ = true → oDown ⟨key, L.map Pl.x⟩ = (⟨key, L.map (fun p => dnS p.x)⟩, 0)) := fun h => by rw [oDown_yes h]; show ((⟨key, (L.map Pl.x).map dnS⟩ : Ol), (0 : Int)) = _; rw [List.map_map]; rfl
  obtain ⟨x0, x1, xf0, xf1⟩ := qO.cells
  clear hc ok hcap hll hlen xf0 xf1
  generalize oPlain ⟨key, L.map Pl.x⟩ = BP at *
  generalize oDown ⟨key, L.map Pl.x⟩ = D at *
  go_enter Tryz.func11, Tryz.ntmps11
  go_wp2_with fail
  generalize ((w.alloc (.cells #[.string key, .slice ao L.length cap] 27)).alloc (.cells #[.string ⟨#[]⟩, .slice none 0 0] 24)) = W0 at *
  obtain ⟨g, hg⟩ : ∃ z, w.heap.size = z := ⟨_, rfl⟩
  have HG : Hid (w.heap.size = g) := hg
  rw [hg] at qO q2 x0 x1 ⊢
  clear hg
  refine yp.mono ?_
  rintro e w1 ⟨rfl, k1⟩
  have K1 := kA.trans k1
  have q2a := q2.keep0 k1
  replace x0 := k1.cell x0 (fun f => f)
  replace x1 := k1.cell x1 (fun f => f)
  clear yp kA k1 qO q2
  cases BP with
  | false =>
    have HD : Hid (D = (zOl, 1)) := HN.out rfl
    obtain ⟨u0, u1, f0, f1⟩ := q2a.cells
    clear yo HN HY
    go_wp2
    first
      | (refine bodyPost_ret (retOl2 rfl _ _ _ rfl (q2a.put (.string ⟨#[]⟩) (.slice none 0 0))) rfl ?_
         exact HE.out _ _ HD.out rfl (K1.step (put2_keep _ _ _ _) (fun i hi hh => by have := HG.out; omega)))
      | (refine bodyPost_ret (retOl2 rfl _ _ _ rfl q2a) rfl ?_
         exact HE.out _ _ HD.out rfl K1)
  | true =>
    have HD : Hid (D = (⟨key, L.map (fun p => dnS p.x)⟩, 0)) := HY.out rfl
    have yo := yo w1 K1
    clear HN HY
    go_wp2_with fail
    refine yo.mono ?_
    rintro e w2 ⟨bo, bc, O, rfl, hO, hP, hcp, k2⟩
    have K2 := K1.trans k2
    have q2b := q2a.keep0 k2
    replace x0 := k2.cell x0 (fun f => f)
    have HP : Hid (PosAt w2 bo O) := hP
    have HCP : Hid (O.length ≤ bc ∧ bc ≤ maxLen) := hcp
    have HD2 : Hid (D = (⟨key, O.map Po.x⟩, 0)) := by show _ = _; rw [HD.out, hO]
    obtain ⟨u0, u1, f0, f1⟩ := q2b.cells
    clear yo k2 q2a K1 hO hP hcp HD x1
    go_wp2
    refine bodyPost_ret (retOl2 rfl _ _ _ rfl (q2b.put (.string key) (.slice bo O.length bc))) rfl ?_
    exact HM.out _ _ O bo bc HD2.out rfl (pos_beside q2b (put2_keep _ _ _ _) HP.out) HCP.out (K2.step (put2_keep _ _ _ _) (fun i hi hh => by have := HG.out; omega))
theorem down18 (w : World) (ao : Option Addr) (cap : Nat) (o : Ob) (ok : Ok16 o) (hcap : o.l.length ≤ cap ∧ cap ≤ maxLen) (hc : SibsAt w ao o.l) :
    Calls Tryz.prog 11 #[.agg #[.string o.key, .slice ao o.l.length cap]] w (ROlE (oDown o) w) := by
  obtain ⟨key, l⟩ := o
  obtain ⟨L, hL, hP⟩ := sibs_pls hc
  replace hL : L.map Pl.x = l := hL
  subst hL
  have e : (L.map Pl.x).length = L.length := List.length_map ..
  show Calls Tryz.prog 11 #[.agg #[.string key, .slice ao (L.map Pl.x).length cap]] w (ROlE (oDown ⟨key, L.map Pl.x⟩) w)
  replace hcap : (L.map Pl.x).length ≤ cap ∧ cap ≤ maxLen := hcap
  rw [e] at hcap ⊢
  exact down18_pl w key ao cap L ok hcap hP
end Go.Proofs.YtoefibkhlhmlfaaGreat
namespace Go.Proofs.YtoefibkhlhmlfaaGreat
open Go.RowKit
theorem SibsBy.at {w : World} {b r : Nat} {ao : Option Addr} {l : List Sb} (h : SibsBy w b r ao l) : SibsAt w ao l := by
  intro i hi
  obtain ⟨bb, off, vo, vc, po, pc, e, _, h1, h2, _, _⟩ := h i hi
  exact ⟨bb, off, vo, vc, po, pc, e, h1, h2⟩
theorem SibsBy.after {w W : World} {b r r' : Nat} {ao : Option Addr} {l : List Sb} (h : SibsBy w b r ao l) (k : Keep (two b r) w W) (hr : r' = r ∨ w.heap.size ≤ r') : SibsBy W b r' ao l := by
  intro i hi
  obtain ⟨bb, off, vo, vc, po, pc, e, hn, h1, h2, h3, h4⟩ := h i hi
  have hb := World.block_lt_of_cell? w _ h1.c0
  have hb : bb < w.heap.size := hb
  refine ⟨bb, off, vo, vc, po, pc, e, fun hh => ?_, h1.keep k hn, ⟨ens_keepE h2.ens k (fun g off m e => ?_), prs_keepE h2.prs k (fun g off m e => ?_), h2.room⟩, fun hl g off m e hh => ?_, fun hl g off m e hh => ?_⟩
  · unfold two at hh hn; omega
  · by_cases hz : 0 < l[i].k.c.length
    · exact .inr (h3 hz g off m e)
    · exact .inl (by omega)
  · by_cases hz : 0 < l[i].m.length
    · exact .inr (h4 hz g off m e)
    · exact .inl (by omega)
  · have n := h3 hl g off m e
    have := (ens_lt h2.ens g off m e).resolve_left (by omega)
    unfold two at hh n
    omega
  · have n := h4 hl g off m e
    have := (prs_lt h2.prs g off m e).resolve_left (by omega)
    unfold two at hh n
    omega
theorem wCount_err16 {M m : Int} {t : ByteArray} {x n : Int} (h : x ≠ 0) : wCount M m (t, x) n = (t, x) := by
  unfold wCount pFail
  rw [if_neg h, if_neg h, pOne_err h]
  split
  · rfl
  · split <;> rfl
theorem pfail_zero16 (x : Int) : pFail x 0 = x := by
  unfold pFail
  split
  · rename_i h; exact h.symm
  · rfl
theorem pob_chain (M : Int) (t : ByteArray) (x : Int) (o : Ob) : pSibs M (wCount M 16 (wPut M 128 (t, pFail x (oCheck o)) o.key) (o.l.length : Int)) o.l = pOb M (t, x) o := by
  by_cases h0 : oCheck o = 0
  · obtain ⟨h1, _⟩ := oCheck_zero.1 h0
    have h1 := outS_zero.1 h1
    rw [pOb_yes h0, h0, pfail_zero16, wCount_fit (by rw [pMax16]; omega)]
  · have hF : pFail x (oCheck o) ≠ 0 := by
      unfold pFail
      split
      · exact h0
      · assumption
    rw [pOb_no h0, wPut_err hF, wCount_err16 hF, pSibs_err hF]
set_option maxRecDepth 100000 in
set_option maxHeartbeats 8000000 in
theorem put16_any {w : World} {b r : Nat} {t : ByteArray} {M x : Int} (ao : Option Addr) (cap : Nat) (key : ByteArray) (l : List Sb) (h : Pen w b r t M x) (ht : t.size ≤ 1000000) (hk : key.size ≤ 1000000) (hl : l.length ≤ 100) (hf : ∀ x ∈ l, Ok15 x) (hcap : l.length ≤ cap ∧ cap ≤ maxLen) (hc : SibsBy w b r ao l) :
    Calls Tryz.prog 43 #[pptr b, .agg #[.string key, .slice ao l.length cap]] w fun e w' => e = .returned (.tuple #[]) ∧ PenAfter w w' b r M (pOb M (t, x) ⟨key, l⟩) := by
  have hch := pob_chain M t x ⟨key, l⟩
  have i1 : (l.length : Int) ≤ 9223372036854775807 := by omega
  have kA : Keep0 w (w.alloc (.cells #[.string key, .slice ao l.length cap] 27)) := (Keep.refl _ w).alloc _
  have x0 : (w.alloc (.cells #[.string key, .slice ao l.length cap] 27)).cell? ⟨w.heap.size, 0, none⟩ = some (.string key) := cell_alloc w _ rfl
  have x1 : (w.alloc (.cells #[.string key, .slice ao l.length cap] 27)).cell? ⟨w.heap.size, 1, none⟩ = some (.slice ao l.length cap) := cell_alloc w _ rfl
  have z0 : (w.alloc (.cells #[.string key, .slice ao l.length cap] 27)).heap.size = w.heap.size + 1 := by rw [World.size_alloc]
  have h0 := h.keep0 kA
  have hc0 : SibsBy (w.alloc (.cells #[.string key, .slice ao l.length cap] 27)) b r ao l := hc.after kA.any (.inl rfl)
  have yc := check16_any (w.alloc (.cells #[.string key, .slice ao l.length cap] 27)) ao cap key l (by unfold maxLen; omega) (by unfold maxLen; omega) hf hcap hc0.at
  generalize oCheck ⟨key, l⟩ = C at *
  have hbl := h.lt
  have hrl := h.rlt
  have yf := fun W (h : Pen W b r t M x) => pfail_any C h
  generalize pFail x C = F at *
  have ykey := fun W (h : Pen W b r t M F) n hn => bput_one14 h 128 (by decide) key (by unfold maxLen; omega) (by omega) 9 n hn
  have hs1 := wPut_size M 128 (t, F) key (by omega)
  obtain ⟨⟨t1, F1⟩, hP1⟩ : ∃ z, wPut M 128 (t, F) key = z := ⟨_, rfl⟩
  rw [hP1] at hch hs1 ykey
  have hs1 : t1.size ≤ t.size + key.size + 10 := hs1
  have ycnt := fun W r' (h : Pen W b r' t1 M F1) => pcount6_any 16 (l.length : Int) (by decide) (by omega) h (by omega)
  have hs2 := wCount_size M 16 (t1, F1) (l.length : Int) (by omega)
  obtain ⟨⟨t2, F2⟩, hP2⟩ : ∃ z, wCount M 16 (t1, F1) (l.length : Int) = z := ⟨_, rfl⟩
  rw [hP2] at hch hs2 ycnt
  have hs2 : t2.size ≤ t1.size + 10 := hs2
  have yput := fun W r' (h : Pen W b r' t2 M F2) (hc : SibsBy W b r' ao l) => put15g ao cap l h (by omega) hl hf hc
  have hch : pSibs M (t2, F2) l = pOb M (t, x) ⟨key, l⟩ := hch
  rw [hch] at yput
  generalize pOb M (t, x) ⟨key, l⟩ = R at *
  have HC : Hid (SibsBy (w.alloc (.cells #[.string key, .slice ao l.length cap] 27)) b r ao l) := hc0
  clear hch hP1 hP2 hs1 hs2 hf hcap hc hc0 h ht hk hl
  go_enter Tryz.func43, Tryz.ntmps43
  go_wp2_with fail
  generalize (w.alloc (.cells #[.string key, .slice ao l.length cap] 27)) = W0 at *
  obtain ⟨g, hg⟩ : ∃ g, w.heap.size = g := ⟨_, rfl⟩
  rw [hg] at x0 x1 z0 hbl hrl ⊢
  have HG : Hid (w.heap.size = g) := hg
  refine yc.mono ?_
  rintro e w1 ⟨rfl, k1⟩
  have h1 := h0.keep0 k1
  have K1 := kA.trans k1
  replace x0 := k1.cell x0 (fun f => f)
  replace x1 := k1.cell x1 (fun f => f)
  have z1 : g + 1 ≤ w1.heap.size := by have := k1.size; omega
  have HC1 : Hid (SibsBy w1 b r ao l) := HC.out.after k1.any (.inl rfl)
  have yf := yf _ h1
  clear yc k1 kA h0 h1 HC z0
  go_wp2_with fail
  refine yf.mono ?_
  rintro e w2 ⟨rfl, h2, k2⟩
  have k2' : Keep (two b r) w1 w2 := k2.mono (fun _ _ e => .inl e)
  have K2 : Keep (two b r) w w2 := (K1.any (R := two b r)).trans k2'
  have ng : g ≠ b := by omega
  replace x0 := k2.cell x0 ng
  replace x1 := k2.cell x1 ng
  have z2 : g + 1 ≤ w2.heap.size := by have := k2.size; omega
  have HC2 : Hid (SibsBy w2 b r ao l) := HC1.out.after k2' (.inl rfl)
  have ykey := ykey _ h2
  clear yf k2 k2' K1 h2 HC1 z1
  go_wp2_with fail
  refine (ykey _ rfl).mono ?_
  rintro e w3 ⟨rfl, r1, h3, k3, hr1⟩
  have K3 : Keep (two b r) w w3 := K2.trans k3
  have ng2 : ¬ two b r g := by unfold two; omega
  replace x0 := k3.cell x0 ng2
  replace x1 := k3.cell x1 ng2
  have z3 : g + 1 ≤ w3.heap.size := by have := k3.size; omega
  have HC3 : Hid (SibsBy w3 b r1 ao l) := HC2.out.after k3 hr1
  have HR1 : Hid (r1 = r ∨ g + 1 ≤ r1) := by show _ ∨ _; omega
  replace h3 : Pen w3 b r1 t1 M F1 := h3
  have ycnt := ycnt _ _ h3
  clear ykey k3 K2 h3 HC2 z2 hr1
  go_wp2_with fail
  refine ycnt.mono ?_
  rintro e w4 ⟨rfl, r2, h4, k4, hr2⟩
  have K4 : Keep (two b r) w w4 := K3.step k4 (fun i hi hh => by have := HR1.out; have := HG.out; unfold two at hh ⊢; omega)
  have ng3 : ¬ two b r1 g := by have := HR1.out; unfold two; omega
  replace x1 := k4.cell x1 ng3
  have HC4 : Hid (SibsBy w4 b r2 ao l) := HC3.out.after k4 hr2
  have HR2 : Hid (r2 = r ∨ w.heap.size ≤ r2) := by show _ ∨ _; have := HR1.out; have := HG.out; omega
  replace h4 : Pen w4 b r2 t2 M F2 := h4
  have yput := yput _ _ h4 HC4.out
  clear ycnt k4 K3 h4 HC3 z3 hr2 x0 HC4
  go_wp2_with fail
  refine yput.mono ?_
  rintro e w5 ⟨rfl, h5⟩
  have H5 : Hid (PenAfter w w5 b r M R) := PenAfter.trans K4 HR2.out h5
  clear yput h5 K4
  go_wp2
  go_end0
  exact ⟨rfl, H5.out⟩
theorem put16 {w : World} {b r : Nat} {t : ByteArray} {M x : Int} (ao : Option Addr) (cap : Nat) (o : Ob) (h : Pen w b r t M x) (ht : t.size ≤ 1000000) (ok : Ok16 o) (hcap : o.l.length ≤ cap ∧ cap ≤ maxLen) (hc : SibsBy w b r ao o.l) :
    Calls Tryz.prog 43 #[pptr b, .agg #[.string o.key, .slice ao o.l.length cap]] w fun e w' => e = .returned (.tuple #[]) ∧ PenAfter w w' b r M (pOb M (t, x) o) :=
  put16_any ao cap o.key o.l h ht ok.key ok.len ok.sib hcap hc
set_option maxRecDepth 100000 in
set_option maxHeartbeats 4000000 in
theorem encode16 (w : World) (ao : Option Addr) (cap : Nat) (o : Ob) (ok : Ok16 o) (hcap : o.l.length ≤ cap ∧ cap ≤ maxLen) (hc : SibsAt w ao o.l) :
    Calls Tryz.prog 18 #[.agg #[.string o.key, .slice ao o.l.length cap]] w fun e w' => e = .returned (.tuple #[.string (encO o).1, .int .i64 (encO o).2]) ∧ Keep0 w w' := by
  have he := encO_pen (o := o) ok.u
  have k0 : Keep0 w (w.alloc (.cells #[.string o.key, .slice ao o.l.length cap] 27)) := (Keep.refl _ w).alloc _
  have q0 := DAt.new w 27 (.string o.key) (.slice ao o.l.length cap)
  have z0 : (w.alloc (.cells #[.string o.key, .slice ao o.l.length cap] 27)).heap.size = w.heap.size + 1 := by rw [World.size_alloc]
  have yn := pnew_any (w.alloc (.cells #[.string o.key, .slice ao o.l.length cap] 27)) 65536 (by decide)
  have hpm : pMax 65536 = 65536 := rfl
  rw [hpm, z0] at yn
  have hB : ∀ W, Pen W (w.heap.size + 1) (w.heap.size + 1) ⟨#[]⟩ 65536 0 → Keep0 w W → Calls Tryz.prog 43 #[pptr (w.heap.size + 1), .agg #[.string o.key, .slice ao o.l.length cap]] W fun e w' => e = .returned (.tuple #[]) ∧ ∃ r', Pen w' (w.heap.size + 1) r' (pOb 65536 (⟨#[]⟩, 0) o).1 65536 (pOb 65536 (⟨#[]⟩, 0) o).2 ∧ Keep0 w w' := by
    intro W hP hK
    refine (put16 ao cap o hP (by decide) ok hcap (SibsBy.old hc hK (by omega) (by omega))).mono ?_
    rintro e w' ⟨rfl, r', hp, k, _⟩
    exact ⟨rfl, r', hp, hK.step k (fun i hi hh => by unfold two at hh; omega)⟩
  have e1 : (encO o).1 = pEnd (pOb 65536 (⟨#[]⟩, 0) o).1 (pOb 65536 (⟨#[]⟩, 0) o).2 := by rw [← he]
  have e2 : (encO o).2 = (pOb 65536 (⟨#[]⟩, 0) o).2 := by rw [← he]
  rw [e1, e2]
  have HB : Hid (∀ W, Pen W (w.heap.size + 1) (w.heap.size + 1) ⟨#[]⟩ 65536 0 → Keep0 w W → Calls Tryz.prog 43 #[pptr (w.heap.size + 1), .agg #[.string o.key, .slice ao o.l.length cap]] W fun e w' => e = .returned (.tuple #[]) ∧ ∃ r', Pen w' (w.heap.size + 1) r' (pOb 65536 (⟨#[]⟩, 0) o).1 65536 (pOb 65536 (⟨#[]⟩, 0) o).2 ∧ Keep0 w w') := hB
  generalize pOb 65536 (⟨#[]⟩, 0) o = P at *
  have ye := fun W r' (h : Pen W (w.heap.size + 1) r' P.1 65536 P.2) => pend_any h
  generalize pEnd P.1 P.2 = PE at *
  clear he e1 e2 hpm hB hc ok hcap
  go_enter Tryz.func18, Tryz.ntmps18
  go_wp2_with fail
  generalize (w.alloc (.cells #[.string o.key, .slice ao o.l.length cap] 27)) = W0 at *
  obtain ⟨g, hg⟩ : ∃ g, w.heap.size = g := ⟨_, rfl⟩
  rw [hg] at q0 z0 yn ye HB ⊢
  refine yn.mono ?_
  rintro e w1 ⟨rfl, h1, k1⟩
  have K1 := k0.trans k1
  have yp := HB.out w1 h1 K1
  obtain ⟨x0, x1, f0, f1⟩ := (q0.keep0 k1).cells
  clear yn HB k0 k1 q0
  go_wp2_with fail
  refine yp.mono ?_
  rintro e w2 ⟨rfl, r2, h2, K2⟩
  have ye := ye _ _ h2
  clear yp K1 h1 x0 x1 f0 f1
  go_wp2_with fail
  refine ye.mono ?_
  rintro e w3 ⟨rfl, rfl⟩
  clear ye
  go_wp2
  go_ret2
  exact ⟨rfl, K2⟩
set_option maxRecDepth 100000 in
set_option maxHeartbeats 8000000 in
theorem decode16 (w : World) (s : ByteArray) (hs : s.size ≤ maxLen) :
    Calls Tryz.prog 19 #[.string s] w (RObE (decO s) w) := by
  have HE : Hid (∀ (W : World) (e : Ending) (E : Int), decO s = (zOb, E) → e = .returned (.tuple #[.agg #[.string ⟨#[]⟩, .slice none 0 0], .int .i64 E]) → Keep0 w W → RObE (decO s) w e W) := fun _ _ _ h1 h2 h3 => RObE.bare h1 h2 h3
  have HM : Hid (∀ (W : World) (e : Ending) (K : ByteArray) (L : List Pl) (ao : Option Addr) (cap : Nat), decO s = (⟨K, L.map Pl.x⟩, 0) → e = .returned (.tuple #[.agg #[.string K, .slice ao L.length cap], .int .i64 0]) → NewL w.heap.size W ao L → (L.length ≤ cap ∧ cap ≤ maxLen) → Keep0 w W → RObE (decO s) w e W) := fun _ _ _ _ _ _ h1 h2 h3 h3' h4 => RObE.mk h1 h2 h3 h3' h4
  have kA : Keep0 w (w.alloc (.cells #[.string ⟨#[]⟩, .slice none 0 0] 27)) := (Keep.refl _ w).alloc _
  have q2 : DAt (w.alloc (.cells #[.string ⟨#[]⟩, .slice none 0 0] 27)) w.heap.size (.string ⟨#[]⟩) (.slice none 0 0) := DAt.new w 27 (.string ⟨#[]⟩) (.slice none 0 0)
  have z1 : (w.alloc (.cells #[.string ⟨#[]⟩, .slice none 0 0] 27)).heap.size = w.heap.size + 1 := by rw [World.size_alloc]
  have yn := new_any (w.alloc (.cells #[.string ⟨#[]⟩, .slice none 0 0] 27)) s hs
  rw [z1] at yn
  have yt := fun W (h : Cur W (w.heap.size + 1) s 0 0) => take16 h
  rw [rX_yes] at yt
  have HD : Hid (if cEnd s (rOb s 0).2.1 (rOb s 0).2.2 = 0 then decO s = ((rOb s 0).1, 0) else decO s = (zOb, cEnd s (rOb s 0).2.1 (rOb s 0).2.2)) := by
    show if _ then _ else _
    unfold decO dec
    split <;> rfl
  have ye := fun (W : World) (h : Cur W (w.heap.size + 1) s (rOb s 0).2.1 (rOb s 0).2.2) => end_any h
  generalize hE : cEnd s (rOb s 0).2.1 (rOb s 0).2.2 = E at *
  obtain ⟨⟨OO, A, X⟩, hRV⟩ : ∃ RV, rOb s 0 = RV := ⟨_, rfl⟩
  rw [hRV] at yt ye HD
  clear hE hRV
  have ye : ∀ (W : World), Cur W (w.heap.size + 1) s A X → Calls Tryz.prog 47 #[ptr (w.heap.size + 1)] W fun e w' => e = .returned (.int .i64 E) ∧ Cur w' (w.heap.size + 1) s A E ∧ Keep1 (w.heap.size + 1) W w' := ye
  have HD : Hid (if E = 0 then decO s = (OO, 0) else decO s = (zOb, E)) := HD
  go_enter Tryz.func19, Tryz.ntmps19
  go_wp2_with fail
  generalize (w.alloc (.cells #[.string ⟨#[]⟩, .slice none 0 0] 27)) = W0 at *
  obtain ⟨g2, hg2⟩ : ∃ g2, w.heap.size = g2 := ⟨_, rfl⟩
  rw [hg2] at q2 z1 yn yt ye ⊢
  obtain ⟨gc, hgc⟩ : ∃ gc, g2 + 1 = gc := ⟨_, rfl⟩
  rw [hgc] at yn yt ye z1
  have n2 : g2 ≠ gc := by omega
  have HG : Hid (w.heap.size = g2 ∧ g2 + 1 = gc) := ⟨hg2, hgc⟩
  refine yn.mono ?_
  rintro e w0 ⟨rfl, c0, kn⟩
  have K0 := kA.trans kn
  have qn := q2.keep0 kn
  have sz0 := c0.lt
  have yt := yt _ c0
  clear yn kA kn q2 hs z1
  go_wp2_with fail
  refine yt.mono ?_
  rintro e w1 ⟨ao, cap, L, rfl, hL, c1, hN, hcp, k1⟩
  obtain ⟨K, l⟩ := OO
  have hL : L.map Pl.x = l := hL
  subst hL
  replace c1 : Cur w1 gc s A X := c1
  have el : (L.map Pl.x).length = L.length := List.length_map ..
  dsimp only
  rw [el]
  have HCP : Hid (L.length ≤ cap ∧ cap ≤ maxLen) := hcp
  clear hcp
  have K1 : Keep0 w w1 := K0.step k1 (fun i hi hh => by have := HG.out; omega)
  have q2a := qn.keep k1 n2
  have HNL : Hid (NewL (gc + 1) w1 ao L) := hN.lower (by omega)
  clear yt k1 K0 qn hN hg2 hgc el c0 sz0
  have kB : Keep0 w1 (w1.alloc (.cells #[.string K, .slice ao L.length cap] 27)) := (Keep.refl _ w1).alloc _
  have q3 := DAt.new w1 27 (.string K) (.slice ao L.length cap)
  have c2 := c1.keep0 kB
  have q2b := q2a.keep0 kB
  have HNL2 : Hid (NewL (gc + 1) (w1.alloc (.cells #[.string K, .slice ao L.length cap] 27)) ao L) := HNL.out.keep kB (fun _ _ f => f)
  have K2 := K1.trans kB
  have hlt := c1.lt
  have ye := ye _ c2
  clear kB c1 q2a HNL K1
  go_wp2_with fail
  generalize (w1.alloc (.cells #[.string K, .slice ao L.length cap] 27)) = W2 at *
  obtain ⟨g3, hg3⟩ : ∃ g3, w1.heap.size = g3 := ⟨_, rfl⟩
  rw [hg3] at q3 hlt ⊢
  have n3 : g3 ≠ gc := by omega
  refine ye.mono ?_
  rintro e w3 ⟨rfl, c3, k3⟩
  have K3 : Keep0 w w3 := K2.step k3 (fun i hi hh => by have := HG.out; omega)
  have q2c := q2b.keep k3 n2
  have q3c := q3.keep k3 n3
  have HNL3 : Hid (NewL (gc + 1) w3 ao L) := HNL2.out.keep k3 (fun g hg hh => by omega)
  clear ye k3 K2 q2b q3 HNL2 c2 c3 hg3 hlt
  obtain ⟨u0, u1, f0, f1⟩ := q2c.cells
  obtain ⟨t0, t1, h0, h1⟩ := q3c.cells
  by_cases hz : E = 0
  · have hd := HD.out
    rw [if_pos hz] at hd
    have HV : Hid (decO s = (⟨K, L.map Pl.x⟩, 0)) := hd
    subst hz
    clear hd HD HE
    go_wp2
    refine bodyPost_ret (retOb2 rfl _ _ _ rfl (q2c.put (.string K) (.slice ao L.length cap))) rfl ?_
    exact HM.out _ _ K L ao cap HV.out rfl ((HNL3.out.keep (put2_keep _ _ _ _) (fun g hg hh => by have := HG.out; omega)).lower (by have := HG.out; omega)) HCP.out (K3.step (put2_keep _ _ _ _) (fun i hi hh => by have := HG.out; omega))
  · have hd := HD.out
    rw [if_neg hz] at hd
    have HV : Hid (decO s = (zOb, E)) := hd
    have e0 : (E != 0) = true := by simpa using hz
    clear hd HD HM hz
    go_wp2
    refine bodyPost_ret (retOb2 rfl _ _ _ rfl (q2c.put (.string ⟨#[]⟩) (.slice none 0 0))) rfl ?_
    exact HE.out _ _ _ HV.out rfl (K3.step (put2_keep _ _ _ _) (fun i hi hh => by have := HG.out; omega))
end Go.Proofs.YtoefibkhlhmlfaaGreat
