/-
  What this seat's claims lean on of the texts Sorts16.
  Conditions: as each theorem states.
-/
import Derived.WalkKit
import Derived.ProofKit
import Derived.Below
import Derived.Deep.Draws
import Derived.Deep.RegionHeld
import Derived.Test.YteonkfedgopdiaaGreatChecked
import Derived.OpenShut
import Derived.ShutString
import Derived.WalkSpells
import Derived.WalkLawsBesides
import Derived.Deep.QuietTactic
import Derived.BigQuiet
import Derived.Laws.Bits64b
import Derived.PlainAid
import Derived.Lib.AppendStr
import Derived.Deep.AppendLies
import Derived.Laws.IdiomStrings
import Derived.Laws.BytesArg
import Derived.Deep.RegionWith
import Derived.Laws.AppendOwn
import Derived.Deep.DeepAppendWide
import Derived.Deep.Upon
import Derived.Maps.AppendAt
import Derived.Laws.Rows
import Derived.Deep.Slices
import Derived.Deep.CutRange
import Derived.Deep.RegionLaw
import Derived.Test.YteonkfedgopdiaaGreatY43
import Derived.Test.YteonkfedgopdiaaGreatY1
import Derived.Test.YteonkfedgopdiaaGreatY31
namespace Go.Proofs.YteonkfedgopdiaaGreat
open Go.RowKit
theorem RObS.out {key : ByteArray} {l : List Sb} {Q : Ob} {E : Int} (h : oSort key l = (Q, E)) {w w' : World} {e : Ending} (h1 : RObS (oSort key l) w e w') : ∃ ao cap, e = .returned (.tuple #[.agg #[.string Q.key, .slice ao Q.l.length cap], .int .i64 E]) ∧ SibsAt w' ao Q.l ∧ Keep0 w w' := by
  rw [h] at h1
  obtain ⟨ao, cap, L, h1, h2, h3, _, _, h5⟩ := h1
  have h2 : L.map Pl.x = Q.l := h2
  exact ⟨ao, cap, h1, by rw [← h2]; exact h3.sibs, h5⟩
theorem oSort_ok {key : ByteArray} {l : List Sb} (h : Ok16 ⟨key, l⟩) : Ok16 (oSort key l).1 := by
  by_cases h0 : (oSort key l).2 = 0
  · obtain ⟨_, h2, h3⟩ := oSort_good h0
    refine ⟨by rw [h3]; exact h.key, by rw [h2.length_eq]; exact h.len, fun x hx => h.sib x (h2.mem_iff.1 hx)⟩
  · have : (oSort key l).1 = zOb := by
      unfold oSort at h0 ⊢
      split at h0
      · rename_i a
        rw [if_pos a]
        split at h0
        · rename_i b
          rw [if_pos b]
          split at h0
          · exact absurd rfl h0
          · rename_i c
            rw [if_neg c]
        · rename_i b
          rw [if_neg b]
      · rename_i a
        rw [if_neg a]
    rw [this]
    exact zOb_ok
theorem great_ok {key : ByteArray} {l : List Sb} (hf : ∀ x ∈ l, FitsS x) (h : oGreat ⟨key, l⟩ = false) : Ok16 ⟨key, l⟩ ∧ l.length ≤ 20 := by
  obtain ⟨h1, h2, h3⟩ := oGreat_no h
  have h1 : key.size ≤ 200 := h1
  have h2 : l.length ≤ 20 := h2
  exact ⟨⟨by show key.size ≤ 1000000; omega, by show l.length ≤ 100; omega, fun x hx => sGreat_ok (hf x hx) (h3 x hx)⟩, h2⟩
set_option maxRecDepth 100000 in
set_option maxHeartbeats 8000000 in
theorem objectSorts_pl (V : ObCode) (w : World) (key : ByteArray) (hk : key.size ≤ maxLen) (ao : Option Addr) (cap : Nat) (LP : List Pl) (hl : LP.length ≤ maxLen) (hcp : LP.length ≤ cap ∧ cap ≤ maxLen) (hf : ∀ p ∈ LP, FitsS p.x) (hc : PlsAt w ao LP) (tn : Nat) (htn : tn < 256) (mx : Int) (hmx : mx ≤ 9223372036854775807) :
    Calls Tryz.prog 5 #[.string key, .slice ao LP.length cap, .int .u8 (tn : Int), .int .i64 mx] w fun e w' => e = .returned (.bool true) ∧ Keep0 w w' := by
  have HCP0 : Hid (LP.length ≤ cap ∧ cap ≤ maxLen) := hcp
  have i0 : (LP.length : Int) ≤ 9223372036854775807 := by unfold maxLen at hl; omega
  have hfm : ∀ x ∈ (LP.map Pl.x), FitsS x := fun x hx => by
    obtain ⟨p, hp, rfl⟩ := List.mem_map.1 hx
    exact hf p hp
  have elm : (LP.map Pl.x).length = LP.length := List.length_map ..
  have yg := fun W (K : Keep0 w W) => rgreat16_any W ao cap key (LP.map Pl.x) hk (by rw [elm]; exact hl) hfm (hc.keep0 K).sibs
  rw [elm] at yg
  have HC : Hid (PlsAt w ao LP) := hc
  have HF : Hid (∀ p ∈ LP, FitsS p.x) := hf
  have HCp : Hid (LP.length ≤ cap ∧ cap ≤ maxLen) := hcp
  have yp := fun W => pnew_any W mx hmx
  have yq := fun W => rpnew_any W mx
  obtain ⟨M, hM⟩ : ∃ M, pMax mx = M := ⟨_, rfl⟩
  rw [hM] at yp yq
  clear hM hcp hf hc hmx
  go_enter Tryz.func5, Tryz.ntmps5
  go_wp2_with fail
  refine (awake16 V w).mono ?_
  rintro e w1 ⟨rfl, K1⟩
  have kB : Keep0 w1 (w1.alloc (.cells #[.string key, .slice ao LP.length cap] 24)) := (Keep.refl _ _).alloc _
  have hX := DAt.new w1 24 (.string key) (.slice ao LP.length cap)
  have K2 := K1.trans kB
  have hgw := K1.size
  have yg := yg _ K2
  obtain ⟨a0, a1, af0, af1⟩ := hX.cells
  clear kB K1
  go_wp2_with fail
  generalize (w1.alloc (.cells #[.string key, .slice ao LP.length cap] 24)) = w2 at *
  generalize w1.heap.size = g9 at *
  cases hg : oGreat ⟨key, (LP.map Pl.x)⟩ with
  | true =>
    rw [hg] at yg
    clear yp yq hfm hg
    refine yg.mono ?_
    rintro e w3 ⟨rfl, k3⟩
    have K3 := K2.trans k3
    clear yg k3 K2 a0 a1 af0 af1
    go_wp2
    go_ret
    exact ⟨rfl, K3⟩
  | false =>
    rw [hg] at yg
    obtain ⟨hok, hl20⟩ := great_ok hfm hg
    rw [elm] at hl20
    have HOk : Hid (Ok16 ⟨key, (LP.map Pl.x)⟩) := hok
    have hps := pOb_size M (⟨#[]⟩, 0) (o := ⟨key, (LP.map Pl.x)⟩) hok.u
    have yv := fun W b r (K : Keep0 w W) (h : Pen W b r ⟨#[]⟩ M 0) (hb : w.heap.size ≤ b) (hr : w.heap.size ≤ r) => V.put ao cap ⟨key, (LP.map Pl.x)⟩ h (by show 0 ≤ 1000000; omega) HOk.out (by show (LP.map Pl.x).length ≤ cap ∧ _; rw [elm]; exact HCP0.out) (SibsBy.old HC.out.sibs K hb hr)
    have yw := fun W b (K : Keep0 w W) (h : RPen W b ⟨#[]⟩ M 0) (hb : w.heap.size ≤ b) => rput16_any h (by show 0 ≤ 700000000; omega) ao cap key (LP.map Pl.x) hk (by rw [elm]; exact hl) hfm (SibsOff.old HC.out.sibs K hb)
    have yk := fun W la lc (h : SibsAt W la (LP.map Pl.x)) (h1 : LP.length ≤ lc) (h2 : lc ≤ maxLen) => V.sort W key la lc (LP.map Pl.x) HOk.out h (by rw [elm]; exact h1) h2
    have yr := fun W (K : Keep0 w W) => rsort16_pl W key hk ao cap LP hl HF.out (HC.out.keep0 K)
    obtain ⟨⟨P, X⟩, hP⟩ : ∃ P, pOb M (⟨#[]⟩, 0) ⟨key, (LP.map Pl.x)⟩ = P := ⟨_, rfl⟩
    obtain ⟨⟨Q, E⟩, hQ⟩ : ∃ Q, oSort key (LP.map Pl.x) = Q := ⟨_, rfl⟩
    rw [hP] at yv yw hps
    have hps : P.size ≤ 5000000 := by have : P.size ≤ 0 + 5000000 := hps; omega
    have j1 : (P.size : Int) ≤ 9223372036854775807 := by omega
    have okQ : Ok16 Q := by have := oSort_ok hok; rw [hQ] at this; exact this
    simp only [elm] at yv yw yk
    have yv : ∀ W b r, Keep0 w W → Pen W b r ⟨#[]⟩ M 0 → w.heap.size ≤ b → w.heap.size ≤ r → Calls Tryz.prog 25 #[pptr b, .agg #[.string key, .slice ao LP.length cap]] W fun e w' => e = .returned (.tuple #[]) ∧ PenAfter W w' b r M (P, X) := yv
    have yw : ∀ W b, Keep0 w W → RPen W b ⟨#[]⟩ M 0 → w.heap.size ≤ b → Calls Tryz.prog 26 #[pptr b, .agg #[.string key, .slice ao LP.length cap]] W fun e w' => e = .returned (.tuple #[]) ∧ RPen w' b P M X ∧ Keep1 b W w' := yw
    have yk : ∀ W la lc, SibsAt W la (LP.map Pl.x) → LP.length ≤ lc → lc ≤ maxLen → Calls Tryz.prog 30 #[.string key, .slice la LP.length lc] W fun e w' => ∃ ao cap, e = .returned (.tuple #[.agg #[.string Q.key, .slice ao Q.l.length cap], .int .i64 E]) ∧ SibsAt w' ao Q.l ∧ Keep0 W w' := fun W la lc h h1 h2 => (yk W la lc h h1 h2).mono (fun _ _ h => RObS.out hQ h)
    have yr : ∀ W, Keep0 w W → Calls Tryz.prog 31 #[.string key, .slice ao LP.length cap] W fun e w' => ∃ ao cap, e = .returned (.tuple #[.agg #[.string Q.key, .slice ao Q.l.length cap], .int .i64 E]) ∧ SibsAt w' ao Q.l ∧ Keep0 W w' := fun W K => (yr W K).mono (fun _ _ h => RObS.out hQ h)
    have ysm := fun W ao cap bo cb (h : SibsAt W ao Q.l) (h' : SibsAt W bo Q.l) => rsame16 W ao cap Q bo cb Q okQ.fit okQ.fit h h'
    rw [oSame_iff.2 rfl] at ysm
    have yck := fun W ao cap (h : SibsAt W ao Q.l) => rcheck16 W ao cap Q okQ.fit h
    have HPerm : Hid (E = 0 → oCheck Q = 0 ∧ (0 < LP.length) ∧ ∀ m : List Sb, m.Perm (LP.map Pl.x) → oSort key m = (Q, 0)) := by
      intro h0
      have h1 : (oSort key (LP.map Pl.x)).2 = 0 := by rw [hQ]; exact h0
      obtain ⟨g1, g2, g3⟩ := oSort_good h1
      rw [hQ] at g1 g2 g3
      refine ⟨g1, ?_, fun m hm => by rw [oSort_perm h1 hm, hQ, h0]⟩
      have := (outS_zero.1 (oCheck_zero.1 g1).1).2.2.1
      have e := g2.length_eq
      rw [elm] at e
      show 0 < LP.length
      have this : 0 < Q.l.length := this
      have e : Q.l.length = LP.length := e
      omega
    have HK2 : Hid (E = 0 → ∀ (L2 : List Pl) (W : World) (la : Option Addr) (lc : Nat), L2.Perm LP → PlsAt W la L2 → L2.length ≤ lc → lc ≤ maxLen → Calls Tryz.prog 30 #[.string key, .slice la L2.length lc] W fun e w' => ∃ ao cap, e = .returned (.tuple #[.agg #[.string Q.key, .slice ao Q.l.length cap], .int .i64 0]) ∧ SibsAt w' ao Q.l ∧ Keep0 W w') := by
      intro h0 L2 W la lc hp hP2 h1 h2
      have hm : (L2.map Pl.x).Perm (LP.map Pl.x) := hp.map _
      have hok2 : Ok16 ⟨key, L2.map Pl.x⟩ := ⟨hok.key, by show (L2.map Pl.x).length ≤ 100; rw [hm.length_eq]; exact hok.len, fun x hx => hok.sib x (hm.mem_iff.1 hx)⟩
      have := V.sort W key la lc (L2.map Pl.x) hok2 hP2.sibs (by rw [List.length_map]; exact h1) h2
      rw [List.length_map] at this
      exact this.mono (fun _ _ h => RObS.out ((HPerm.out h0).2.2 _ hm) h)
    clear hps hP okQ hg hok hfm hQ
    refine yg.mono ?_
    rintro e w3 ⟨rfl, k3⟩
    have K3 := K2.trans k3
    have hX3 := hX.keep0 k3
    have hgz := hX3.lt
    clear yg k3 K2 a0 a1 af0 af1 hX
    go_wp2_with fail
    refine (yp w3).mono ?_
    rintro e w4 ⟨rfl, p4, k4⟩
    have K4 := K3.trans k4
    have hX4 := hX3.keep0 k4
    have hpb := p4.lt
    generalize hgp : w3.heap.size = pb at *
    clear yp k4 K3 hX3
    go_wp2_with fail
    refine (yq w4).mono ?_
    rintro e w5 ⟨rfl, y5, k5⟩
    have p5 := p4.keep0 k5
    have K5 := K4.trans k5
    have hX5 := hX4.keep0 k5
    have hyb := y5.lt
    generalize hgy : w4.heap.size = yb at *
    have HB : Hid (w.heap.size ≤ g9 ∧ g9 < pb ∧ pb < yb) := ⟨by omega, by omega, by omega⟩
    have yv := yv w5 pb pb K5 p5 (by omega) (by omega)
    obtain ⟨a0, a1, af0, af1⟩ := hX5.cells
    clear yq p4 K4 k5 hX4 hgp hgy hgw hgz
    go_wp2_with fail
    refine yv.mono ?_
    rintro e w6 ⟨rfl, r', p6, k6, hr6⟩
    have b1 := HB.out
    have y6 := y5.keep k6 (by unfold two; omega)
    have K6 : Keep0 w w6 := K5.step k6 (fun i hi hh => by unfold two at hh; omega)
    have hX6 := hX5.keep k6 (by unfold two; omega)
    have hr' : r' ≠ yb := by rcases hr6 with h | h <;> omega
    have yw := yw w6 yb K6 y6 (by omega)
    obtain ⟨a0, a1, af0, af1⟩ := hX6.cells
    clear yv k6 hr6 p5 K5 hX5 y5 y6
    go_wp2_with fail
    refine yw.mono ?_
    rintro e w7 ⟨rfl, y7, k7⟩
    have p7 := p6.keep k7 (by omega) hr'
    have K7 : Keep0 w w7 := K6.step k7 (fun i hi hh => by omega)
    have ye := pend_any p7
    clear yw k7 p6 K6 hX6 a0 a1 af0 af1 hr'
    go_wp2_with fail
    refine ye.mono ?_
    rintro e w8 ⟨rfl, rfl⟩
    have yf := rpend_any y7
    clear ye
    go_wp2_with fail
    refine yf.mono ?_
    rintro e w9 ⟨rfl, hw9⟩
    have k9 := keepN hw9
    have p9 := p7.keep0 k9
    have y9 := y7.keep0 k9
    have HK9 : Hid (Keep0 w w9) := K7.trans k9
    obtain ⟨q0, q1, q2, q3, q4⟩ := y9.cells
    clear yf hw9 k9 p7 y7 K7 q1 q2 q3 q4 b1
    generalize pEnd P X = PE at *
    go_wp2_with fail
    go_quiet ((go_at_call 29; exact plen_q p9))
    have HKA : Hid (Keep0 w (w9.drewN nq)) := HK9.out.drewN nq
    clear HK9 q0 p9 y9
    generalize (w9.drewN nq) = wA at *
    have kE : Keep0 wA (wA.alloc (.cells #[] 44)) := (Keep.refl _ _).alloc _
    have hrow : (wA.alloc (.cells #[] 44)).ownsRow wA.heap.size 44 7 (.slice (some ⟨wA.heap.size, 0, none⟩) 0 0) ([] : List Pl).length (rowOf Pl.cells []) := row_made wA 44
    have hsrc : RowAt Pl.cells 7 (wA.alloc (.cells #[] 44)) ao LP := HC.out.row.keep0 (HKA.out.trans kE)
    have hB : wA.heap.size ≤ (wA.alloc (.cells #[] 44)).heap.size := kE.size
    have hlen : ([] : List Pl).length + LP.length ≤ 1000000 := by show 0 + _ ≤ _; omega
    have HkE : Hid (Keep0 wA (wA.alloc (.cells #[] 44))) := kE
    clear kE
    go_wp2_with (at_builtin; refine wpList_append_row_at (l := []) plT rfl _ _ rfl rfl rfl hrow hsrc hB hlen ?_)
    intro vl wB g1 g2 g3
    have g1 : wB.ownsRow wA.heap.size 44 7 vl LP.length (rowOf Pl.cells LP) := by simpa using g1
    obtain ⟨la, lc, rfl, h1, h2, h3, h4⟩ := row_of_own plT.len plT.pos g1
    have KB : Keep0 w wB := (HKA.out.trans HkE.out).step (keep_grown g2) (fun i hi e => by have := (hrow.lt _ e).1; have := HKA.out.size; omega)
    have hPl : PlsAt wB la LP := ⟨h1, fun p hp => SibIn.keep0 (HC.out.ins p hp) KB⟩
    have yk1 := yk wB la lc hPl.sibs h3 h4
    clear g1 g2 g3 h1 h2 h3 h4 hrow hsrc hB hlen HkE HKA
    go_wp2_with fail
    refine yk1.mono ?_
    rintro e wC ⟨xo, xc, rfl, xs, kc⟩
    have kD : Keep0 wC (wC.alloc (.cells #[.string Q.key, .slice xo Q.l.length xc] 24)) := (Keep.refl _ _).alloc _
    have hX := DAt.new wC 24 (.string Q.key) (.slice xo Q.l.length xc)
    have KD := (KB.trans kc).trans kD
    have hPl := (hPl.keep0 kc).keep0 kD
    have xs := xs.keep0 kD
    clear kc kD KB yk1
    go_wp2_with fail
    generalize (wC.alloc (.cells #[.string Q.key, .slice xo Q.l.length xc] 24)) = wD at *
    generalize wC.heap.size = g17 at *
    refine (yr wD KD).mono ?_
    rintro e wE ⟨zo, zc, rfl, zs, ke⟩
    have kF : Keep0 wE (wE.alloc (.cells #[.string Q.key, .slice zo Q.l.length zc] 24)) := (Keep.refl _ _).alloc _
    have hZ := DAt.new wE 24 (.string Q.key) (.slice zo Q.l.length zc)
    have KF := (KD.trans ke).trans kF
    have hX := (hX.keep0 ke).keep0 kF
    have hPl := (hPl.keep0 ke).keep0 kF
    have xs := (xs.keep0 ke).keep0 kF
    have zs := zs.keep0 kF
    obtain ⟨a0, a1, af0, af1⟩ := hX.cells
    obtain ⟨b0, b1, bf0, bf1⟩ := hZ.cells
    clear ke kF KD
    go_wp2_with fail
    generalize (wE.alloc (.cells #[.string Q.key, .slice zo Q.l.length zc] 24)) = wF at *
    generalize wE.heap.size = g18 at *
    refine (ysm wF xo xc zo zc xs zs).mono ?_
    rintro e wG ⟨rfl, kg⟩
    have HKG : Hid (Keep0 w wG) := KF.trans kg
    have HXG : Hid (DAt wG g17 (.string Q.key) (.slice xo Q.l.length xc)) := hX.keep0 kg
    have HPlG : Hid (PlsAt wG la LP) := hPl.keep0 kg
    have HxG : Hid (SibsAt wG xo Q.l) := xs.keep0 kg
    clear kg KF hX hZ hPl xs zs a0 a1 af0 af1 b0 b1 bf0 bf1 yr
    go_wp2_with fail
    go_loopw [19] (fun i wr => ∃ (k : Nat), i = .int .i64 (k : Int) ∧ k ≤ LP.length ∧ Hid (Keep0 wG wr)) (fun i _ => LP.length - (intOf i).toNat)
    case atStart => exact ⟨0, rfl, Nat.zero_le _, Keep.refl _ _⟩
    case round =>
      obtain ⟨k, rfl, hkl, HKr⟩ := hrel
      by_cases hlt : k < LP.length
      · have i1 : (k : Int) < LP.length := by omega
        obtain ⟨b1, o1, ela, s1, s2⟩ := (HPlG.out.keep0 HKr.out).at_ k hlt
        obtain ⟨b2, o2, eao, s3, s4⟩ := ((HC.out.keep0 HKG.out).keep0 HKr.out).at_ k hlt
        have hfk := HF.out _ (List.getElem_mem hlt)
        have HS : Hid (SibIn wr LP[k].vo LP[k].po LP[k].pc LP[k].x) := s2
        have ysb := fun W (K : Keep0 wr W) => rsame15 W LP[k].vo LP[k].vc LP[k].po LP[k].pc LP[k].x LP[k].vo LP[k].vc LP[k].po LP[k].pc LP[k].x hfk hfk (HS.out.keep0 K) (HS.out.keep0 K)
        rw [sSame_iff.2 rfl] at ysb
        obtain ⟨c0, c1, c2, c3, c4, c5, c6⟩ := s1
        obtain ⟨d0, d1, d2, d3, d4, d5, d6⟩ := s3
        subst ela
        subst eao
        clear s2 s4 hfk HS
        generalize LP[k] = PK at *
        go_wp2_with fail
        have KD : Keep0 wr wr.drew := (Keep.refl _ wr).drew
        have z0 : wr.drew.cell? ⟨b1, o1 + k * 7, none⟩ = some (.slice PK.vo PK.x.k.c.length PK.vc) := KD.cell c0 (fun f => f)
        have z1 : wr.drew.cell? ⟨b1, o1 + k * 7 + 1, none⟩ = some (.bool PK.x.k.d) := KD.cell c1 (fun f => f)
        have z2 : wr.drew.cell? ⟨b1, o1 + k * 7 + 2, none⟩ = some (.string PK.x.k.x.a) := KD.cell c2 (fun f => f)
        have z3 : wr.drew.cell? ⟨b1, o1 + k * 7 + 3, none⟩ = some (.int .u64 (PK.x.k.x.n : Int)) := KD.cell c3 (fun f => f)
        have z4 : wr.drew.cell? ⟨b1, o1 + k * 7 + 4, none⟩ = some (.slice PK.po PK.x.m.length PK.pc) := KD.cell c4 (fun f => f)
        have z5 : wr.drew.cell? ⟨b1, o1 + k * 7 + 5, none⟩ = some (.bool PK.x.d) := KD.cell c5 (fun f => f)
        have z6 : wr.drew.cell? ⟨b1, o1 + k * 7 + 6, none⟩ = some (.string PK.x.v) := KD.cell c6 (fun f => f)
        have z7 : wr.drew.cell? ⟨b2, o2 + k * 7, none⟩ = some (.slice PK.vo PK.x.k.c.length PK.vc) := KD.cell d0 (fun f => f)
        have z8 : wr.drew.cell? ⟨b2, o2 + k * 7 + 1, none⟩ = some (.bool PK.x.k.d) := KD.cell d1 (fun f => f)
        have z9 : wr.drew.cell? ⟨b2, o2 + k * 7 + 2, none⟩ = some (.string PK.x.k.x.a) := KD.cell d2 (fun f => f)
        have z10 : wr.drew.cell? ⟨b2, o2 + k * 7 + 3, none⟩ = some (.int .u64 (PK.x.k.x.n : Int)) := KD.cell d3 (fun f => f)
        have z11 : wr.drew.cell? ⟨b2, o2 + k * 7 + 4, none⟩ = some (.slice PK.po PK.x.m.length PK.pc) := KD.cell d4 (fun f => f)
        have z12 : wr.drew.cell? ⟨b2, o2 + k * 7 + 5, none⟩ = some (.bool PK.x.d) := KD.cell d5 (fun f => f)
        have z13 : wr.drew.cell? ⟨b2, o2 + k * 7 + 6, none⟩ = some (.string PK.x.v) := KD.cell d6 (fun f => f)
        refine wp_region_held_drew (S := (fun W => W.cell? ⟨b1, o1 + k * 7, none⟩ = some (.slice PK.vo PK.x.k.c.length PK.vc) ∧ W.cell? ⟨b1, o1 + k * 7 + 1, none⟩ = some (.bool PK.x.k.d) ∧ W.cell? ⟨b1, o1 + k * 7 + 2, none⟩ = some (.string PK.x.k.x.a) ∧ W.cell? ⟨b1, o1 + k * 7 + 3, none⟩ = some (.int .u64 (PK.x.k.x.n : Int)) ∧ W.cell? ⟨b1, o1 + k * 7 + 4, none⟩ = some (.slice PK.po PK.x.m.length PK.pc) ∧ W.cell? ⟨b1, o1 + k * 7 + 5, none⟩ = some (.bool PK.x.d) ∧ W.cell? ⟨b1, o1 + k * 7 + 6, none⟩ = some (.string PK.x.v) ∧ W.cell? ⟨b2, o2 + k * 7, none⟩ = some (.slice PK.vo PK.x.k.c.length PK.vc) ∧ W.cell? ⟨b2, o2 + k * 7 + 1, none⟩ = some (.bool PK.x.k.d) ∧ W.cell? ⟨b2, o2 + k * 7 + 2, none⟩ = some (.string PK.x.k.x.a) ∧ W.cell? ⟨b2, o2 + k * 7 + 3, none⟩ = some (.int .u64 (PK.x.k.x.n : Int)) ∧ W.cell? ⟨b2, o2 + k * 7 + 4, none⟩ = some (.slice PK.po PK.x.m.length PK.pc) ∧ W.cell? ⟨b2, o2 + k * 7 + 5, none⟩ = some (.bool PK.x.d) ∧ W.cell? ⟨b2, o2 + k * 7 + 6, none⟩ = some (.string PK.x.v))) (by kernel_rfl) ⟨z0, z1, z2, z3, z4, z5, z6, z7, z8, z9, z10, z11, z12, z13⟩ (fun hHeld => ?_)
        refine wpAnyH_take (i := 0) (v := ?t0v) (by simp only [List.getElem?_toArray, List.getElem?_cons_zero] <;> rfl) (by kernel_rfl) (by kernel_rfl) (by kernel_rfl) (by exact fun _ _ _ h => h) (Or.inl ⟨by rfl, ?t0y⟩) hHeld ?t0r
        case t0y => intro w hSw; (try dsimp only at hSw); go_simp <;> rfl
        simp only [Act.put, List.setIfInBounds_toArray, List.set_cons_zero, List.set_cons_succ]
        refine wpAnyH_take (i := 1) (v := ?t1v) (by simp only [List.getElem?_toArray, List.getElem?_cons_succ, List.getElem?_cons_zero] <;> rfl) (by kernel_rfl) (by kernel_rfl) (by kernel_rfl) (by exact fun _ _ _ h => h) (Or.inl ⟨by rfl, ?t1y⟩) hHeld ?t1r
        case t1y => intro w hSw; (try dsimp only at hSw); go_simp <;> rfl
        simp only [Act.put, List.setIfInBounds_toArray, List.set_cons_zero, List.set_cons_succ]
        refine wpAnyH_take (i := 2) (v := ?t2v) (by simp only [List.getElem?_toArray, List.getElem?_cons_succ, List.getElem?_cons_zero] <;> rfl) (by kernel_rfl) (by kernel_rfl) (by kernel_rfl) (by exact fun _ _ _ h => h) (Or.inl ⟨by rfl, ?t2y⟩) hHeld ?t2r
        case t2y => intro w hSw; (try dsimp only at hSw); go_simp <;> rfl
        simp only [Act.put, List.setIfInBounds_toArray, List.set_cons_zero, List.set_cons_succ]
        refine wpAnyH_take (i := 3) (v := ?t3v) (by simp only [List.getElem?_toArray, List.getElem?_cons_succ, List.getElem?_cons_zero] <;> rfl) (by kernel_rfl) (by kernel_rfl) (by kernel_rfl) (by exact fun _ _ _ h => h) (Or.inl ⟨by rfl, ?t3y⟩) hHeld ?t3r
        case t3y => intro w hSw; (try dsimp only at hSw); go_simp <;> rfl
        simp only [Act.put, List.setIfInBounds_toArray, List.set_cons_zero, List.set_cons_succ]
        refine wpAnyH_take (i := 4) (v := ?t4v) (by simp only [List.getElem?_toArray, List.getElem?_cons_succ, List.getElem?_cons_zero] <;> rfl) (by kernel_rfl) (by kernel_rfl) (by kernel_rfl) (by exact fun _ _ _ h => h) (Or.inl ⟨by rfl, ?t4y⟩) hHeld ?t4r
        case t4y => intro w hSw; (try dsimp only at hSw); go_simp <;> rfl
        simp only [Act.put, List.setIfInBounds_toArray, List.set_cons_zero, List.set_cons_succ]
        refine wpAnyH_take (i := 5) (v := ?t5v) (by simp only [List.getElem?_toArray, List.getElem?_cons_succ, List.getElem?_cons_zero] <;> rfl) (by kernel_rfl) (by kernel_rfl) (by kernel_rfl) (by exact fun _ _ _ h => h) (Or.inl ⟨by rfl, ?t5y⟩) hHeld ?t5r
        case t5y => intro w hSw; (try dsimp only at hSw); go_simp <;> rfl
        simp only [Act.put, List.setIfInBounds_toArray, List.set_cons_zero, List.set_cons_succ]
        refine wpAnyH_take (i := 6) (v := ?t6v) (by simp only [List.getElem?_toArray, List.getElem?_cons_succ, List.getElem?_cons_zero] <;> rfl) (by kernel_rfl) (by kernel_rfl) (by kernel_rfl) (by exact fun _ _ _ h => h) (Or.inl ⟨by rfl, ?t6y⟩) hHeld ?t6r
        case t6y => intro w hSw; (try dsimp only at hSw); go_simp <;> rfl
        simp only [Act.put, List.setIfInBounds_toArray, List.set_cons_zero, List.set_cons_succ]
        refine wpAnyH_take (i := 7) (v := ?t7v) (by simp only [List.getElem?_toArray, List.getElem?_cons_succ, List.getElem?_cons_zero] <;> rfl) (by kernel_rfl) (by kernel_rfl) (by kernel_rfl) (by exact fun _ _ _ h => h) (Or.inl ⟨by rfl, ?t7y⟩) hHeld ?t7r
        case t7y => intro w hSw; (try dsimp only at hSw); go_simp <;> rfl
        simp only [Act.put, List.setIfInBounds_toArray, List.set_cons_zero, List.set_cons_succ]
        refine wpAnyH_ready (rs := [8]) (by kernel_rfl) (by simp) ?_
        refine AllReadyH.cons (by simp only [List.getElem?_toArray, List.getElem?_cons_succ, List.getElem?_cons_zero] <;> rfl) (fun K hK => ?_) AllReadyH.nil
        go_simp
        refine (ysb _ KD).mono ?_
        rintro e W3 ⟨rfl, k3⟩
        go_wp2_with fail
        refine hK.out _ _ ⟨k3.cell z0 (fun f => f), k3.cell z1 (fun f => f), k3.cell z2 (fun f => f), k3.cell z3 (fun f => f), k3.cell z4 (fun f => f), k3.cell z5 (fun f => f), k3.cell z6 (fun f => f), k3.cell z7 (fun f => f), k3.cell z8 (fun f => f), k3.cell z9 (fun f => f), k3.cell z10 (fun f => f), k3.cell z11 (fun f => f), k3.cell z12 (fun f => f), k3.cell z13 (fun f => f)⟩ (fun hHeld => ?_)
        clear hK K
        refine wpAnyH_take (i := 9) (v := ?t8v) (by simp only [List.getElem?_toArray, List.getElem?_cons_succ, List.getElem?_cons_zero] <;> rfl) (by kernel_rfl) (by kernel_rfl) (by kernel_rfl) (by exact fun _ _ _ h => h) (Or.inl ⟨by rfl, ?t8y⟩) hHeld ?t8r
        case t8y => intro w hSw; (try dsimp only at hSw); go_simp <;> rfl
        simp only [Act.put, List.setIfInBounds_toArray, List.set_cons_zero, List.set_cons_succ]
        refine wpAnyH_done (by kernel_rfl) ?_ _
        clear hHeld
        have HK3 : Hid (Keep0 wG W3) := (HKr.out.trans KD).trans k3
        clear KD k3 ysb z0 z1 z2 z3 z4 z5 z6 z7 z8 z9 z10 z11 z12 z13 c0 c1 c2 c3 c4 c5 c6 d0 d1 d2 d3 d4 d5 d6
        go_wp2
        go_roundw
        case rel => exact ⟨k + 1, by go_num, by omega, HK3⟩
        case measure => simp [intOf]; omega
      have i1 : ¬ (k : Int) < LP.length := by omega
      have HKw : Hid (Keep0 w wr) := HKG.out.trans HKr.out
      have HXr : Hid (DAt wr g17 (.string Q.key) (.slice xo Q.l.length xc)) := HXG.out.keep0 HKr.out
      have Hxr : Hid (SibsAt wr xo Q.l) := HxG.out.keep0 HKr.out
      clear HKG HXG HPlG HxG HKr hkl hlt
      by_cases hE : E = 0
      case neg =>
        have e0 : (E != 0) = true := by simpa using hE
        have e1 : ¬ E = 0 := hE
        clear hE HPerm
        go_wp2
        go_ret
        exact ⟨rfl, HKw.out⟩
      obtain ⟨hQ0, hn0, hpm⟩ := HPerm.out hE
      subst hE
      have HPm : Hid (∀ m : List Sb, m.Perm (LP.map Pl.x) → oSort key m = (Q, 0)) := hpm
      have hkk : tn % LP.length < LP.length := Nat.mod_lt _ hn0
      have hmod : Int.tmod (tn : Int) (LP.length : Int) = ((tn % LP.length : Nat) : Int) := rfl
      obtain ⟨kk, hk2⟩ : ∃ kk, tn % LP.length = kk := ⟨_, rfl⟩
      rw [hk2] at hkk hmod
      have m0 : ¬ (LP.length : Int) = 0 := by omega
      have m1 : IntKind.i64.wrap (kk : Int) = (kk : Int) := by rw [IntKind.wrap_i64]; omega
      have m2 : IntKind.i64.wrap (tn : Int) = (tn : Int) := by rw [IntKind.wrap_i64]; omega
      have m3 : ¬ LP.length = 0 := by omega
      have yk2 := HK2.out rfl
      rw [hQ0] at yck
      obtain ⟨ab, af, eao, _, _⟩ := HC.out.at_ 0 hn0
      subst eao
      have hcap1 := HCp.out.1
      have hcap2 := HCp.out.2
      obtain ⟨A2, hA2, hRA⟩ : ∃ A, (if cap = kk then some (⟨ab, af, none⟩ : Addr) else some ⟨ab, af + kk * 7, none⟩) = A ∧ RowAt Pl.cells 7 wr A (LP.drop kk) := by
        have hrw := (HC.out.keep0 HKw.out).row
        by_cases h : cap = kk
        · exact absurd hkk (by omega)
        · exact ⟨_, if_neg h, hrw.drop kk⟩
      have HRA : Hid (RowAt Pl.cells 7 wr A2 (LP.drop kk)) := hRA
      have HRB : Hid (RowAt Pl.cells 7 wr (some ⟨ab, af, none⟩) (LP.take kk)) := (HC.out.keep0 HKw.out).row.take kk
      have m4 : (0 : Int) ≤ (kk : Int) := by omega
      have m5 : (kk : Int) ≤ (LP.length : Int) := by omega
      have m6 : (kk : Int) ≤ (cap : Int) := by omega
      have m7 : kk ≤ LP.length := by omega
      have m8 : kk ≤ cap := by omega
      have hnA : Hid (LP.length - kk = (LP.drop kk).length) := by show _ = _; rw [List.length_drop]
      have hnB : Hid (kk = (LP.take kk).length) := by show _ = _; rw [List.length_take]; omega
      have Hkk : Hid (kk < LP.length) := hkk
      have Hl20 : Hid (LP.length ≤ 20) := hl20
      have HPer : Hid ((LP.drop kk ++ LP.take kk).Perm LP) := by
        have h := List.perm_append_comm (l₁ := LP.drop kk) (l₂ := LP.take kk)
        rw [List.take_append_drop] at h
        exact h
      clear hpm hk2 hQ0 HPerm hRA hcap1 hcap2
      go_wp2_with fail
      clear hmod m0 m2 m3
      refine wp_region_held_drew (S := (fun _ => True)) (by kernel_rfl) trivial (fun hHeld => ?_)
      have Kc : Keep0 wr wr.drew := (Keep.refl _ wr).drew
      generalize wr.drew = wD at *
      refine wpAnyH_take (i := 0) (v := ?q0v) (by simp only [List.getElem?_toArray, List.getElem?_cons_zero] <;> rfl) (by kernel_rfl) (by kernel_rfl) (by kernel_rfl) (by exact fun _ _ _ h => h) (Or.inl ⟨by rfl, ?q0y⟩) hHeld ?q0r
      case q0y => intro w hSw; (try dsimp only at hSw); go_simp <;> rfl
      simp only [Act.put, List.setIfInBounds_toArray, List.set_cons_zero, List.set_cons_succ]
      refine wpAnyH_take (i := 2) (v := ?q1v) (by simp only [List.getElem?_toArray, List.getElem?_cons_succ, List.getElem?_cons_zero] <;> rfl) (by kernel_rfl) (by kernel_rfl) (by kernel_rfl) (by exact fun _ _ _ h => h) (Or.inl ⟨by rfl, ?q1y⟩) hHeld ?q1r
      case q1y => intro w hSw; (try dsimp only at hSw); go_simp <;> rfl
      simp only [Act.put, List.setIfInBounds_toArray, List.set_cons_zero, List.set_cons_succ]
      refine wpAnyH_take (i := 3) (v := ?q2v) (by simp only [List.getElem?_toArray, List.getElem?_cons_succ, List.getElem?_cons_zero] <;> rfl) (by kernel_rfl) (by kernel_rfl) (by kernel_rfl) (by exact fun _ _ _ h => h) (Or.inl ⟨by rfl, ?q2y⟩) hHeld ?q2r
      case q2y => intro w hSw; (try dsimp only at hSw); go_simp <;> rfl
      simp only [Act.put, List.setIfInBounds_toArray, List.set_cons_zero, List.set_cons_succ]
      refine wpAnyH_take (i := 4) (v := ?q3v) (by simp only [List.getElem?_toArray, List.getElem?_cons_succ, List.getElem?_cons_zero] <;> rfl) (by kernel_rfl) (by kernel_rfl) (by kernel_rfl) (by exact fun _ _ _ h => h) (Or.inl ⟨by rfl, ?q3y⟩) hHeld ?q3r
      case q3y => intro w hSw; (try dsimp only at hSw); go_simp <;> rfl
      simp only [Act.put, List.setIfInBounds_toArray, List.set_cons_zero, List.set_cons_succ]
      refine wpAnyH_take (i := 6) (v := ?q4v) (by simp only [List.getElem?_toArray, List.getElem?_cons_succ, List.getElem?_cons_zero] <;> rfl) (by kernel_rfl) (by kernel_rfl) (by kernel_rfl) (by exact fun _ _ _ h => h) (Or.inl ⟨by rfl, ?q4y⟩) hHeld ?q4r
      case q4y => intro w hSw; (try dsimp only at hSw); go_simp <;> rfl
      simp only [Act.put, List.setIfInBounds_toArray, List.set_cons_zero, List.set_cons_succ]
      refine wpAnyH_take (i := 7) (v := ?q5v) (by simp only [List.getElem?_toArray, List.getElem?_cons_succ, List.getElem?_cons_zero] <;> rfl) (by kernel_rfl) (by kernel_rfl) (by kernel_rfl) (by exact fun _ _ _ h => h) (Or.inl ⟨by rfl, ?q5y⟩) hHeld ?q5r
      case q5y => intro w hSw; (try dsimp only at hSw); go_simp <;> rfl
      simp only [Act.put, List.setIfInBounds_toArray, List.set_cons_zero, List.set_cons_succ]
      refine wpAnyH_take (i := 8) (v := ?q6v) (by simp only [List.getElem?_toArray, List.getElem?_cons_succ, List.getElem?_cons_zero] <;> rfl) (by kernel_rfl) (by kernel_rfl) (by kernel_rfl) (by exact fun _ _ _ h => h) (Or.inl ⟨by rfl, ?q6y⟩) hHeld ?q6r
      case q6y => intro w hSw; (try dsimp only at hSw); go_simp <;> rfl
      simp only [Act.put, List.setIfInBounds_toArray, List.set_cons_zero, List.set_cons_succ]
      refine wpAnyH_ready (rs := [1, 14]) (by kernel_rfl) (by simp) ?_
      refine AllReadyH.cons (by simp only [List.getElem?_toArray, List.getElem?_cons_succ, List.getElem?_cons_zero] <;> rfl) (fun K hK => ?_) (AllReadyH.cons (by simp only [List.getElem?_toArray, List.getElem?_cons_succ, List.getElem?_cons_zero] <;> rfl) (fun K hK => ?_) AllReadyH.nil)
      · go_simp
        refine hK.out _ _ trivial (fun hHeld => ?_)
        clear hK K
        try simp only [Act.put, List.setIfInBounds_toArray, List.set_cons_zero, List.set_cons_succ]
        have kE : Keep0 wD (wD.alloc (.cells #[] 44)) := (Keep.refl _ _).alloc _
        have hrow : (wD.alloc (.cells #[] 44)).ownsRow wD.heap.size 44 7 (.slice (some ⟨wD.heap.size, 0, none⟩) 0 0) ([] : List Pl).length (rowOf Pl.cells []) := row_made wD 44
        have hgE : wr.heap.size ≤ wD.heap.size := Kc.size
        have K1 := Kc.trans kE
        clear kE Kc
        generalize (wD.alloc (.cells #[] 44)) = W1 at *
        generalize wD.heap.size = gE at *
        refine wpAnyH_ready (rs := [5, 14]) (by kernel_rfl) (by simp) ?_
        refine AllReadyH.cons (by simp only [List.getElem?_toArray, List.getElem?_cons_succ, List.getElem?_cons_zero] <;> rfl) (fun K hK => ?_) (AllReadyH.cons (by simp only [List.getElem?_toArray, List.getElem?_cons_succ, List.getElem?_cons_zero] <;> rfl) (fun K hK => ?_) AllReadyH.nil)
        · have hsrc : RowAt Pl.cells 7 W1 A2 (LP.drop kk) := HRA.out.keep0 K1
          have hB : gE ≤ W1.heap.size := Nat.le_of_lt (hrow.lt gE rfl).2
          have hlen : ([] : List Pl).length + (LP.drop kk).length ≤ 1000000 := by rw [List.length_drop]; show 0 + _ ≤ _; have := Hl20.out; omega
          refine step_append_row (l := []) plT rfl _ _ rfl rfl rfl hnA.out hrow hsrc hB hlen ?_
          intro v6 w6 g1 g4x g5
          refine hK.out _ _ trivial (fun hHeld => ?_)
          clear hK K
          try simp only [Act.put, List.setIfInBounds_toArray, List.set_cons_zero, List.set_cons_succ]
          have K6 : Keep0 wr w6 := K1.step (keep_grown g4x) (fun i hi e => by have := (hrow.lt _ e).1; omega)
          have g1 : w6.ownsRow gE 44 7 v6 (LP.drop kk).length (rowOf Pl.cells (LP.drop kk)) := g1
          have hB6 : gE ≤ w6.heap.size := Nat.le_trans hB g4x.size
          clear g4x g5 hrow hsrc hB hlen K1
          refine wpAnyH_ready (rs := [9, 14]) (by kernel_rfl) (by simp) ?_
          refine AllReadyH.cons (by simp only [List.getElem?_toArray, List.getElem?_cons_succ, List.getElem?_cons_zero] <;> rfl) (fun K hK => ?_) (AllReadyH.cons (by simp only [List.getElem?_toArray, List.getElem?_cons_succ, List.getElem?_cons_zero] <;> rfl) (fun K hK => ?_) AllReadyH.nil)
          · have hsrc2 : RowAt Pl.cells 7 w6 (some ⟨ab, af, none⟩) (LP.take kk) := HRB.out.keep0 K6
            have hB7 : gE ≤ w6.heap.size := hB6
            have hlen6 : (LP.drop kk).length + (LP.take kk).length ≤ 1000000 := by rw [List.length_drop, List.length_take]; have := Hl20.out; omega
            refine step_append_row plT rfl _ _ rfl rfl rfl hnB.out g1 hsrc2 hB7 hlen6 ?_
            intro v8 w8 g6 g7 g8
            refine hK.out _ _ trivial (fun hHeld => ?_)
            clear hK K
            try simp only [Act.put, List.setIfInBounds_toArray, List.set_cons_zero, List.set_cons_succ]
            have K8 : Keep0 wr w8 := K6.step (keep_grown g7) (fun i hi e => by have := (g1.lt _ e).1; omega)
            obtain ⟨L2, hL2⟩ : ∃ z, LP.drop kk ++ LP.take kk = z := ⟨_, rfl⟩
            rw [hL2] at g6
            obtain ⟨lb, lcb, rfl, r1, r2, r3, r4⟩ := row_of_own plT.len plT.pos g6
            have hper := HPer.out
            rw [hL2] at hper
            have hPl2 : PlsAt w8 lb L2 := ⟨r1, fun p hp => SibIn.keep0 (HC.out.ins p (hper.mem_iff.1 hp)) (HKw.out.trans K8)⟩
            clear g1 g6 g7 g8 r1 r2 hsrc2 hB6 hB7 hlen6 K6 hL2
            refine wpAnyH_ready (rs := [10, 14]) (by kernel_rfl) (by simp) ?_
            refine AllReadyH.cons (by simp only [List.getElem?_toArray, List.getElem?_cons_succ, List.getElem?_cons_zero] <;> rfl) (fun K hK => ?_) (AllReadyH.cons (by simp only [List.getElem?_toArray, List.getElem?_cons_succ, List.getElem?_cons_zero] <;> rfl) (fun K hK => ?_) AllReadyH.nil)
            · go_simp
              refine (yk2 L2 w8 lb lcb hper hPl2 r3 r4).mono ?_
              rintro e w9x ⟨uo, uc, rfl, us, kl⟩
              go_wp2_with fail
              refine hK.out _ _ trivial (fun hHeld => ?_)
              clear hK K
              try simp only [Act.put, List.setIfInBounds_toArray, List.set_cons_zero, List.set_cons_succ]
              have KL : Keep0 wr w9x := K8.trans kl
              clear kl K8 hPl2 r3 r4 hper
              refine wpAnyH_take (i := 11) (v := ?q5_0v) (by simp only [List.getElem?_toArray, List.getElem?_cons_succ, List.getElem?_cons_zero] <;> rfl) (by kernel_rfl) (by kernel_rfl) (by kernel_rfl) (by exact fun _ _ _ h => h) (Or.inl ⟨by rfl, ?q5_0y⟩) hHeld ?q5_0r
              case q5_0y => intro w hSw; (try dsimp only at hSw); go_simp <;> rfl
              simp only [Act.put, List.setIfInBounds_toArray, List.set_cons_zero, List.set_cons_succ]
              refine wpAnyH_take (i := 12) (v := ?q5_1v) (by simp only [List.getElem?_toArray, List.getElem?_cons_succ, List.getElem?_cons_zero] <;> rfl) (by kernel_rfl) (by kernel_rfl) (by kernel_rfl) (by exact fun _ _ _ h => h) (Or.inl ⟨by rfl, ?q5_1y⟩) hHeld ?q5_1r
              case q5_1y => intro w hSw; (try dsimp only at hSw); go_simp <;> rfl
              simp only [Act.put, List.setIfInBounds_toArray, List.set_cons_zero, List.set_cons_succ]
              refine wpAnyH_take (i := 13) (v := ?q5_2v) (by simp only [List.getElem?_toArray, List.getElem?_cons_succ, List.getElem?_cons_zero] <;> rfl) (by kernel_rfl) (by kernel_rfl) (by kernel_rfl) (by exact fun _ _ _ h => h) (Or.inl ⟨by rfl, ?q5_2y⟩) hHeld ?q5_2r
              case q5_2y => intro w hSw; (try dsimp only at hSw); go_simp <;> rfl
              simp only [Act.put, List.setIfInBounds_toArray, List.set_cons_zero, List.set_cons_succ]
              refine wpAnyH_ready (rs := [14]) (by kernel_rfl) (by simp) ?_
              refine AllReadyH.cons (by simp only [List.getElem?_toArray, List.getElem?_cons_succ, List.getElem?_cons_zero] <;> rfl) (fun K hK => ?_) AllReadyH.nil
              go_simp
              refine hK.out _ _ trivial (fun hHeld => ?_)
              clear hK K
              try simp only [Act.put, List.setIfInBounds_toArray, List.set_cons_zero, List.set_cons_succ]
              have kz : Keep0 w9x (w9x.alloc (.cells #[.string ⟨#[]⟩, .slice none 0 0] 24)) := (Keep.refl _ _).alloc _
              have hZ := DAt.new w9x 24 (.string ⟨#[]⟩) (.slice none 0 0)
              have hgz : wr.heap.size ≤ w9x.heap.size := KL.size
              replace us := us.keep0 kz
              replace KL := KL.trans kz
              clear kz
              generalize (w9x.alloc (.cells #[.string ⟨#[]⟩, .slice none 0 0] 24)) = WZ at *
              generalize w9x.heap.size = g21 at *
              obtain ⟨t0, t1, tf0, tf1⟩ := hZ.cells
              refine wpAnyH_ready (rs := [15]) (by kernel_rfl) (by simp) ?_
              refine AllReadyH.cons (by simp only [List.getElem?_toArray, List.getElem?_cons_succ, List.getElem?_cons_zero] <;> rfl) (fun K hK => ?_) AllReadyH.nil
              go_simp
              refine hK.out _ _ trivial (fun hHeld => ?_)
              clear hK K
              try simp only [Act.put, List.setIfInBounds_toArray, List.set_cons_zero, List.set_cons_succ]
              refine wpAnyH_take (i := 16) (v := ?q5_3v) (by simp only [List.getElem?_toArray, List.getElem?_cons_succ, List.getElem?_cons_zero] <;> rfl) (by kernel_rfl) (by kernel_rfl) (by kernel_rfl) (by exact fun _ _ _ h => h) (Or.inl ⟨by rfl, ?q5_3y⟩) hHeld ?q5_3r
              case q5_3y => intro w hSw; (try dsimp only at hSw); go_simp <;> rfl
              simp only [Act.put, List.setIfInBounds_toArray, List.set_cons_zero, List.set_cons_succ]
              refine wpAnyH_done (by kernel_rfl) ?_ _
              clear hHeld t0 t1 tf0 tf1
              have kp : Keep1 g21 WZ ((WZ.setCell ⟨g21, 0, none⟩ (.string Q.key)).setCell ⟨g21, 1, none⟩ (.slice uo Q.l.length uc)) := put2_keep _ _ _ _
              have us2 := sibs_beside hZ kp us
              have hZ2 := hZ.put (.string Q.key) (.slice uo Q.l.length uc)
              have KU : Keep0 wr ((WZ.setCell ⟨g21, 0, none⟩ (.string Q.key)).setCell ⟨g21, 1, none⟩ (.slice uo Q.l.length uc)) := KL.step kp (fun i hi hh => by omega)
              clear kp us hZ KL
              have hx := HXr.out.keep0 KU
              have xs := Hxr.out.keep0 KU
              have KW := HKw.out.trans KU
              obtain ⟨a0, a1, af0, af1⟩ := hx.cells
              obtain ⟨b0, b1, bf0, bf1⟩ := hZ2.cells
              go_wp2_with fail
              generalize ((WZ.setCell ⟨g21, 0, none⟩ (.string Q.key)).setCell ⟨g21, 1, none⟩ (.slice uo Q.l.length uc)) = WU at *
              refine (ysm WU uo uc xo xc us2 xs).mono ?_
              rintro e WV ⟨rfl, kv⟩
              replace a0 := kv.cell a0 (fun f => f)
              replace a1 := kv.cell a1 (fun f => f)
              have xs := xs.keep0 kv
              have KV := KW.trans kv
              clear KW kv KU hx hZ2 us2 b0 b1 bf0 bf1 af0 af1
              go_wp2_with fail
              refine (yck WV xo xc xs).mono ?_
              rintro e WX ⟨rfl, kx⟩
              have KX := KV.trans kx
              clear KV kx xs
              go_wp2
              go_ret
              exact ⟨by simp, KX⟩
            · go_simp
              refine hK.out _ _ trivial (fun hHeld => ?_)
              clear hK K
              try simp only [Act.put, List.setIfInBounds_toArray, List.set_cons_zero, List.set_cons_succ]
              have kz : Keep0 w8 (w8.alloc (.cells #[.string ⟨#[]⟩, .slice none 0 0] 24)) := (Keep.refl _ _).alloc _
              have hZ := DAt.new w8 24 (.string ⟨#[]⟩) (.slice none 0 0)
              have hgz : wr.heap.size ≤ w8.heap.size := K8.size
              replace hPl2 := hPl2.keep0 kz
              replace K8 := K8.trans kz
              clear kz
              generalize (w8.alloc (.cells #[.string ⟨#[]⟩, .slice none 0 0] 24)) = WZ at *
              generalize w8.heap.size = g21 at *
              refine wpAnyH_ready (rs := [10]) (by kernel_rfl) (by simp) ?_
              refine AllReadyH.cons (by simp only [List.getElem?_toArray, List.getElem?_cons_succ, List.getElem?_cons_zero] <;> rfl) (fun K hK => ?_) AllReadyH.nil
              go_simp
              refine (yk2 L2 WZ lb lcb hper hPl2 r3 r4).mono ?_
              rintro e w9x ⟨uo, uc, rfl, us, kl⟩
              go_wp2_with fail
              refine hK.out _ _ trivial (fun hHeld => ?_)
              clear hK K
              try simp only [Act.put, List.setIfInBounds_toArray, List.set_cons_zero, List.set_cons_succ]
              have KL : Keep0 wr w9x := K8.trans kl
              replace hZ := hZ.keep0 kl
              clear kl K8 hPl2 r3 r4 hper
              refine wpAnyH_take (i := 11) (v := ?q7_0v) (by simp only [List.getElem?_toArray, List.getElem?_cons_succ, List.getElem?_cons_zero] <;> rfl) (by kernel_rfl) (by kernel_rfl) (by kernel_rfl) (by exact fun _ _ _ h => h) (Or.inl ⟨by rfl, ?q7_0y⟩) hHeld ?q7_0r
              case q7_0y => intro w hSw; (try dsimp only at hSw); go_simp <;> rfl
              simp only [Act.put, List.setIfInBounds_toArray, List.set_cons_zero, List.set_cons_succ]
              refine wpAnyH_take (i := 12) (v := ?q7_1v) (by simp only [List.getElem?_toArray, List.getElem?_cons_succ, List.getElem?_cons_zero] <;> rfl) (by kernel_rfl) (by kernel_rfl) (by kernel_rfl) (by exact fun _ _ _ h => h) (Or.inl ⟨by rfl, ?q7_1y⟩) hHeld ?q7_1r
              case q7_1y => intro w hSw; (try dsimp only at hSw); go_simp <;> rfl
              simp only [Act.put, List.setIfInBounds_toArray, List.set_cons_zero, List.set_cons_succ]
              refine wpAnyH_take (i := 13) (v := ?q7_2v) (by simp only [List.getElem?_toArray, List.getElem?_cons_succ, List.getElem?_cons_zero] <;> rfl) (by kernel_rfl) (by kernel_rfl) (by kernel_rfl) (by exact fun _ _ _ h => h) (Or.inl ⟨by rfl, ?q7_2y⟩) hHeld ?q7_2r
              case q7_2y => intro w hSw; (try dsimp only at hSw); go_simp <;> rfl
              simp only [Act.put, List.setIfInBounds_toArray, List.set_cons_zero, List.set_cons_succ]
              obtain ⟨t0, t1, tf0, tf1⟩ := hZ.cells
              refine wpAnyH_ready (rs := [15]) (by kernel_rfl) (by simp) ?_
              refine AllReadyH.cons (by simp only [List.getElem?_toArray, List.getElem?_cons_succ, List.getElem?_cons_zero] <;> rfl) (fun K hK => ?_) AllReadyH.nil
              go_simp
              refine hK.out _ _ trivial (fun hHeld => ?_)
              clear hK K
              try simp only [Act.put, List.setIfInBounds_toArray, List.set_cons_zero, List.set_cons_succ]
              refine wpAnyH_take (i := 16) (v := ?q7_3v) (by simp only [List.getElem?_toArray, List.getElem?_cons_succ, List.getElem?_cons_zero] <;> rfl) (by kernel_rfl) (by kernel_rfl) (by kernel_rfl) (by exact fun _ _ _ h => h) (Or.inl ⟨by rfl, ?q7_3y⟩) hHeld ?q7_3r
              case q7_3y => intro w hSw; (try dsimp only at hSw); go_simp <;> rfl
              simp only [Act.put, List.setIfInBounds_toArray, List.set_cons_zero, List.set_cons_succ]
              refine wpAnyH_done (by kernel_rfl) ?_ _
              clear hHeld t0 t1 tf0 tf1
              have kp : Keep1 g21 w9x ((w9x.setCell ⟨g21, 0, none⟩ (.string Q.key)).setCell ⟨g21, 1, none⟩ (.slice uo Q.l.length uc)) := put2_keep _ _ _ _
              have us2 := sibs_beside hZ kp us
              have hZ2 := hZ.put (.string Q.key) (.slice uo Q.l.length uc)
              have KU : Keep0 wr ((w9x.setCell ⟨g21, 0, none⟩ (.string Q.key)).setCell ⟨g21, 1, none⟩ (.slice uo Q.l.length uc)) := KL.step kp (fun i hi hh => by omega)
              clear kp us hZ KL
              have hx := HXr.out.keep0 KU
              have xs := Hxr.out.keep0 KU
              have KW := HKw.out.trans KU
              obtain ⟨a0, a1, af0, af1⟩ := hx.cells
              obtain ⟨b0, b1, bf0, bf1⟩ := hZ2.cells
              go_wp2_with fail
              generalize ((w9x.setCell ⟨g21, 0, none⟩ (.string Q.key)).setCell ⟨g21, 1, none⟩ (.slice uo Q.l.length uc)) = WU at *
              refine (ysm WU uo uc xo xc us2 xs).mono ?_
              rintro e WV ⟨rfl, kv⟩
              replace a0 := kv.cell a0 (fun f => f)
              replace a1 := kv.cell a1 (fun f => f)
              have xs := xs.keep0 kv
              have KV := KW.trans kv
              clear KW kv KU hx hZ2 us2 b0 b1 bf0 bf1 af0 af1
              go_wp2_with fail
              refine (yck WV xo xc xs).mono ?_
              rintro e WX ⟨rfl, kx⟩
              have KX := KV.trans kx
              clear KV kx xs
              go_wp2
              go_ret
              exact ⟨by simp, KX⟩
          · go_simp
            refine hK.out _ _ trivial (fun hHeld => ?_)
            clear hK K
            try simp only [Act.put, List.setIfInBounds_toArray, List.set_cons_zero, List.set_cons_succ]
            have kz : Keep0 w6 (w6.alloc (.cells #[.string ⟨#[]⟩, .slice none 0 0] 24)) := (Keep.refl _ _).alloc _
            have hZ := DAt.new w6 24 (.string ⟨#[]⟩) (.slice none 0 0)
            have hgz : wr.heap.size ≤ w6.heap.size := K6.size
            have hno2 : ∀ g, Value.ownBlock v6 = some g → g ≠ w6.heap.size := fun g e => by have := (g1.lt g e).2; omega
            replace g1 := rowE_keep g1 kz (fun _ _ f => f)
            replace hB6 := Nat.le_trans hB6 kz.size
            replace K6 := K6.trans kz
            clear kz
            generalize (w6.alloc (.cells #[.string ⟨#[]⟩, .slice none 0 0] 24)) = WZ at *
            generalize w6.heap.size = g21 at *
            refine wpAnyH_ready (rs := [9]) (by kernel_rfl) (by simp) ?_
            refine AllReadyH.cons (by simp only [List.getElem?_toArray, List.getElem?_cons_succ, List.getElem?_cons_zero] <;> rfl) (fun K hK => ?_) AllReadyH.nil
            have hsrc2 : RowAt Pl.cells 7 WZ (some ⟨ab, af, none⟩) (LP.take kk) := HRB.out.keep0 K6
            have hB7 : gE ≤ WZ.heap.size := hB6
            have hlen6 : (LP.drop kk).length + (LP.take kk).length ≤ 1000000 := by rw [List.length_drop, List.length_take]; have := Hl20.out; omega
            refine step_append_row plT rfl _ _ rfl rfl rfl hnB.out g1 hsrc2 hB7 hlen6 ?_
            intro v8 w8 g6 g7 g8
            refine hK.out _ _ trivial (fun hHeld => ?_)
            clear hK K
            try simp only [Act.put, List.setIfInBounds_toArray, List.set_cons_zero, List.set_cons_succ]
            have K8 : Keep0 wr w8 := K6.step (keep_grown g7) (fun i hi e => by have := (g1.lt _ e).1; omega)
            replace hZ := hZ.keep (keep_grown g7) (fun e => hno2 _ e rfl)
            clear hno2
            obtain ⟨L2, hL2⟩ : ∃ z, LP.drop kk ++ LP.take kk = z := ⟨_, rfl⟩
            rw [hL2] at g6
            obtain ⟨lb, lcb, rfl, r1, r2, r3, r4⟩ := row_of_own plT.len plT.pos g6
            have hper := HPer.out
            rw [hL2] at hper
            have hPl2 : PlsAt w8 lb L2 := ⟨r1, fun p hp => SibIn.keep0 (HC.out.ins p (hper.mem_iff.1 hp)) (HKw.out.trans K8)⟩
            clear g1 g6 g7 g8 r1 r2 hsrc2 hB6 hB7 hlen6 K6 hL2
            refine wpAnyH_ready (rs := [10]) (by kernel_rfl) (by simp) ?_
            refine AllReadyH.cons (by simp only [List.getElem?_toArray, List.getElem?_cons_succ, List.getElem?_cons_zero] <;> rfl) (fun K hK => ?_) AllReadyH.nil
            go_simp
            refine (yk2 L2 w8 lb lcb hper hPl2 r3 r4).mono ?_
            rintro e w9x ⟨uo, uc, rfl, us, kl⟩
            go_wp2_with fail
            refine hK.out _ _ trivial (fun hHeld => ?_)
            clear hK K
            try simp only [Act.put, List.setIfInBounds_toArray, List.set_cons_zero, List.set_cons_succ]
            have KL : Keep0 wr w9x := K8.trans kl
            replace hZ := hZ.keep0 kl
            clear kl K8 hPl2 r3 r4 hper
            refine wpAnyH_take (i := 11) (v := ?q10_0v) (by simp only [List.getElem?_toArray, List.getElem?_cons_succ, List.getElem?_cons_zero] <;> rfl) (by kernel_rfl) (by kernel_rfl) (by kernel_rfl) (by exact fun _ _ _ h => h) (Or.inl ⟨by rfl, ?q10_0y⟩) hHeld ?q10_0r
            case q10_0y => intro w hSw; (try dsimp only at hSw); go_simp <;> rfl
            simp only [Act.put, List.setIfInBounds_toArray, List.set_cons_zero, List.set_cons_succ]
            refine wpAnyH_take (i := 12) (v := ?q10_1v) (by simp only [List.getElem?_toArray, List.getElem?_cons_succ, List.getElem?_cons_zero] <;> rfl) (by kernel_rfl) (by kernel_rfl) (by kernel_rfl) (by exact fun _ _ _ h => h) (Or.inl ⟨by rfl, ?q10_1y⟩) hHeld ?q10_1r
            case q10_1y => intro w hSw; (try dsimp only at hSw); go_simp <;> rfl
            simp only [Act.put, List.setIfInBounds_toArray, List.set_cons_zero, List.set_cons_succ]
            refine wpAnyH_take (i := 13) (v := ?q10_2v) (by simp only [List.getElem?_toArray, List.getElem?_cons_succ, List.getElem?_cons_zero] <;> rfl) (by kernel_rfl) (by kernel_rfl) (by kernel_rfl) (by exact fun _ _ _ h => h) (Or.inl ⟨by rfl, ?q10_2y⟩) hHeld ?q10_2r
            case q10_2y => intro w hSw; (try dsimp only at hSw); go_simp <;> rfl
            simp only [Act.put, List.setIfInBounds_toArray, List.set_cons_zero, List.set_cons_succ]
            obtain ⟨t0, t1, tf0, tf1⟩ := hZ.cells
            refine wpAnyH_ready (rs := [15]) (by kernel_rfl) (by simp) ?_
            refine AllReadyH.cons (by simp only [List.getElem?_toArray, List.getElem?_cons_succ, List.getElem?_cons_zero] <;> rfl) (fun K hK => ?_) AllReadyH.nil
            go_simp
            refine hK.out _ _ trivial (fun hHeld => ?_)
            clear hK K
            try simp only [Act.put, List.setIfInBounds_toArray, List.set_cons_zero, List.set_cons_succ]
            refine wpAnyH_take (i := 16) (v := ?q10_3v) (by simp only [List.getElem?_toArray, List.getElem?_cons_succ, List.getElem?_cons_zero] <;> rfl) (by kernel_rfl) (by kernel_rfl) (by kernel_rfl) (by exact fun _ _ _ h => h) (Or.inl ⟨by rfl, ?q10_3y⟩) hHeld ?q10_3r
            case q10_3y => intro w hSw; (try dsimp only at hSw); go_simp <;> rfl
            simp only [Act.put, List.setIfInBounds_toArray, List.set_cons_zero, List.set_cons_succ]
            refine wpAnyH_done (by kernel_rfl) ?_ _
            clear hHeld t0 t1 tf0 tf1
            have kp : Keep1 g21 w9x ((w9x.setCell ⟨g21, 0, none⟩ (.string Q.key)).setCell ⟨g21, 1, none⟩ (.slice uo Q.l.length uc)) := put2_keep _ _ _ _
            have us2 := sibs_beside hZ kp us
            have hZ2 := hZ.put (.string Q.key) (.slice uo Q.l.length uc)
            have KU : Keep0 wr ((w9x.setCell ⟨g21, 0, none⟩ (.string Q.key)).setCell ⟨g21, 1, none⟩ (.slice uo Q.l.length uc)) := KL.step kp (fun i hi hh => by omega)
            clear kp us hZ KL
            have hx := HXr.out.keep0 KU
            have xs := Hxr.out.keep0 KU
            have KW := HKw.out.trans KU
            obtain ⟨a0, a1, af0, af1⟩ := hx.cells
            obtain ⟨b0, b1, bf0, bf1⟩ := hZ2.cells
            go_wp2_with fail
            generalize ((w9x.setCell ⟨g21, 0, none⟩ (.string Q.key)).setCell ⟨g21, 1, none⟩ (.slice uo Q.l.length uc)) = WU at *
            refine (ysm WU uo uc xo xc us2 xs).mono ?_
            rintro e WV ⟨rfl, kv⟩
            replace a0 := kv.cell a0 (fun f => f)
            replace a1 := kv.cell a1 (fun f => f)
            have xs := xs.keep0 kv
            have KV := KW.trans kv
            clear KW kv KU hx hZ2 us2 b0 b1 bf0 bf1 af0 af1
            go_wp2_with fail
            refine (yck WV xo xc xs).mono ?_
            rintro e WX ⟨rfl, kx⟩
            have KX := KV.trans kx
            clear KV kx xs
            go_wp2
            go_ret
            exact ⟨by simp, KX⟩
        · go_simp
          refine hK.out _ _ trivial (fun hHeld => ?_)
          clear hK K
          try simp only [Act.put, List.setIfInBounds_toArray, List.set_cons_zero, List.set_cons_succ]
          have kz : Keep0 W1 (W1.alloc (.cells #[.string ⟨#[]⟩, .slice none 0 0] 24)) := (Keep.refl _ _).alloc _
          have hZ := DAt.new W1 24 (.string ⟨#[]⟩) (.slice none 0 0)
          have hgz : wr.heap.size ≤ W1.heap.size := K1.size
          have hno1 : W1.heap.size ≠ gE := by have := (hrow.lt gE rfl).2; omega
          replace hrow := rowE_keep hrow kz (fun _ _ f => f)
          replace K1 := K1.trans kz
          clear kz
          generalize (W1.alloc (.cells #[.string ⟨#[]⟩, .slice none 0 0] 24)) = WZ at *
          generalize W1.heap.size = g21 at *
          refine wpAnyH_ready (rs := [5]) (by kernel_rfl) (by simp) ?_
          refine AllReadyH.cons (by simp only [List.getElem?_toArray, List.getElem?_cons_succ, List.getElem?_cons_zero] <;> rfl) (fun K hK => ?_) AllReadyH.nil
          have hsrc : RowAt Pl.cells 7 WZ A2 (LP.drop kk) := HRA.out.keep0 K1
          have hB : gE ≤ WZ.heap.size := Nat.le_of_lt (hrow.lt gE rfl).2
          have hlen : ([] : List Pl).length + (LP.drop kk).length ≤ 1000000 := by rw [List.length_drop]; show 0 + _ ≤ _; have := Hl20.out; omega
          refine step_append_row (l := []) plT rfl _ _ rfl rfl rfl hnA.out hrow hsrc hB hlen ?_
          intro v6 w6 g1 g4x g5
          refine hK.out _ _ trivial (fun hHeld => ?_)
          clear hK K
          try simp only [Act.put, List.setIfInBounds_toArray, List.set_cons_zero, List.set_cons_succ]
          have K6 : Keep0 wr w6 := K1.step (keep_grown g4x) (fun i hi e => by have := (hrow.lt _ e).1; omega)
          have g1 : w6.ownsRow gE 44 7 v6 (LP.drop kk).length (rowOf Pl.cells (LP.drop kk)) := g1
          have hB6 : gE ≤ w6.heap.size := Nat.le_trans hB g4x.size
          have hno2 : ∀ g, Value.ownBlock v6 = some g → g ≠ g21 := fun g e => by
            rcases g5 with h | h
            · rw [h] at e; cases e; exact fun e2 => hno1 e2.symm
            · rw [h] at e; cases e; have := hZ.lt; omega
          replace hZ := hZ.keep (keep_grown g4x) (fun e => by cases e; exact hno1 rfl)
          clear hno1
          clear g4x g5 hrow hsrc hB hlen K1
          refine wpAnyH_ready (rs := [9]) (by kernel_rfl) (by simp) ?_
          refine AllReadyH.cons (by simp only [List.getElem?_toArray, List.getElem?_cons_succ, List.getElem?_cons_zero] <;> rfl) (fun K hK => ?_) AllReadyH.nil
          have hsrc2 : RowAt Pl.cells 7 w6 (some ⟨ab, af, none⟩) (LP.take kk) := HRB.out.keep0 K6
          have hB7 : gE ≤ w6.heap.size := hB6
          have hlen6 : (LP.drop kk).length + (LP.take kk).length ≤ 1000000 := by rw [List.length_drop, List.length_take]; have := Hl20.out; omega
          refine step_append_row plT rfl _ _ rfl rfl rfl hnB.out g1 hsrc2 hB7 hlen6 ?_
          intro v8 w8 g6 g7 g8
          refine hK.out _ _ trivial (fun hHeld => ?_)
          clear hK K
          try simp only [Act.put, List.setIfInBounds_toArray, List.set_cons_zero, List.set_cons_succ]
          have K8 : Keep0 wr w8 := K6.step (keep_grown g7) (fun i hi e => by have := (g1.lt _ e).1; omega)
          replace hZ := hZ.keep (keep_grown g7) (fun e => hno2 _ e rfl)
          clear hno2
          obtain ⟨L2, hL2⟩ : ∃ z, LP.drop kk ++ LP.take kk = z := ⟨_, rfl⟩
          rw [hL2] at g6
          obtain ⟨lb, lcb, rfl, r1, r2, r3, r4⟩ := row_of_own plT.len plT.pos g6
          have hper := HPer.out
          rw [hL2] at hper
          have hPl2 : PlsAt w8 lb L2 := ⟨r1, fun p hp => SibIn.keep0 (HC.out.ins p (hper.mem_iff.1 hp)) (HKw.out.trans K8)⟩
          clear g1 g6 g7 g8 r1 r2 hsrc2 hB6 hB7 hlen6 K6 hL2
          refine wpAnyH_ready (rs := [10]) (by kernel_rfl) (by simp) ?_
          refine AllReadyH.cons (by simp only [List.getElem?_toArray, List.getElem?_cons_succ, List.getElem?_cons_zero] <;> rfl) (fun K hK => ?_) AllReadyH.nil
          go_simp
          refine (yk2 L2 w8 lb lcb hper hPl2 r3 r4).mono ?_
          rintro e w9x ⟨uo, uc, rfl, us, kl⟩
          go_wp2_with fail
          refine hK.out _ _ trivial (fun hHeld => ?_)
          clear hK K
          try simp only [Act.put, List.setIfInBounds_toArray, List.set_cons_zero, List.set_cons_succ]
          have KL : Keep0 wr w9x := K8.trans kl
          replace hZ := hZ.keep0 kl
          clear kl K8 hPl2 r3 r4 hper
          refine wpAnyH_take (i := 11) (v := ?q14_0v) (by simp only [List.getElem?_toArray, List.getElem?_cons_succ, List.getElem?_cons_zero] <;> rfl) (by kernel_rfl) (by kernel_rfl) (by kernel_rfl) (by exact fun _ _ _ h => h) (Or.inl ⟨by rfl, ?q14_0y⟩) hHeld ?q14_0r
          case q14_0y => intro w hSw; (try dsimp only at hSw); go_simp <;> rfl
          simp only [Act.put, List.setIfInBounds_toArray, List.set_cons_zero, List.set_cons_succ]
          refine wpAnyH_take (i := 12) (v := ?q14_1v) (by simp only [List.getElem?_toArray, List.getElem?_cons_succ, List.getElem?_cons_zero] <;> rfl) (by kernel_rfl) (by kernel_rfl) (by kernel_rfl) (by exact fun _ _ _ h => h) (Or.inl ⟨by rfl, ?q14_1y⟩) hHeld ?q14_1r
          case q14_1y => intro w hSw; (try dsimp only at hSw); go_simp <;> rfl
          simp only [Act.put, List.setIfInBounds_toArray, List.set_cons_zero, List.set_cons_succ]
          refine wpAnyH_take (i := 13) (v := ?q14_2v) (by simp only [List.getElem?_toArray, List.getElem?_cons_succ, List.getElem?_cons_zero] <;> rfl) (by kernel_rfl) (by kernel_rfl) (by kernel_rfl) (by exact fun _ _ _ h => h) (Or.inl ⟨by rfl, ?q14_2y⟩) hHeld ?q14_2r
          case q14_2y => intro w hSw; (try dsimp only at hSw); go_simp <;> rfl
          simp only [Act.put, List.setIfInBounds_toArray, List.set_cons_zero, List.set_cons_succ]
          obtain ⟨t0, t1, tf0, tf1⟩ := hZ.cells
          refine wpAnyH_ready (rs := [15]) (by kernel_rfl) (by simp) ?_
          refine AllReadyH.cons (by simp only [List.getElem?_toArray, List.getElem?_cons_succ, List.getElem?_cons_zero] <;> rfl) (fun K hK => ?_) AllReadyH.nil
          go_simp
          refine hK.out _ _ trivial (fun hHeld => ?_)
          clear hK K
          try simp only [Act.put, List.setIfInBounds_toArray, List.set_cons_zero, List.set_cons_succ]
          refine wpAnyH_take (i := 16) (v := ?q14_3v) (by simp only [List.getElem?_toArray, List.getElem?_cons_succ, List.getElem?_cons_zero] <;> rfl) (by kernel_rfl) (by kernel_rfl) (by kernel_rfl) (by exact fun _ _ _ h => h) (Or.inl ⟨by rfl, ?q14_3y⟩) hHeld ?q14_3r
          case q14_3y => intro w hSw; (try dsimp only at hSw); go_simp <;> rfl
          simp only [Act.put, List.setIfInBounds_toArray, List.set_cons_zero, List.set_cons_succ]
          refine wpAnyH_done (by kernel_rfl) ?_ _
          clear hHeld t0 t1 tf0 tf1
          have kp : Keep1 g21 w9x ((w9x.setCell ⟨g21, 0, none⟩ (.string Q.key)).setCell ⟨g21, 1, none⟩ (.slice uo Q.l.length uc)) := put2_keep _ _ _ _
          have us2 := sibs_beside hZ kp us
          have hZ2 := hZ.put (.string Q.key) (.slice uo Q.l.length uc)
          have KU : Keep0 wr ((w9x.setCell ⟨g21, 0, none⟩ (.string Q.key)).setCell ⟨g21, 1, none⟩ (.slice uo Q.l.length uc)) := KL.step kp (fun i hi hh => by omega)
          clear kp us hZ KL
          have hx := HXr.out.keep0 KU
          have xs := Hxr.out.keep0 KU
          have KW := HKw.out.trans KU
          obtain ⟨a0, a1, af0, af1⟩ := hx.cells
          obtain ⟨b0, b1, bf0, bf1⟩ := hZ2.cells
          go_wp2_with fail
          generalize ((w9x.setCell ⟨g21, 0, none⟩ (.string Q.key)).setCell ⟨g21, 1, none⟩ (.slice uo Q.l.length uc)) = WU at *
          refine (ysm WU uo uc xo xc us2 xs).mono ?_
          rintro e WV ⟨rfl, kv⟩
          replace a0 := kv.cell a0 (fun f => f)
          replace a1 := kv.cell a1 (fun f => f)
          have xs := xs.keep0 kv
          have KV := KW.trans kv
          clear KW kv KU hx hZ2 us2 b0 b1 bf0 bf1 af0 af1
          go_wp2_with fail
          refine (yck WV xo xc xs).mono ?_
          rintro e WX ⟨rfl, kx⟩
          have KX := KV.trans kx
          clear KV kx xs
          go_wp2
          go_ret
          exact ⟨by simp, KX⟩
      · go_simp
        refine hK.out _ _ trivial (fun hHeld => ?_)
        clear hK K
        try simp only [Act.put, List.setIfInBounds_toArray, List.set_cons_zero, List.set_cons_succ]
        have kz : Keep0 wD (wD.alloc (.cells #[.string ⟨#[]⟩, .slice none 0 0] 24)) := (Keep.refl _ _).alloc _
        have hZ := DAt.new wD 24 (.string ⟨#[]⟩) (.slice none 0 0)
        have hgz : wr.heap.size ≤ wD.heap.size := Kc.size
        replace Kc := Kc.trans kz
        clear kz
        generalize (wD.alloc (.cells #[.string ⟨#[]⟩, .slice none 0 0] 24)) = WZ at *
        generalize wD.heap.size = g21 at *
        refine wpAnyH_ready (rs := [1]) (by kernel_rfl) (by simp) ?_
        refine AllReadyH.cons (by simp only [List.getElem?_toArray, List.getElem?_cons_succ, List.getElem?_cons_zero] <;> rfl) (fun K hK => ?_) AllReadyH.nil
        go_simp
        refine hK.out _ _ trivial (fun hHeld => ?_)
        clear hK K
        try simp only [Act.put, List.setIfInBounds_toArray, List.set_cons_zero, List.set_cons_succ]
        have kE : Keep0 WZ (WZ.alloc (.cells #[] 44)) := (Keep.refl _ _).alloc _
        have hrow : (WZ.alloc (.cells #[] 44)).ownsRow WZ.heap.size 44 7 (.slice (some ⟨WZ.heap.size, 0, none⟩) 0 0) ([] : List Pl).length (rowOf Pl.cells []) := row_made WZ 44
        have hgE : wr.heap.size ≤ WZ.heap.size := Kc.size
        have hno1 : g21 ≠ WZ.heap.size := by have := hZ.lt; omega
        replace hZ := hZ.keep0 kE
        have K1 := Kc.trans kE
        clear kE Kc
        generalize (WZ.alloc (.cells #[] 44)) = W1 at *
        generalize WZ.heap.size = gE at *
        refine wpAnyH_ready (rs := [5]) (by kernel_rfl) (by simp) ?_
        refine AllReadyH.cons (by simp only [List.getElem?_toArray, List.getElem?_cons_succ, List.getElem?_cons_zero] <;> rfl) (fun K hK => ?_) AllReadyH.nil
        have hsrc : RowAt Pl.cells 7 W1 A2 (LP.drop kk) := HRA.out.keep0 K1
        have hB : gE ≤ W1.heap.size := Nat.le_of_lt (hrow.lt gE rfl).2
        have hlen : ([] : List Pl).length + (LP.drop kk).length ≤ 1000000 := by rw [List.length_drop]; show 0 + _ ≤ _; have := Hl20.out; omega
        refine step_append_row (l := []) plT rfl _ _ rfl rfl rfl hnA.out hrow hsrc hB hlen ?_
        intro v6 w6 g1 g4x g5
        refine hK.out _ _ trivial (fun hHeld => ?_)
        clear hK K
        try simp only [Act.put, List.setIfInBounds_toArray, List.set_cons_zero, List.set_cons_succ]
        have K6 : Keep0 wr w6 := K1.step (keep_grown g4x) (fun i hi e => by have := (hrow.lt _ e).1; omega)
        have g1 : w6.ownsRow gE 44 7 v6 (LP.drop kk).length (rowOf Pl.cells (LP.drop kk)) := g1
        have hB6 : gE ≤ w6.heap.size := Nat.le_trans hB g4x.size
        have hno2 : ∀ g, Value.ownBlock v6 = some g → g ≠ g21 := fun g e => by
          rcases g5 with h | h
          · rw [h] at e; cases e; exact fun e2 => hno1 e2.symm
          · rw [h] at e; cases e; have := hZ.lt; omega
        replace hZ := hZ.keep (keep_grown g4x) (fun e => by cases e; exact hno1 rfl)
        clear hno1
        clear g4x g5 hrow hsrc hB hlen K1
        refine wpAnyH_ready (rs := [9]) (by kernel_rfl) (by simp) ?_
        refine AllReadyH.cons (by simp only [List.getElem?_toArray, List.getElem?_cons_succ, List.getElem?_cons_zero] <;> rfl) (fun K hK => ?_) AllReadyH.nil
        have hsrc2 : RowAt Pl.cells 7 w6 (some ⟨ab, af, none⟩) (LP.take kk) := HRB.out.keep0 K6
        have hB7 : gE ≤ w6.heap.size := hB6
        have hlen6 : (LP.drop kk).length + (LP.take kk).length ≤ 1000000 := by rw [List.length_drop, List.length_take]; have := Hl20.out; omega
        refine step_append_row plT rfl _ _ rfl rfl rfl hnB.out g1 hsrc2 hB7 hlen6 ?_
        intro v8 w8 g6 g7 g8
        refine hK.out _ _ trivial (fun hHeld => ?_)
        clear hK K
        try simp only [Act.put, List.setIfInBounds_toArray, List.set_cons_zero, List.set_cons_succ]
        have K8 : Keep0 wr w8 := K6.step (keep_grown g7) (fun i hi e => by have := (g1.lt _ e).1; omega)
        replace hZ := hZ.keep (keep_grown g7) (fun e => hno2 _ e rfl)
        clear hno2
        obtain ⟨L2, hL2⟩ : ∃ z, LP.drop kk ++ LP.take kk = z := ⟨_, rfl⟩
        rw [hL2] at g6
        obtain ⟨lb, lcb, rfl, r1, r2, r3, r4⟩ := row_of_own plT.len plT.pos g6
        have hper := HPer.out
        rw [hL2] at hper
        have hPl2 : PlsAt w8 lb L2 := ⟨r1, fun p hp => SibIn.keep0 (HC.out.ins p (hper.mem_iff.1 hp)) (HKw.out.trans K8)⟩
        clear g1 g6 g7 g8 r1 r2 hsrc2 hB6 hB7 hlen6 K6 hL2
        refine wpAnyH_ready (rs := [10]) (by kernel_rfl) (by simp) ?_
        refine AllReadyH.cons (by simp only [List.getElem?_toArray, List.getElem?_cons_succ, List.getElem?_cons_zero] <;> rfl) (fun K hK => ?_) AllReadyH.nil
        go_simp
        refine (yk2 L2 w8 lb lcb hper hPl2 r3 r4).mono ?_
        rintro e w9x ⟨uo, uc, rfl, us, kl⟩
        go_wp2_with fail
        refine hK.out _ _ trivial (fun hHeld => ?_)
        clear hK K
        try simp only [Act.put, List.setIfInBounds_toArray, List.set_cons_zero, List.set_cons_succ]
        have KL : Keep0 wr w9x := K8.trans kl
        replace hZ := hZ.keep0 kl
        clear kl K8 hPl2 r3 r4 hper
        refine wpAnyH_take (i := 11) (v := ?q19_0v) (by simp only [List.getElem?_toArray, List.getElem?_cons_succ, List.getElem?_cons_zero] <;> rfl) (by kernel_rfl) (by kernel_rfl) (by kernel_rfl) (by exact fun _ _ _ h => h) (Or.inl ⟨by rfl, ?q19_0y⟩) hHeld ?q19_0r
        case q19_0y => intro w hSw; (try dsimp only at hSw); go_simp <;> rfl
        simp only [Act.put, List.setIfInBounds_toArray, List.set_cons_zero, List.set_cons_succ]
        refine wpAnyH_take (i := 12) (v := ?q19_1v) (by simp only [List.getElem?_toArray, List.getElem?_cons_succ, List.getElem?_cons_zero] <;> rfl) (by kernel_rfl) (by kernel_rfl) (by kernel_rfl) (by exact fun _ _ _ h => h) (Or.inl ⟨by rfl, ?q19_1y⟩) hHeld ?q19_1r
        case q19_1y => intro w hSw; (try dsimp only at hSw); go_simp <;> rfl
        simp only [Act.put, List.setIfInBounds_toArray, List.set_cons_zero, List.set_cons_succ]
        refine wpAnyH_take (i := 13) (v := ?q19_2v) (by simp only [List.getElem?_toArray, List.getElem?_cons_succ, List.getElem?_cons_zero] <;> rfl) (by kernel_rfl) (by kernel_rfl) (by kernel_rfl) (by exact fun _ _ _ h => h) (Or.inl ⟨by rfl, ?q19_2y⟩) hHeld ?q19_2r
        case q19_2y => intro w hSw; (try dsimp only at hSw); go_simp <;> rfl
        simp only [Act.put, List.setIfInBounds_toArray, List.set_cons_zero, List.set_cons_succ]
        obtain ⟨t0, t1, tf0, tf1⟩ := hZ.cells
        refine wpAnyH_ready (rs := [15]) (by kernel_rfl) (by simp) ?_
        refine AllReadyH.cons (by simp only [List.getElem?_toArray, List.getElem?_cons_succ, List.getElem?_cons_zero] <;> rfl) (fun K hK => ?_) AllReadyH.nil
        go_simp
        refine hK.out _ _ trivial (fun hHeld => ?_)
        clear hK K
        try simp only [Act.put, List.setIfInBounds_toArray, List.set_cons_zero, List.set_cons_succ]
        refine wpAnyH_take (i := 16) (v := ?q19_3v) (by simp only [List.getElem?_toArray, List.getElem?_cons_succ, List.getElem?_cons_zero] <;> rfl) (by kernel_rfl) (by kernel_rfl) (by kernel_rfl) (by exact fun _ _ _ h => h) (Or.inl ⟨by rfl, ?q19_3y⟩) hHeld ?q19_3r
        case q19_3y => intro w hSw; (try dsimp only at hSw); go_simp <;> rfl
        simp only [Act.put, List.setIfInBounds_toArray, List.set_cons_zero, List.set_cons_succ]
        refine wpAnyH_done (by kernel_rfl) ?_ _
        clear hHeld t0 t1 tf0 tf1
        have kp : Keep1 g21 w9x ((w9x.setCell ⟨g21, 0, none⟩ (.string Q.key)).setCell ⟨g21, 1, none⟩ (.slice uo Q.l.length uc)) := put2_keep _ _ _ _
        have us2 := sibs_beside hZ kp us
        have hZ2 := hZ.put (.string Q.key) (.slice uo Q.l.length uc)
        have KU : Keep0 wr ((w9x.setCell ⟨g21, 0, none⟩ (.string Q.key)).setCell ⟨g21, 1, none⟩ (.slice uo Q.l.length uc)) := KL.step kp (fun i hi hh => by omega)
        clear kp us hZ KL
        have hx := HXr.out.keep0 KU
        have xs := Hxr.out.keep0 KU
        have KW := HKw.out.trans KU
        obtain ⟨a0, a1, af0, af1⟩ := hx.cells
        obtain ⟨b0, b1, bf0, bf1⟩ := hZ2.cells
        go_wp2_with fail
        generalize ((w9x.setCell ⟨g21, 0, none⟩ (.string Q.key)).setCell ⟨g21, 1, none⟩ (.slice uo Q.l.length uc)) = WU at *
        refine (ysm WU uo uc xo xc us2 xs).mono ?_
        rintro e WV ⟨rfl, kv⟩
        replace a0 := kv.cell a0 (fun f => f)
        replace a1 := kv.cell a1 (fun f => f)
        have xs := xs.keep0 kv
        have KV := KW.trans kv
        clear KW kv KU hx hZ2 us2 b0 b1 bf0 bf1 af0 af1
        go_wp2_with fail
        refine (yck WV xo xc xs).mono ?_
        rintro e WX ⟨rfl, kx⟩
        have KX := KV.trans kx
        clear KV kx xs
        go_wp2
        go_ret
        exact ⟨by simp, KX⟩
theorem objectSorts_law (V : ObCode) (w : World) (key : ByteArray) (hk : key.size ≤ maxLen) (ao : Option Addr) (cap : Nat) (l : List Sb) (hl : l.length ≤ maxLen) (hcp : l.length ≤ cap ∧ cap ≤ maxLen) (hf : ∀ x ∈ l, FitsS x) (hc : SibsAt w ao l) (tn : Int) (htn : (Lit.int .u8 tn).wf = true) (mx : Int) (hmx : (Lit.int .i64 mx).wf = true) :
    Calls Tryz.prog 5 #[.string key, .slice ao l.length cap, .int .u8 tn, .int .i64 mx] w fun e w' => e = .returned (.bool true) ∧ Keep0 w w' := by
  obtain ⟨LP, hLP, hPA⟩ := sibs_pls hc
  subst hLP
  rw [List.length_map] at hl hcp ⊢
  have hb := bounds_u8 htn
  have e : tn = ((tn.toNat : Nat) : Int) := by omega
  rw [e]
  exact objectSorts_pl V w key hk ao cap LP hl hcp (fun p hp => hf _ (List.mem_map.2 ⟨p, hp, rfl⟩)) hPA tn.toNat (by omega) mx (bounds_i64 hmx).2
end Go.Proofs.YteonkfedgopdiaaGreat
