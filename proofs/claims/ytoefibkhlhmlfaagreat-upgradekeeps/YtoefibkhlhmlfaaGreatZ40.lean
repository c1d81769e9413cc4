/-
  What this seat's claims lean on of the texts Ups18, UpA.
  Conditions: as each theorem states.
-/
import Derived.WalkKit
import Derived.ProofKit
import Derived.Below
import Derived.Deep.Draws
import Derived.Deep.RegionHeld
import Derived.Test.YtoefibkhlhmlfaaGreatChecked
import Derived.OpenShut
import Derived.ShutString
import Derived.WalkSpells
import Derived.WalkLawsBesides
import Derived.Deep.QuietTactic
import Derived.BigQuiet
import Derived.Laws.Bits64b
import Derived.PlainAid
import Derived.Lib.AppendStr
import Derived.Deep.AppendLies
import Derived.Laws.IdiomStrings
import Derived.Laws.BytesArg
import Derived.Deep.RegionWith
import Derived.Laws.AppendOwn
import Derived.Deep.DeepAppendWide
import Derived.Deep.Upon
import Derived.Maps.AppendAt
import Derived.Deep.Slices
import Derived.Laws.Rows
import Derived.Deep.CutRange
import Derived.Deep.RegionLaw
import Derived.Test.YtoefibkhlhmlfaaGreatZ38
import Derived.Test.YtoefibkhlhmlfaaGreatZ1
import Derived.Test.YtoefibkhlhmlfaaGreatZ39
import Derived.Test.YtoefibkhlhmlfaaGreatZ25
namespace Go.Proofs.YtoefibkhlhmlfaaGreat
open Go.RowKit
theorem great_ok18 {o : Ob} (f : FitsO o) (h : oGreat o = false) : Ok16 o := by
  obtain ⟨h1, h2, h3⟩ := oGreat_no h
  exact ⟨by omega, by omega, fun x hx => sGreat_ok (f.sib x hx) (h3 x hx)⟩
set_option maxRecDepth 100000 in
set_option maxHeartbeats 8000000 in
theorem upgradeUps_law (V : UpCode) (w : World) (key : ByteArray) (ao : Option Addr) (cap : Nat) (L : List Po) (hk : key.size ≤ maxLen) (hl : L.length ≤ maxLen) (hcp : L.length ≤ cap ∧ cap ≤ maxLen) (hf : ∀ p ∈ L, FitsOs p.x) (hA : PosAt w ao L) (bo : Option Addr) (cb : Nat) (q : Ob) (fq : FitsO q) (cq : q.l.length ≤ cb ∧ cb ≤ maxLen) (hB : SibsAt w bo q.l) :
    Calls Tryz.prog 3 #[.agg #[.string key, .slice ao L.length cap], .agg #[.string q.key, .slice bo q.l.length cb]] w fun e w' => e = .returned (.bool true) ∧ Keep0 w w' := by
  have yga := fun W (h : PosAt W ao L) => rgreat17 W key hk ao cap L hl hf h
  have ygb := fun W (h : SibsAt W bo q.l) => rgreat16 W bo cb q fq h
  have kB : Keep0 w ((w.alloc (.cells #[.string key, .slice ao L.length cap] 24)).alloc (.cells #[.string q.key, .slice bo q.l.length cb] 27)) := ((Keep.refl _ w).alloc _).alloc _
  have hX : DAt ((w.alloc (.cells #[.string key, .slice ao L.length cap] 24)).alloc (.cells #[.string q.key, .slice bo q.l.length cb] 27)) w.heap.size (.string key) (.slice ao L.length cap) := (DAt.new w 24 (.string key) (.slice ao L.length cap)).keep0 ((Keep.refl _ _).alloc _)
  have hZ : DAt ((w.alloc (.cells #[.string key, .slice ao L.length cap] 24)).alloc (.cells #[.string q.key, .slice bo q.l.length cb] 27)) (w.heap.size + 1) (.string q.key) (.slice bo q.l.length cb) := by
    have := DAt.new (w.alloc (.cells #[.string key, .slice ao L.length cap] 24)) 27 (.string q.key) (.slice bo q.l.length cb)
    rw [World.size_alloc] at this
    exact this
  have yw := awake18 V.toUpR ((w.alloc (.cells #[.string key, .slice ao L.length cap] 24)).alloc (.cells #[.string q.key, .slice bo q.l.length cb] 27))
  have HA : Hid (PosAt w ao L) := hA
  have HB : Hid (SibsAt w bo q.l) := hB
  clear hA hB
  cases hga : olGreat ⟨key, L.map Po.x⟩ with
  | true =>
    rw [hga] at yga
    go_enter Tryz.func3, Tryz.ntmps3
    go_wp2_with fail
    generalize ((w.alloc (.cells #[.string key, .slice ao L.length cap] 24)).alloc (.cells #[.string q.key, .slice bo q.l.length cb] 27)) = WB at *
    generalize w.heap.size = gA at *
    refine yw.mono ?_
    rintro e w1 ⟨rfl, k1⟩
    have K1 := kB.trans k1
    obtain ⟨a0, a1, af0, af1⟩ := (hX.keep0 k1).cells
    obtain ⟨b0, b1, bf0, bf1⟩ := (hZ.keep0 k1).cells
    clear yw kB k1 hX hZ af0 af1 bf0 bf1
    go_wp2_with fail
    refine (yga w1 (HA.out.keep0 K1)).mono ?_
    rintro e w2 ⟨rfl, k⟩
    replace a0 := k.cell a0 (fun f => f)
    replace a1 := k.cell a1 (fun f => f)
    replace b0 := k.cell b0 (fun f => f)
    replace b1 := k.cell b1 (fun f => f)
    have K2 := K1.trans k
    clear K1
    go_wp2
    go_ret
    exact ⟨rfl, K2⟩
  | false =>
    rw [hga] at yga
    cases hgb : oGreat q with
    | true =>
      rw [hgb] at ygb
      go_enter Tryz.func3, Tryz.ntmps3
      go_wp2_with fail
      generalize ((w.alloc (.cells #[.string key, .slice ao L.length cap] 24)).alloc (.cells #[.string q.key, .slice bo q.l.length cb] 27)) = WB at *
      generalize w.heap.size = gA at *
      refine yw.mono ?_
      rintro e w1 ⟨rfl, k1⟩
      have K1 := kB.trans k1
      obtain ⟨a0, a1, af0, af1⟩ := (hX.keep0 k1).cells
      obtain ⟨b0, b1, bf0, bf1⟩ := (hZ.keep0 k1).cells
      clear yw kB k1 hX hZ af0 af1 bf0 bf1
      go_wp2_with fail
      refine (yga w1 (HA.out.keep0 K1)).mono ?_
      rintro e w2 ⟨rfl, k⟩
      replace a0 := k.cell a0 (fun f => f)
      replace a1 := k.cell a1 (fun f => f)
      replace b0 := k.cell b0 (fun f => f)
      replace b1 := k.cell b1 (fun f => f)
      have K2 := K1.trans k
      clear K1
      go_wp2_with fail
      refine (ygb w2 (HB.out.keep0 K2)).mono ?_
      rintro e w3 ⟨rfl, k⟩
      replace a0 := k.cell a0 (fun f => f)
      replace a1 := k.cell a1 (fun f => f)
      replace b0 := k.cell b0 (fun f => f)
      replace b1 := k.cell b1 (fun f => f)
      have K3 := K2.trans k
      clear K2
      go_wp2
      go_ret
      exact ⟨rfl, K3⟩
    | false =>
      rw [hgb] at ygb
      obtain ⟨ox, hx20⟩ := great_ok17 hf hga
      have oq : Ok16 q := great_ok18 fq hgb
      have yu := fun W (h : PosAt W ao L) => V.up W key ao cap L ox hcp.1 hcp.2 h
      have yru := fun W (h : PosAt W ao L) => rup18 W key hk ao cap L hl hf h
      have yd := fun W (h : SibsAt W bo q.l) => V.down W bo cb q oq cq h
      have yrd := fun W (h : SibsAt W bo q.l) => rdown18 W bo cb q fq h
      have ypl := fun W (h : SibsAt W bo q.l) => V.plain W bo cb q oq cq h
      have yrp := fun W (h : SibsAt W bo q.l) => rplain18 W bo cb q fq h
      have okU := (up_fit18 (o := ⟨key, L.map Po.x⟩) ox.u).fit
      have okD : ∀ M : List Po, M.map Po.x = (oDown q).1.l → M.length ≤ maxLen ∧ ∀ p ∈ M, FitsOs p.x := fun M h => down_fit18 fq h
      generalize oPlain q = PL at *
      generalize oUp ⟨key, L.map Po.x⟩ = U at *
      generalize oDown q = D at *
      have HD : Hid (∀ M : List Po, M.map Po.x = D.1.l → M.length ≤ maxLen ∧ ∀ p ∈ M, FitsOs p.x) := okD
      have ysu := fun W ao cap bo cb (h : SibsAt W ao U.1.l) (h' : SibsAt W bo U.1.l) => rsame16 W ao cap U.1 bo cb U.1 okU okU h h'
      rw [oSame_iff.2 rfl] at ysu
      clear hga hgb ox oq hk hl hcp hf hx20 okU okD
      go_enter Tryz.func3, Tryz.ntmps3
      go_wp2_with fail
      generalize ((w.alloc (.cells #[.string key, .slice ao L.length cap] 24)).alloc (.cells #[.string q.key, .slice bo q.l.length cb] 27)) = WB at *
      generalize w.heap.size = gA at *
      refine yw.mono ?_
      rintro e w1 ⟨rfl, k1⟩
      have K1 := kB.trans k1
      obtain ⟨a0, a1, af0, af1⟩ := (hX.keep0 k1).cells
      obtain ⟨b0, b1, bf0, bf1⟩ := (hZ.keep0 k1).cells
      clear yw kB k1 hX hZ af0 af1 bf0 bf1
      go_wp2_with fail
      refine (yga w1 (HA.out.keep0 K1)).mono ?_
      rintro e w2 ⟨rfl, k⟩
      replace a0 := k.cell a0 (fun f => f)
      replace a1 := k.cell a1 (fun f => f)
      replace b0 := k.cell b0 (fun f => f)
      replace b1 := k.cell b1 (fun f => f)
      have K2 := K1.trans k
      clear K1
      clear k
      go_wp2_with fail
      refine (ygb w2 (HB.out.keep0 K2)).mono ?_
      rintro e w3 ⟨rfl, k⟩
      replace a0 := k.cell a0 (fun f => f)
      replace a1 := k.cell a1 (fun f => f)
      replace b0 := k.cell b0 (fun f => f)
      replace b1 := k.cell b1 (fun f => f)
      have K3 := K2.trans k
      clear K2
      clear k
      go_wp2_with fail
      refine (yu w3 (HA.out.keep0 K3)).mono ?_
      rintro e w4 ⟨po1, pc1, P1, rfl, hP1, hu1, -, k⟩
      replace a0 := k.cell a0 (fun f => f)
      replace a1 := k.cell a1 (fun f => f)
      replace b0 := k.cell b0 (fun f => f)
      replace b1 := k.cell b1 (fun f => f)
      have K4 := K3.trans k
      clear K3
      have s1 := hu1.sibs
      rw [hP1] at s1
      clear hu1 hP1 k yu
      have kz : Keep0 w4 (w4.alloc (.cells #[.string U.1.key, .slice po1 U.1.l.length pc1] 27)) := (Keep.refl _ _).alloc _
      have c0 : (w4.alloc (.cells #[.string U.1.key, .slice po1 U.1.l.length pc1] 27)).cell? ⟨w4.heap.size, 0, none⟩ = some (.string U.1.key) := cell_alloc w4 _ rfl
      have c1 : (w4.alloc (.cells #[.string U.1.key, .slice po1 U.1.l.length pc1] 27)).cell? ⟨w4.heap.size, 1, none⟩ = some (.slice po1 U.1.l.length pc1) := cell_alloc w4 _ rfl
      replace a0 := kz.cell a0 (fun f => f)
      replace a1 := kz.cell a1 (fun f => f)
      replace b0 := kz.cell b0 (fun f => f)
      replace b1 := kz.cell b1 (fun f => f)
      replace s1 := s1.keep0 kz
      have K5 := K4.trans kz
      clear kz K4
      go_wp2_with fail
      generalize (w4.alloc (.cells #[.string U.1.key, .slice po1 U.1.l.length pc1] 27)) = w5 at *
      generalize w4.heap.size = g5 at *
      refine (yru w5 (HA.out.keep0 K5)).mono ?_
      rintro e w6 ⟨po2, pc2, P2, rfl, hP2, hu2, -, k⟩
      replace a0 := k.cell a0 (fun f => f)
      replace a1 := k.cell a1 (fun f => f)
      replace b0 := k.cell b0 (fun f => f)
      replace b1 := k.cell b1 (fun f => f)
      replace c0 := k.cell c0 (fun f => f)
      replace c1 := k.cell c1 (fun f => f)
      have K6 := K5.trans k
      clear K5
      have s2 := hu2.sibs
      rw [hP2] at s2
      replace s1 := s1.keep0 k
      clear hu2 hP2 k yru
      have kz : Keep0 w6 (w6.alloc (.cells #[.string U.1.key, .slice po2 U.1.l.length pc2] 27)) := (Keep.refl _ _).alloc _
      have d0 : (w6.alloc (.cells #[.string U.1.key, .slice po2 U.1.l.length pc2] 27)).cell? ⟨w6.heap.size, 0, none⟩ = some (.string U.1.key) := cell_alloc w6 _ rfl
      have d1 : (w6.alloc (.cells #[.string U.1.key, .slice po2 U.1.l.length pc2] 27)).cell? ⟨w6.heap.size, 1, none⟩ = some (.slice po2 U.1.l.length pc2) := cell_alloc w6 _ rfl
      replace a0 := kz.cell a0 (fun f => f)
      replace a1 := kz.cell a1 (fun f => f)
      replace b0 := kz.cell b0 (fun f => f)
      replace b1 := kz.cell b1 (fun f => f)
      replace c0 := kz.cell c0 (fun f => f)
      replace c1 := kz.cell c1 (fun f => f)
      replace s1 := s1.keep0 kz
      replace s2 := s2.keep0 kz
      have K7 := K6.trans kz
      clear kz K6
      go_wp2_with fail
      generalize (w6.alloc (.cells #[.string U.1.key, .slice po2 U.1.l.length pc2] 27)) = w7 at *
      generalize w6.heap.size = g7 at *
      refine (yd w7 (HB.out.keep0 K7)).mono ?_
      rintro e w8 ⟨po3, pc3, L3, rfl, hL3, _, _, s3, k⟩
      replace a0 := k.cell a0 (fun f => f)
      replace a1 := k.cell a1 (fun f => f)
      replace b0 := k.cell b0 (fun f => f)
      replace b1 := k.cell b1 (fun f => f)
      replace c0 := k.cell c0 (fun f => f)
      replace c1 := k.cell c1 (fun f => f)
      replace d0 := k.cell d0 (fun f => f)
      replace d1 := k.cell d1 (fun f => f)
      have K8 := K7.trans k
      clear K7
      replace s1 := s1.keep0 k
      replace s2 := s2.keep0 k
      clear k yd
      have kz : Keep0 w8 (w8.alloc (.cells #[.string D.1.key, .slice po3 L3.length pc3] 24)) := (Keep.refl _ _).alloc _
      have e0 : (w8.alloc (.cells #[.string D.1.key, .slice po3 L3.length pc3] 24)).cell? ⟨w8.heap.size, 0, none⟩ = some (.string D.1.key) := cell_alloc w8 _ rfl
      have e1 : (w8.alloc (.cells #[.string D.1.key, .slice po3 L3.length pc3] 24)).cell? ⟨w8.heap.size, 1, none⟩ = some (.slice po3 L3.length pc3) := cell_alloc w8 _ rfl
      replace a0 := kz.cell a0 (fun f => f)
      replace a1 := kz.cell a1 (fun f => f)
      replace b0 := kz.cell b0 (fun f => f)
      replace b1 := kz.cell b1 (fun f => f)
      replace c0 := kz.cell c0 (fun f => f)
      replace c1 := kz.cell c1 (fun f => f)
      replace d0 := kz.cell d0 (fun f => f)
      replace d1 := kz.cell d1 (fun f => f)
      replace s1 := s1.keep0 kz
      replace s2 := s2.keep0 kz
      replace s3 := s3.keep0 kz
      have K9 := K8.trans kz
      clear kz K8
      go_wp2_with fail
      generalize (w8.alloc (.cells #[.string D.1.key, .slice po3 L3.length pc3] 24)) = w9 at *
      generalize w8.heap.size = g9 at *
      refine (yrd w9 (HB.out.keep0 K9)).mono ?_
      rintro e w10 ⟨po4, pc4, L4, rfl, hL4, _, _, s4, k⟩
      replace a0 := k.cell a0 (fun f => f)
      replace a1 := k.cell a1 (fun f => f)
      replace b0 := k.cell b0 (fun f => f)
      replace b1 := k.cell b1 (fun f => f)
      replace c0 := k.cell c0 (fun f => f)
      replace c1 := k.cell c1 (fun f => f)
      replace d0 := k.cell d0 (fun f => f)
      replace d1 := k.cell d1 (fun f => f)
      replace e0 := k.cell e0 (fun f => f)
      replace e1 := k.cell e1 (fun f => f)
      have K10 := K9.trans k
      clear K9
      replace s1 := s1.keep0 k
      replace s2 := s2.keep0 k
      replace s3 := s3.keep0 k
      clear k yrd
      have kz : Keep0 w10 (w10.alloc (.cells #[.string D.1.key, .slice po4 L4.length pc4] 24)) := (Keep.refl _ _).alloc _
      have f0 : (w10.alloc (.cells #[.string D.1.key, .slice po4 L4.length pc4] 24)).cell? ⟨w10.heap.size, 0, none⟩ = some (.string D.1.key) := cell_alloc w10 _ rfl
      have f1 : (w10.alloc (.cells #[.string D.1.key, .slice po4 L4.length pc4] 24)).cell? ⟨w10.heap.size, 1, none⟩ = some (.slice po4 L4.length pc4) := cell_alloc w10 _ rfl
      replace a0 := kz.cell a0 (fun f => f)
      replace a1 := kz.cell a1 (fun f => f)
      replace b0 := kz.cell b0 (fun f => f)
      replace b1 := kz.cell b1 (fun f => f)
      replace c0 := kz.cell c0 (fun f => f)
      replace c1 := kz.cell c1 (fun f => f)
      replace d0 := kz.cell d0 (fun f => f)
      replace d1 := kz.cell d1 (fun f => f)
      replace e0 := kz.cell e0 (fun f => f)
      replace e1 := kz.cell e1 (fun f => f)
      replace s1 := s1.keep0 kz
      replace s2 := s2.keep0 kz
      replace s3 := s3.keep0 kz
      replace s4 := s4.keep0 kz
      have K11 := K10.trans kz
      clear kz K10
      go_wp2_with fail
      generalize (w10.alloc (.cells #[.string D.1.key, .slice po4 L4.length pc4] 24)) = w11 at *
      generalize w10.heap.size = g11 at *
      have HS1 : Hid (SibsAt w11 po1 U.1.l) := s1
      have HS2 : Hid (SibsAt w11 po2 U.1.l) := s2
      have HS3 : Hid (PosAt w11 po3 L3) := s3
      have HS4 : Hid (PosAt w11 po4 L4) := s4
      have HKn : Hid (Keep0 w w11) := K11
      obtain ⟨d3, e3⟩ := HD.out L3 hL3
      obtain ⟨d4, e4⟩ := HD.out L4 hL4
      have hso : olSame ⟨D.1.key, L3.map Po.x⟩ ⟨D.1.key, L4.map Po.x⟩ = true := olSame_iff.2 (by rw [hL3, hL4])
      have zs := fun W (K : Keep0 w11 W) => ysu W po1 pc1 po2 pc2 (HS1.out.keep0 K) (HS2.out.keep0 K)
      have zo := fun W (K : Keep0 w11 W) => rsame17 W D.1.key po3 pc3 L3 d3 e3 (HS3.out.keep0 K) D.1.key po4 pc4 L4 d4 e4 (HS4.out.keep0 K)
      rw [hso] at zo
      have zp := fun W (K : Keep0 w11 W) => ypl W (HB.out.keep0 (HKn.out.trans K))
      have zq := fun W (K : Keep0 w11 W) => yrp W (HB.out.keep0 (HKn.out.trans K))
      clear s1 s2 s3 s4 d3 d4 e3 e4 hso hL3 hL4 K11 ysu ypl yrp a0 a1
      have b0 : w11.cell? ⟨gA + 1, 0, none⟩ = some (.string q.key) := b0
      have b1 : w11.cell? ⟨gA + 1, 1, none⟩ = some (.slice bo q.l.length cb) := b1
      have c0 : w11.cell? ⟨g5, 0, none⟩ = some (.string U.1.key) := c0
      have c1 : w11.cell? ⟨g5, 1, none⟩ = some (.slice po1 U.1.l.length pc1) := c1
      have d0 : w11.cell? ⟨g7, 0, none⟩ = some (.string U.1.key) := d0
      have d1 : w11.cell? ⟨g7, 1, none⟩ = some (.slice po2 U.1.l.length pc2) := d1
      have e0 : w11.cell? ⟨g9, 0, none⟩ = some (.string D.1.key) := e0
      have e1 : w11.cell? ⟨g9, 1, none⟩ = some (.slice po3 L3.length pc3) := e1
      have f0 : w11.cell? ⟨g11, 0, none⟩ = some (.string D.1.key) := f0
      have f1 : w11.cell? ⟨g11, 1, none⟩ = some (.slice po4 L4.length pc4) := f1
      refine wp_region_held_drew (S := (fun W => W.cell? ⟨gA + 1, 0, none⟩ = some (.string q.key) ∧ W.cell? ⟨gA + 1, 1, none⟩ = some (.slice bo q.l.length cb) ∧ W.cell? ⟨g5, 0, none⟩ = some (.string U.1.key) ∧ W.cell? ⟨g5, 1, none⟩ = some (.slice po1 U.1.l.length pc1) ∧ W.cell? ⟨g7, 0, none⟩ = some (.string U.1.key) ∧ W.cell? ⟨g7, 1, none⟩ = some (.slice po2 U.1.l.length pc2) ∧ W.cell? ⟨g9, 0, none⟩ = some (.string D.1.key) ∧ W.cell? ⟨g9, 1, none⟩ = some (.slice po3 L3.length pc3) ∧ W.cell? ⟨g11, 0, none⟩ = some (.string D.1.key) ∧ W.cell? ⟨g11, 1, none⟩ = some (.slice po4 L4.length pc4))) (by kernel_rfl) ⟨b0, b1, c0, c1, d0, d1, e0, e1, f0, f1⟩ (fun hHeld => ?_)
      refine wpAnyH_take (i := 0) (v := ?t0v) (by simp only [List.getElem?_toArray, List.getElem?_cons_zero] <;> rfl) (by kernel_rfl) (by kernel_rfl) (by kernel_rfl) (by exact fun _ _ _ h => h) (Or.inl ⟨by rfl, ?t0y⟩) hHeld ?t0r
      case t0y => intro w hSw; (try dsimp only at hSw); go_simp <;> rfl
      simp only [Act.put, List.setIfInBounds_toArray, List.set_cons_zero, List.set_cons_succ]
      refine wpAnyH_take (i := 1) (v := ?t1v) (by simp only [List.getElem?_toArray, List.getElem?_cons_succ, List.getElem?_cons_zero] <;> rfl) (by kernel_rfl) (by kernel_rfl) (by kernel_rfl) (by exact fun _ _ _ h => h) (Or.inl ⟨by rfl, ?t1y⟩) hHeld ?t1r
      case t1y => intro w hSw; (try dsimp only at hSw); go_simp <;> rfl
      simp only [Act.put, List.setIfInBounds_toArray, List.set_cons_zero, List.set_cons_succ]
      refine wpAnyH_ready (rs := [2]) (by kernel_rfl) (by simp) ?_
      refine AllReadyH.cons (by simp only [List.getElem?_toArray, List.getElem?_cons_succ, List.getElem?_cons_zero] <;> rfl) (fun K hK => ?_) AllReadyH.nil
      go_simp
      refine (zs _ ((Keep.refl (fun _ => False) w11).drew)).mono ?_
      rintro e u1 ⟨rfl, kx⟩
      have ku1 : Keep0 w11 u1 := ((Keep.refl (fun _ => False) w11).drew).trans kx
      clear kx
      go_wp2_with fail
      refine hK.out _ _ ⟨ku1.cell b0 (fun f => f), ku1.cell b1 (fun f => f), ku1.cell c0 (fun f => f), ku1.cell c1 (fun f => f), ku1.cell d0 (fun f => f), ku1.cell d1 (fun f => f), ku1.cell e0 (fun f => f), ku1.cell e1 (fun f => f), ku1.cell f0 (fun f => f), ku1.cell f1 (fun f => f)⟩ (fun hHeld => ?_)
      clear hK K
      refine wpAnyH_take (i := 3) (v := ?t2v) (by simp only [List.getElem?_toArray, List.getElem?_cons_succ, List.getElem?_cons_zero] <;> rfl) (by kernel_rfl) (by kernel_rfl) (by kernel_rfl) (by exact fun _ _ _ h => h) (Or.inl ⟨by rfl, ?t2y⟩) hHeld ?t2r
      case t2y => intro w hSw; (try dsimp only at hSw); go_simp <;> rfl
      simp only [Act.put, List.setIfInBounds_toArray, List.set_cons_zero, List.set_cons_succ]
      refine wpAnyH_take (i := 4) (v := ?t3v) (by simp only [List.getElem?_toArray, List.getElem?_cons_succ, List.getElem?_cons_zero] <;> rfl) (by kernel_rfl) (by kernel_rfl) (by kernel_rfl) (by exact fun _ _ _ h => h) (Or.inl ⟨by rfl, ?t3y⟩) hHeld ?t3r
      case t3y => intro w hSw; (try dsimp only at hSw); go_simp <;> rfl
      simp only [Act.put, List.setIfInBounds_toArray, List.set_cons_zero, List.set_cons_succ]
      refine wpAnyH_take (i := 5) (v := ?t4v) (by simp only [List.getElem?_toArray, List.getElem?_cons_succ, List.getElem?_cons_zero] <;> rfl) (by kernel_rfl) (by kernel_rfl) (by kernel_rfl) (by exact fun _ _ _ h => h) (Or.inl ⟨by rfl, ?t4y⟩) hHeld ?t4r
      case t4y => intro w hSw; (try dsimp only at hSw); go_simp <;> rfl
      simp only [Act.put, List.setIfInBounds_toArray, List.set_cons_zero, List.set_cons_succ]
      refine wpAnyH_take (i := 6) (v := ?t5v) (by simp only [List.getElem?_toArray, List.getElem?_cons_succ, List.getElem?_cons_zero] <;> rfl) (by kernel_rfl) (by kernel_rfl) (by kernel_rfl) (by exact fun _ _ _ h => h) (Or.inl ⟨by rfl, ?t5y⟩) hHeld ?t5r
      case t5y => intro w hSw; (try dsimp only at hSw); go_simp <;> rfl
      simp only [Act.put, List.setIfInBounds_toArray, List.set_cons_zero, List.set_cons_succ]
      refine wpAnyH_take (i := 7) (v := ?t6v) (by simp only [List.getElem?_toArray, List.getElem?_cons_succ, List.getElem?_cons_zero] <;> rfl) (by kernel_rfl) (by kernel_rfl) (by kernel_rfl) (by exact fun _ _ _ h => h) (Or.inl ⟨by rfl, ?t6y⟩) hHeld ?t6r
      case t6y => intro w hSw; (try dsimp only at hSw); go_simp <;> rfl
      simp only [Act.put, List.setIfInBounds_toArray, List.set_cons_zero, List.set_cons_succ]
      refine wpAnyH_take (i := 8) (v := ?t7v) (by simp only [List.getElem?_toArray, List.getElem?_cons_succ, List.getElem?_cons_zero] <;> rfl) (by kernel_rfl) (by kernel_rfl) (by kernel_rfl) (by exact fun _ _ _ h => h) (Or.inl ⟨by rfl, ?t7y⟩) hHeld ?t7r
      case t7y => intro w hSw; (try dsimp only at hSw); go_simp <;> rfl
      simp only [Act.put, List.setIfInBounds_toArray, List.set_cons_zero, List.set_cons_succ]
      refine wpAnyH_take (i := 9) (v := ?t8v) (by simp only [List.getElem?_toArray, List.getElem?_cons_succ, List.getElem?_cons_zero] <;> rfl) (by kernel_rfl) (by kernel_rfl) (by kernel_rfl) (by exact fun _ _ _ h => h) (Or.inl ⟨by rfl, ?t8y⟩) hHeld ?t8r
      case t8y => intro w hSw; (try dsimp only at hSw); go_simp <;> rfl
      simp only [Act.put, List.setIfInBounds_toArray, List.set_cons_zero, List.set_cons_succ]
      refine wpAnyH_take (i := 10) (v := ?t9v) (by simp only [List.getElem?_toArray, List.getElem?_cons_succ, List.getElem?_cons_zero] <;> rfl) (by kernel_rfl) (by kernel_rfl) (by kernel_rfl) (by exact fun _ _ _ h => h) (Or.inl ⟨by rfl, ?t9y⟩) hHeld ?t9r
      case t9y => intro w hSw; (try dsimp only at hSw); go_simp <;> rfl
      simp only [Act.put, List.setIfInBounds_toArray, List.set_cons_zero, List.set_cons_succ]
      refine wpAnyH_ready (rs := [11]) (by kernel_rfl) (by simp) ?_
      refine AllReadyH.cons (by simp only [List.getElem?_toArray, List.getElem?_cons_succ, List.getElem?_cons_zero] <;> rfl) (fun K hK => ?_) AllReadyH.nil
      go_simp
      refine (zo _ (ku1)).mono ?_
      rintro e u2 ⟨rfl, kx⟩
      have ku2 : Keep0 w11 u2 := (ku1).trans kx
      clear kx
      go_wp2_with fail
      refine hK.out _ _ ⟨ku2.cell b0 (fun f => f), ku2.cell b1 (fun f => f), ku2.cell c0 (fun f => f), ku2.cell c1 (fun f => f), ku2.cell d0 (fun f => f), ku2.cell d1 (fun f => f), ku2.cell e0 (fun f => f), ku2.cell e1 (fun f => f), ku2.cell f0 (fun f => f), ku2.cell f1 (fun f => f)⟩ (fun hHeld => ?_)
      clear hK K
      refine wpAnyH_take (i := 12) (v := ?t10v) (by simp only [List.getElem?_toArray, List.getElem?_cons_succ, List.getElem?_cons_zero] <;> rfl) (by kernel_rfl) (by kernel_rfl) (by kernel_rfl) (by exact fun _ _ _ h => h) (Or.inl ⟨by rfl, ?t10y⟩) hHeld ?t10r
      case t10y => intro w hSw; (try dsimp only at hSw); go_simp <;> rfl
      simp only [Act.put, List.setIfInBounds_toArray, List.set_cons_zero, List.set_cons_succ]
      refine wpAnyH_take (i := 13) (v := ?t11v) (by simp only [List.getElem?_toArray, List.getElem?_cons_succ, List.getElem?_cons_zero] <;> rfl) (by kernel_rfl) (by kernel_rfl) (by kernel_rfl) (by exact fun _ _ _ h => h) (Or.inl ⟨by rfl, ?t11y⟩) hHeld ?t11r
      case t11y => intro w hSw; (try dsimp only at hSw); go_simp <;> rfl
      simp only [Act.put, List.setIfInBounds_toArray, List.set_cons_zero, List.set_cons_succ]
      refine wpAnyH_take (i := 14) (v := ?t12v) (by simp only [List.getElem?_toArray, List.getElem?_cons_succ, List.getElem?_cons_zero] <;> rfl) (by kernel_rfl) (by kernel_rfl) (by kernel_rfl) (by exact fun _ _ _ h => h) (Or.inl ⟨by rfl, ?t12y⟩) hHeld ?t12r
      case t12y => intro w hSw; (try dsimp only at hSw); go_simp <;> rfl
      simp only [Act.put, List.setIfInBounds_toArray, List.set_cons_zero, List.set_cons_succ]
      refine wpAnyH_take (i := 15) (v := ?t13v) (by simp only [List.getElem?_toArray, List.getElem?_cons_succ, List.getElem?_cons_zero] <;> rfl) (by kernel_rfl) (by kernel_rfl) (by kernel_rfl) (by exact fun _ _ _ h => h) (Or.inl ⟨by rfl, ?t13y⟩) hHeld ?t13r
      case t13y => intro w hSw; (try dsimp only at hSw); go_simp <;> rfl
      simp only [Act.put, List.setIfInBounds_toArray, List.set_cons_zero, List.set_cons_succ]
      refine wpAnyH_take (i := 16) (v := ?t14v) (by simp only [List.getElem?_toArray, List.getElem?_cons_succ, List.getElem?_cons_zero] <;> rfl) (by kernel_rfl) (by kernel_rfl) (by kernel_rfl) (by exact fun _ _ _ h => h) (Or.inl ⟨by rfl, ?t14y⟩) hHeld ?t14r
      case t14y => intro w hSw; (try dsimp only at hSw); go_simp <;> rfl
      simp only [Act.put, List.setIfInBounds_toArray, List.set_cons_zero, List.set_cons_succ]
      refine wpAnyH_take (i := 17) (v := ?t15v) (by simp only [List.getElem?_toArray, List.getElem?_cons_succ, List.getElem?_cons_zero] <;> rfl) (by kernel_rfl) (by kernel_rfl) (by kernel_rfl) (by exact fun _ _ _ h => h) (Or.inl ⟨by rfl, ?t15y⟩) hHeld ?t15r
      case t15y => intro w hSw; (try dsimp only at hSw); go_simp <;> rfl
      simp only [Act.put, List.setIfInBounds_toArray, List.set_cons_zero, List.set_cons_succ]
      refine wpAnyH_take (i := 18) (v := ?t16v) (by simp only [List.getElem?_toArray, List.getElem?_cons_succ, List.getElem?_cons_zero] <;> rfl) (by kernel_rfl) (by kernel_rfl) (by kernel_rfl) (by exact fun _ _ _ h => h) (Or.inl ⟨by rfl, ?t16y⟩) hHeld ?t16r
      case t16y => intro w hSw; (try dsimp only at hSw); go_simp <;> rfl
      simp only [Act.put, List.setIfInBounds_toArray, List.set_cons_zero, List.set_cons_succ]
      refine wpAnyH_take (i := 19) (v := ?t17v) (by simp only [List.getElem?_toArray, List.getElem?_cons_succ, List.getElem?_cons_zero] <;> rfl) (by kernel_rfl) (by kernel_rfl) (by kernel_rfl) (by exact fun _ _ _ h => h) (Or.inl ⟨by rfl, ?t17y⟩) hHeld ?t17r
      case t17y => intro w hSw; (try dsimp only at hSw); go_simp <;> rfl
      simp only [Act.put, List.setIfInBounds_toArray, List.set_cons_zero, List.set_cons_succ]
      refine wpAnyH_take (i := 21) (v := ?t18v) (by simp only [List.getElem?_toArray, List.getElem?_cons_succ, List.getElem?_cons_zero] <;> rfl) (by kernel_rfl) (by kernel_rfl) (by kernel_rfl) (by exact fun _ _ _ h => h) (Or.inl ⟨by rfl, ?t18y⟩) hHeld ?t18r
      case t18y => intro w hSw; (try dsimp only at hSw); go_simp <;> rfl
      simp only [Act.put, List.setIfInBounds_toArray, List.set_cons_zero, List.set_cons_succ]
      refine wpAnyH_ready (rs := [20]) (by kernel_rfl) (by simp) ?_
      refine AllReadyH.cons (by simp only [List.getElem?_toArray, List.getElem?_cons_succ, List.getElem?_cons_zero] <;> rfl) (fun K hK => ?_) AllReadyH.nil
      go_simp
      refine (zp _ (ku2)).mono ?_
      rintro e u3 ⟨rfl, kx⟩
      have ku3 : Keep0 w11 u3 := (ku2).trans kx
      clear kx
      go_wp2_with fail
      refine hK.out _ _ ⟨ku3.cell b0 (fun f => f), ku3.cell b1 (fun f => f), ku3.cell c0 (fun f => f), ku3.cell c1 (fun f => f), ku3.cell d0 (fun f => f), ku3.cell d1 (fun f => f), ku3.cell e0 (fun f => f), ku3.cell e1 (fun f => f), ku3.cell f0 (fun f => f), ku3.cell f1 (fun f => f)⟩ (fun hHeld => ?_)
      clear hK K
      refine wpAnyH_ready (rs := [22]) (by kernel_rfl) (by simp) ?_
      refine AllReadyH.cons (by simp only [List.getElem?_toArray, List.getElem?_cons_succ, List.getElem?_cons_zero] <;> rfl) (fun K hK => ?_) AllReadyH.nil
      go_simp
      refine (zq _ (ku3)).mono ?_
      rintro e u4 ⟨rfl, kx⟩
      have ku4 : Keep0 w11 u4 := (ku3).trans kx
      clear kx
      go_wp2_with fail
      refine hK.out _ _ ⟨ku4.cell b0 (fun f => f), ku4.cell b1 (fun f => f), ku4.cell c0 (fun f => f), ku4.cell c1 (fun f => f), ku4.cell d0 (fun f => f), ku4.cell d1 (fun f => f), ku4.cell e0 (fun f => f), ku4.cell e1 (fun f => f), ku4.cell f0 (fun f => f), ku4.cell f1 (fun f => f)⟩ (fun hHeld => ?_)
      clear hK K
      refine wpAnyH_take (i := 23) (v := ?t19v) (by simp only [List.getElem?_toArray, List.getElem?_cons_succ, List.getElem?_cons_zero] <;> rfl) (by kernel_rfl) (by kernel_rfl) (by kernel_rfl) (by exact fun _ _ _ h => h) (Or.inl ⟨by rfl, ?t19y⟩) hHeld ?t19r
      case t19y => intro w hSw; (try dsimp only at hSw); go_simp <;> rfl
      simp only [Act.put, List.setIfInBounds_toArray, List.set_cons_zero, List.set_cons_succ]
      refine wpAnyH_take (i := 24) (v := ?t20v) (by simp only [List.getElem?_toArray, List.getElem?_cons_succ, List.getElem?_cons_zero] <;> rfl) (by kernel_rfl) (by kernel_rfl) (by kernel_rfl) (by exact fun _ _ _ h => h) (Or.inl ⟨by rfl, ?t20y⟩) hHeld ?t20r
      case t20y => intro w hSw; (try dsimp only at hSw); go_simp <;> rfl
      simp only [Act.put, List.setIfInBounds_toArray, List.set_cons_zero, List.set_cons_succ]
      refine wpAnyH_take (i := 25) (v := ?t21v) (by simp only [List.getElem?_toArray, List.getElem?_cons_succ, List.getElem?_cons_zero] <;> rfl) (by kernel_rfl) (by kernel_rfl) (by kernel_rfl) (by exact fun _ _ _ h => h) (Or.inl ⟨by rfl, ?t21y⟩) hHeld ?t21r
      case t21y => intro w hSw; (try dsimp only at hSw); go_simp <;> rfl
      simp only [Act.put, List.setIfInBounds_toArray, List.set_cons_zero, List.set_cons_succ]
      refine wpAnyH_done (by kernel_rfl) ?_ _
      clear hHeld zs zo zp zq
      have KF := HKn.out.trans ku4
      clear ku1 ku2 ku3 ku4 b0 b1 c0 c1 d0 d1 e0 e1 f0 f1
      go_wp2
      go_ret
      exact ⟨by simp, KF⟩
end Go.Proofs.YtoefibkhlhmlfaaGreat
namespace Go.Proofs.YtoefibkhlhmlfaaGreat
open Go.RowKit
def RPlC (v : List En) (w : World) (e : Ending) (w' : World) : Prop := ∃ bo c, e = .returned (.agg #[.slice bo v.length c, .bool false, .string ⟨#[]⟩, .int .u64 0]) ∧ EnsAt w' bo v ∧ (∀ g off m, bo = some ⟨g, off, m⟩ → w.heap.size ≤ g) ∧ Keep0 w w'
set_option maxRecDepth 100000 in
set_option maxHeartbeats 4000000 in
theorem plainC18 (w : World) (ao : Option Addr) (cap : Nat) (v : List En) (hv : v.length ≤ 10000) (hc : EnsAt w ao v) :
    Calls Tryz.prog 30 #[.slice ao v.length cap] w (RPlC v w) := by
  have HP : Hid (∀ (e : Ending) (W : World) (bo : Option Addr) (c : Nat), e = .returned (.agg #[.slice bo v.length c, .bool false, .string ⟨#[]⟩, .int .u64 0]) → EnsAt W bo v → (∀ g off m, bo = some ⟨g, off, m⟩ → w.heap.size ≤ g) → Keep0 w W → RPlC v w e W) := fun e W bo c h1 h2 h3 h4 => ⟨bo, c, h1, h2, h3, h4⟩
  have kA : Keep0 w (w.alloc (.cells #[.slice none 0 0, .bool false, .string ⟨#[]⟩, .int .u64 0] 58)) := (Keep.refl _ w).alloc _
  have qA := QAt.new w 58 (.slice none 0 0) (.bool false) (.string ⟨#[]⟩) (.int .u64 0)
  have hz : (w.alloc (.cells #[.slice none 0 0, .bool false, .string ⟨#[]⟩, .int .u64 0] 58)).heap.size = w.heap.size + 1 := World.size_alloc _ _
  have hE := hc.keep0 kA
  have hown : (w.alloc (.cells #[.slice none 0 0, .bool false, .string ⟨#[]⟩, .int .u64 0] 58)).ownsRow (w.heap.size + 1) 53 2 (.slice none 0 0) ([] : List En).length (enCells []) := ⟨rfl, .inl ⟨rfl, rfl⟩⟩
  have hb : w.heap.size + 1 ≤ (w.alloc (.cells #[.slice none 0 0, .bool false, .string ⟨#[]⟩, .int .u64 0] 58)).heap.size := by omega
  have hlen : ([] : List En).length + v.length ≤ 1000000 := by show 0 + v.length ≤ 1000000; omega
  clear hc hz
  go_enter Tryz.func30, Tryz.ntmps30
  go_wp2_with (at_builtin; refine wpList_append_ens (l := []) rfl _ _ rfl rfl rfl hown hE hb hlen ?_)
  intro va w2 hxa hga
  generalize (w.alloc (.cells #[.slice none 0 0, .bool false, .string ⟨#[]⟩, .int .u64 0] 58)) = W0 at *
  have k2 : Keep0 W0 w2 := (Keep.refl _ W0).ownGrown hga (fun g hg => by cases hg)
  obtain ⟨vo, vc, rfl, hEv, hVb, _⟩ := ens_of_row hxa
  have q2 := qA.keep0 k2
  have HQ : Hid (QAt w2 w.heap.size (.slice none 0 0) (.bool false) (.string ⟨#[]⟩) (.int .u64 0)) := q2
  have K2 := kA.trans k2
  have HE2 : Hid (EnsAt w2 vo v) := hEv
  have HVb : Hid (∀ b off m, vo = some ⟨b, off, m⟩ → w.heap.size + 1 ≤ b) := hVb
  have HK2 : Hid (Keep0 w w2) := K2
  obtain ⟨c0, c1, c2, c3, f0, f1, f2, f3⟩ := q2.cells
  clear hxa hga kA qA hE hown hb hlen k2 q2 hEv hVb K2
  go_wp2_with fail
  refine bodyPost_ret (retCk rfl _ _ _ rfl (HQ.out.put _ _ _ _)) rfl ?_
  refine HP.out _ _ vo vc rfl (HE2.out.keep (put4_keep w2 _ _ _ _ _) (fun b off m e f => by have h1 := HVb.out b off m e; have h2 : b = w.heap.size := f; omega)) (fun g off m e => by have := HVb.out g off m e; omega) ?_
  exact HK2.out.step (put4_keep w2 _ _ _ _ _) (fun i hi f => by have h2 : i = w.heap.size := f; omega)
set_option maxRecDepth 100000 in
theorem beyond18_any (w : World) (vo : Option Addr) (cl vc : Nat) (d : Bool) (a : ByteArray) (n : Int) (po : Option Addr) (ml pc : Nat) (dd : Bool) (v : ByteArray) (hm : ml ≤ maxLen) :
    Calls Tryz.prog 39 #[.agg #[.slice vo cl vc, .bool d, .string a, .int .u64 n, .slice po ml pc, .bool dd, .string v]] w fun e w' => e = .returned (.bool (d || decide (0 < ml))) ∧ Keep0 w w' := by
  have i0 : (ml : Int) ≤ 9223372036854775807 := by unfold maxLen at hm; omega
  have kA : Keep0 w (w.alloc (.cells #[.slice vo cl vc, .bool d, .string a, .int .u64 n, .slice po ml pc, .bool dd, .string v] 61)) := (Keep.refl _ w).alloc _
  have x1 : (w.alloc (.cells #[.slice vo cl vc, .bool d, .string a, .int .u64 n, .slice po ml pc, .bool dd, .string v] 61)).cell? ⟨w.heap.size, 1, none⟩ = some (.bool d) := cell_alloc w _ rfl
  have x4 : (w.alloc (.cells #[.slice vo cl vc, .bool d, .string a, .int .u64 n, .slice po ml pc, .bool dd, .string v] 61)).cell? ⟨w.heap.size, 4, none⟩ = some (.slice po ml pc) := cell_alloc w _ rfl
  clear hm
  cases d with
  | true =>
    rw [Bool.true_or]
    go_enter Tryz.func39, Tryz.ntmps39
    go_wp2
    go_ret
    exact ⟨rfl, kA⟩
  | false =>
    rw [Bool.false_or]
    by_cases h : 0 < ml
    · have j1 : (0 : Int) < ml := by omega
      have j2 : decide (0 < ml) = true := decide_eq_true h
      rw [j2]
      go_enter Tryz.func39, Tryz.ntmps39
      go_wp2
      go_ret
      exact ⟨rfl, kA⟩
    · have j1 : ¬ (0 : Int) < ml := by omega
      have j2 : decide (0 < ml) = false := decide_eq_false h
      rw [j2]
      go_enter Tryz.func39, Tryz.ntmps39
      go_wp2
      go_ret
      exact ⟨rfl, kA⟩
theorem beyond18 (w : World) (vo : Option Addr) (vc : Nat) (po : Option Addr) (pc : Nat) (x : Sb) (ok : Ok15 x) :
    Calls Tryz.prog 39 #[.agg #[.slice vo x.k.c.length vc, .bool x.k.d, .string x.k.x.a, .int .u64 (x.k.x.n : Int), .slice po x.m.length pc, .bool x.d, .string x.v]] w fun e w' => e = .returned (.bool (!plS x)) ∧ Keep0 w w' := by
  have e : (!plS x) = (x.k.d || decide (0 < x.m.length)) := by unfold plS; rw [Bool.not_not]
  rw [e]
  exact beyond18_any w vo _ vc _ _ _ po _ pc _ _ (by have := ok.mlen; unfold maxLen; omega)
set_option maxRecDepth 100000 in
set_option maxHeartbeats 8000000 in
theorem index18 (w : World) (ao : Option Addr) (cap : Nat) (l : List Sb) (hl : l.length ≤ maxLen) (hf : ∀ x ∈ l, Ok15 x) (hc : SibsAt w ao l) :
    Calls Tryz.prog 70 #[.slice ao l.length cap, .func (.func 39) #[] #[]] w (RIdx (l.any (fun x => !plS x)) w) := by
  have i1 : (l.length : Int) ≤ 9223372036854775807 := by unfold maxLen at hl; omega
  have HC : Hid (SibsAt w ao l) := hc
  have HF : Hid (∀ x ∈ l, Ok15 x) := hf
  obtain ⟨r, hr⟩ : ∃ r, l.any (fun x => !plS x) = r := ⟨_, rfl⟩
  rw [hr]
  have HR : Hid ((l.drop 0).any (fun x => !plS x) = r) := by rw [List.drop_zero]; exact hr
  have HM : Hid (∀ (W : World) (e : Ending) (I : Int), e = .returned (.int .i64 I) → decide (0 ≤ I) = r → Keep0 w W → RIdx r w e W) := fun _ _ _ h1 h2 h3 => ⟨_, h1, h2, h3⟩
  clear hc hf hr hl
  go_enter Tryz.func70, Tryz.ntmps70
  go_wp2_with fail
  go_loopw [8] (fun i wr => ∃ (k : Nat), i = .int .i64 (k : Int) ∧ k ≤ l.length ∧ Hid ((l.drop k).any (fun x => !plS x) = r) ∧ Keep0 w wr) (fun i _ => l.length - (intOf i).toNat)
  case atStart => exact ⟨0, rfl, by omega, HR, Keep.refl _ _⟩
  case round =>
    obtain ⟨k, rfl, hk, HK, hK⟩ := hrel
    clear HR
    by_cases hlt : k < l.length
    · have j2 : (k : Int) < l.length := by omega
      obtain ⟨b, off, vo, vc, po, pc, rfl, s1, _⟩ := (HC.out.keep0 hK) k hlt
      obtain ⟨a0, a1, a2, a3, a4, a5, a6⟩ := s1
      have yf := beyond18 wr vo vc po pc l[k] (HF.out _ (List.getElem_mem hlt))
      have hd := HK.out
      rw [List.drop_eq_getElem_cons hlt, List.any_cons] at hd
      have HD : Hid (((!plS l[k]) || (l.drop (k + 1)).any (fun x => !plS x)) = r) := hd
      clear hd HK
      generalize (!plS l[k]) = BF at *
      generalize l[k] = Y at *
      go_wp2_with fail
      refine yf.mono ?_
      rintro e w1 ⟨rfl, k1⟩
      have K1 := hK.trans k1
      clear yf k1 hK a0 a1 a2 a3 a4 a5 a6
      cases BF with
      | true =>
        have HD2 : Hid (true = r) := by have := HD.out; rw [Bool.true_or] at this; exact this
        clear HD
        go_wp2
        go_ret
        exact HM.out _ _ _ rfl (by rw [← HD2.out]; exact decide_eq_true (Int.natCast_nonneg k)) K1
      | false =>
        have HD2 : Hid ((l.drop (k + 1)).any (fun x => !plS x) = r) := by have := HD.out; rw [Bool.false_or] at this; exact this
        clear HD
        go_wp2
        go_roundw
        case rel => exact ⟨k + 1, by go_num, by omega, HD2, K1⟩
        case measure => simp [intOf]; omega
    · have j2 : ¬ (k : Int) < l.length := by omega
      have hd := HK.out
      rw [List.drop_eq_nil_of_le (by omega)] at hd
      have HD : Hid (false = r) := hd
      clear hd HK
      go_wp2
      go_ret
      exact HM.out _ _ _ rfl (by rw [← HD.out]; rfl) hK
set_option maxRecDepth 100000 in
set_option maxHeartbeats 8000000 in
theorem contains18 (w : World) (ao : Option Addr) (cap : Nat) (l : List Sb) (hl : l.length ≤ maxLen) (hf : ∀ x ∈ l, Ok15 x) (hc : SibsAt w ao l) :
    Calls Tryz.prog 38 #[.slice ao l.length cap, .func (.func 39) #[] #[]] w fun e w' => e = .returned (.bool (l.any (fun x => !plS x))) ∧ Keep0 w w' := by
  have y := index18 w ao cap l hl hf hc
  generalize l.any (fun x => !plS x) = R at *
  clear hc hf hl
  generalize l.length = n at *
  go_enter Tryz.func38, Tryz.ntmps38
  go_wp2_with fail
  refine y.mono ?_
  rintro e w1 ⟨I, rfl, hI, k1⟩
  clear y
  cases R with
  | true =>
    have h0 : (0 : Int) ≤ I := of_decide_eq_true hI
    clear hI
    go_wp2
    go_ret
    exact ⟨rfl, k1⟩
  | false =>
    have h0 : ¬ (0 : Int) ≤ I := of_decide_eq_false hI
    go_wp2
    go_ret
    exact ⟨rfl, k1⟩
set_option maxRecDepth 100000 in
set_option maxHeartbeats 8000000 in
theorem plain18 (w : World) (ao : Option Addr) (cap : Nat) (o : Ob) (ok : Ok16 o) (hcap : o.l.length ≤ cap ∧ cap ≤ maxLen) (hc : SibsAt w ao o.l) :
    Calls Tryz.prog 15 #[.agg #[.string o.key, .slice ao o.l.length cap]] w fun e w' => e = .returned (.bool (oPlain o)) ∧ Keep0 w w' := by
  have kA : Keep0 w (w.alloc (.cells #[.string o.key, .slice ao o.l.length cap] 27)) := (Keep.refl _ w).alloc _
  obtain ⟨x0, x1, xf0, xf1⟩ := (DAt.new w 27 (.string o.key) (.slice ao o.l.length cap)).cells
  have yc := check16 (w.alloc (.cells #[.string o.key, .slice ao o.l.length cap] 27)) ao cap o ok hcap (hc.keep0 kA)
  have yt := fun W (K : Keep0 w W) => contains18 W ao cap o.l ok.fit.len ok.sib (hc.keep0 K)
  have hg : oPlain o = (decide (oCheck o = 0) && !(o.l.any (fun x => !plS x))) := by unfold oPlain; rw [List.all_eq_not_any_not]
  rw [hg]
  clear hg hc ok hcap xf0 xf1
  by_cases h0 : oCheck o = 0
  case neg =>
    rw [decide_eq_false h0, Bool.false_and]
    have e0 : (oCheck o == 0) = false := beq_eq_false_iff_ne.2 h0
    clear yt
    generalize oCheck o = C at *
    generalize o.l.length = n at *
    generalize o.key = key at *
    go_enter Tryz.func15, Tryz.ntmps15
    go_wp2_with fail
    generalize (w.alloc (.cells #[.string key, .slice ao n cap] 27)) = W0 at *
    generalize w.heap.size = g at *
    refine yc.mono ?_
    rintro e w1 ⟨rfl, k1⟩
    have K1 := kA.trans k1
    clear yc k1 kA x0 x1
    go_wp2
    go_ret
    exact ⟨rfl, K1⟩
  rw [h0] at yc
  rw [decide_eq_true h0, Bool.true_and]
  generalize o.l.any (fun x => !plS x) = R at *
  clear h0
  generalize o.l.length = n at *
  generalize o.key = key at *
  go_enter Tryz.func15, Tryz.ntmps15
  go_wp2_with fail
  generalize (w.alloc (.cells #[.string key, .slice ao n cap] 27)) = W0 at *
  generalize w.heap.size = g at *
  refine yc.mono ?_
  rintro e w1 ⟨rfl, k1⟩
  have K1 := kA.trans k1
  have yt := yt w1 K1
  replace x0 := k1.cell x0 (fun f => f)
  replace x1 := k1.cell x1 (fun f => f)
  clear yc k1 kA
  go_wp2_with fail
  refine yt.mono ?_
  rintro e w2 ⟨rfl, k2⟩
  have K2 := K1.trans k2
  clear yt k2 K1 x0 x1
  go_wp2
  go_ret
  exact ⟨rfl, K2⟩
end Go.Proofs.YtoefibkhlhmlfaaGreat
