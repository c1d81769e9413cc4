/-
  What this seat's claims lean on of the texts Keeps18.
  Conditions: as each theorem states.
-/
import Derived.WalkKit
import Derived.ProofKit
import Derived.Below
import Derived.Deep.Draws
import Derived.Deep.RegionHeld
import Derived.Test.YtoefibkhlhmlfaaGreatChecked
import Derived.OpenShut
import Derived.ShutString
import Derived.WalkSpells
import Derived.WalkLawsBesides
import Derived.Deep.QuietTactic
import Derived.BigQuiet
import Derived.Laws.Bits64b
import Derived.PlainAid
import Derived.Lib.AppendStr
import Derived.Deep.AppendLies
import Derived.Laws.IdiomStrings
import Derived.Laws.BytesArg
import Derived.Deep.RegionWith
import Derived.Laws.AppendOwn
import Derived.Deep.DeepAppendWide
import Derived.Deep.Upon
import Derived.Maps.AppendAt
import Derived.Deep.Slices
import Derived.Laws.Rows
import Derived.Deep.CutRange
import Derived.Deep.RegionLaw
import Derived.Test.YtoefibkhlhmlfaaGreatZ38
import Derived.Test.YtoefibkhlhmlfaaGreatZ1
namespace Go.Proofs.YtoefibkhlhmlfaaGreat
open Go.RowKit
set_option maxRecDepth 100000 in
set_option maxHeartbeats 8000000 in
theorem upgradeKeeps_law (V : UpCode) (w : World) (key : ByteArray) (ao : Option Addr) (cap : Nat) (L : List Po) (hk : key.size ≤ maxLen) (hl : L.length ≤ maxLen) (hcp : L.length ≤ cap ∧ cap ≤ maxLen) (hf : ∀ p ∈ L, FitsOs p.x) (hA : PosAt w ao L) (key' : ByteArray) (ao' : Option Addr) (cap' : Nat) (L' : List Po) (hk' : key'.size ≤ maxLen) (hl' : L'.length ≤ maxLen) (hcp' : L'.length ≤ cap' ∧ cap' ≤ maxLen) (hf' : ∀ p ∈ L', FitsOs p.x) (hB : PosAt w ao' L') :
    Calls Tryz.prog 4 #[.agg #[.string key, .slice ao L.length cap], .agg #[.string key', .slice ao' L'.length cap']] w fun e w' => e = .returned (.bool true) ∧ Keep0 w w' := by
  have yga := fun W (h : PosAt W ao L) => rgreat17 W key hk ao cap L hl hf h
  have ygb := fun W (h : PosAt W ao' L') => rgreat17 W key' hk' ao' cap' L' hl' hf' h
  have yca := fun W (h : PosAt W ao L) => rcheck17 W key hk ao cap L hl hf h
  have ycb := fun W (h : PosAt W ao' L') => rcheck17 W key' hk' ao' cap' L' hl' hf' h
  have kB : Keep0 w ((w.alloc (.cells #[.string key, .slice ao L.length cap] 24)).alloc (.cells #[.string key', .slice ao' L'.length cap'] 24)) := ((Keep.refl _ w).alloc _).alloc _
  have hX : DAt ((w.alloc (.cells #[.string key, .slice ao L.length cap] 24)).alloc (.cells #[.string key', .slice ao' L'.length cap'] 24)) w.heap.size (.string key) (.slice ao L.length cap) := (DAt.new w 24 (.string key) (.slice ao L.length cap)).keep0 ((Keep.refl _ _).alloc _)
  have hZ : DAt ((w.alloc (.cells #[.string key, .slice ao L.length cap] 24)).alloc (.cells #[.string key', .slice ao' L'.length cap'] 24)) (w.heap.size + 1) (.string key') (.slice ao' L'.length cap') := by
    have := DAt.new (w.alloc (.cells #[.string key, .slice ao L.length cap] 24)) 24 (.string key') (.slice ao' L'.length cap')
    rw [World.size_alloc] at this
    exact this
  have yw := awake18 V.toUpR ((w.alloc (.cells #[.string key, .slice ao L.length cap] 24)).alloc (.cells #[.string key', .slice ao' L'.length cap'] 24))
  have HA : Hid (PosAt w ao L) := hA
  have HB : Hid (PosAt w ao' L') := hB
  clear hA hB
  cases hga : olGreat ⟨key, L.map Po.x⟩ with
  | true =>
    rw [hga] at yga
    go_enter Tryz.func4, Tryz.ntmps4
    go_wp2_with fail
    generalize ((w.alloc (.cells #[.string key, .slice ao L.length cap] 24)).alloc (.cells #[.string key', .slice ao' L'.length cap'] 24)) = WB at *
    generalize w.heap.size = gA at *
    refine yw.mono ?_
    rintro e w1 ⟨rfl, k1⟩
    have K1 := kB.trans k1
    obtain ⟨a0, a1, af0, af1⟩ := (hX.keep0 k1).cells
    obtain ⟨b0, b1, bf0, bf1⟩ := (hZ.keep0 k1).cells
    clear yw kB k1 hX hZ af0 af1 bf0 bf1
    go_wp2_with fail
    refine (yga w1 (HA.out.keep0 K1)).mono ?_
    rintro e w2 ⟨rfl, k⟩
    replace a0 := k.cell a0 (fun f => f)
    replace a1 := k.cell a1 (fun f => f)
    replace b0 := k.cell b0 (fun f => f)
    replace b1 := k.cell b1 (fun f => f)
    have K2 := K1.trans k
    clear K1
    go_wp2
    go_ret
    exact ⟨rfl, K2⟩
  | false =>
    rw [hga] at yga
    cases hgb : olGreat ⟨key', L'.map Po.x⟩ with
    | true =>
      rw [hgb] at ygb
      go_enter Tryz.func4, Tryz.ntmps4
      go_wp2_with fail
      generalize ((w.alloc (.cells #[.string key, .slice ao L.length cap] 24)).alloc (.cells #[.string key', .slice ao' L'.length cap'] 24)) = WB at *
      generalize w.heap.size = gA at *
      refine yw.mono ?_
      rintro e w1 ⟨rfl, k1⟩
      have K1 := kB.trans k1
      obtain ⟨a0, a1, af0, af1⟩ := (hX.keep0 k1).cells
      obtain ⟨b0, b1, bf0, bf1⟩ := (hZ.keep0 k1).cells
      clear yw kB k1 hX hZ af0 af1 bf0 bf1
      go_wp2_with fail
      refine (yga w1 (HA.out.keep0 K1)).mono ?_
      rintro e w2 ⟨rfl, k⟩
      replace a0 := k.cell a0 (fun f => f)
      replace a1 := k.cell a1 (fun f => f)
      replace b0 := k.cell b0 (fun f => f)
      replace b1 := k.cell b1 (fun f => f)
      have K2 := K1.trans k
      clear K1
      go_wp2_with fail
      refine (ygb w2 (HB.out.keep0 K2)).mono ?_
      rintro e w3 ⟨rfl, k⟩
      replace a0 := k.cell a0 (fun f => f)
      replace a1 := k.cell a1 (fun f => f)
      replace b0 := k.cell b0 (fun f => f)
      replace b1 := k.cell b1 (fun f => f)
      have K3 := K2.trans k
      clear K2
      go_wp2
      go_ret
      exact ⟨rfl, K3⟩
    | false =>
      rw [hgb] at ygb
      by_cases hca : olCheck ⟨key, L.map Po.x⟩ = 0
      case neg =>
        have e0 : (olCheck ⟨key, L.map Po.x⟩ != 0) = true := by simpa using hca
        clear hca hga hgb
        generalize olCheck ⟨key, L.map Po.x⟩ = C at *
        go_enter Tryz.func4, Tryz.ntmps4
        go_wp2_with fail
        generalize ((w.alloc (.cells #[.string key, .slice ao L.length cap] 24)).alloc (.cells #[.string key', .slice ao' L'.length cap'] 24)) = WB at *
        generalize w.heap.size = gA at *
        refine yw.mono ?_
        rintro e w1 ⟨rfl, k1⟩
        have K1 := kB.trans k1
        obtain ⟨a0, a1, af0, af1⟩ := (hX.keep0 k1).cells
        obtain ⟨b0, b1, bf0, bf1⟩ := (hZ.keep0 k1).cells
        clear yw kB k1 hX hZ af0 af1 bf0 bf1
        go_wp2_with fail
        refine (yga w1 (HA.out.keep0 K1)).mono ?_
        rintro e w2 ⟨rfl, k⟩
        replace a0 := k.cell a0 (fun f => f)
        replace a1 := k.cell a1 (fun f => f)
        replace b0 := k.cell b0 (fun f => f)
        replace b1 := k.cell b1 (fun f => f)
        have K2 := K1.trans k
        clear K1
        go_wp2_with fail
        refine (ygb w2 (HB.out.keep0 K2)).mono ?_
        rintro e w3 ⟨rfl, k⟩
        replace a0 := k.cell a0 (fun f => f)
        replace a1 := k.cell a1 (fun f => f)
        replace b0 := k.cell b0 (fun f => f)
        replace b1 := k.cell b1 (fun f => f)
        have K3 := K2.trans k
        clear K2
        go_wp2_with fail
        refine (yca w3 (HA.out.keep0 K3)).mono ?_
        rintro e w4 ⟨rfl, k⟩
        replace a0 := k.cell a0 (fun f => f)
        replace a1 := k.cell a1 (fun f => f)
        replace b0 := k.cell b0 (fun f => f)
        replace b1 := k.cell b1 (fun f => f)
        have K4 := K3.trans k
        clear K3
        go_wp2
        go_ret
        exact ⟨rfl, K4⟩
      rw [hca] at yca
      obtain ⟨ox, _⟩ := great_ok17 hf hga
      obtain ⟨oy, _⟩ := great_ok17 hf' hgb
      obtain ⟨_, _, gv⟩ := olGreat_no hga
      have hok : okOl ⟨key, L.map Po.x⟩ := ⟨hca, ox.u⟩
      have hUp := up_eq hok
      obtain ⟨hEn, hEs⟩ := up_enc hok (fun x hx => (gv x hx).2)
      have hBk := up_back hok
      have hPl := up_plain hok
      have hDn := up_down hok
      have hUk := up_ok hok
      have hAl := up_alike hok
      have hokD : okOl ⟨key, dnL ⟨key, L.map Po.x⟩⟩ := ⟨olCheck_perm (key := key) (l := L.map Po.x) hca (dnL_perm ⟨key, L.map Po.x⟩), fun x hx => ox.u x ((dnL_perm ⟨key, L.map Po.x⟩).mem_iff.1 hx)⟩
      obtain ⟨U, hU⟩ : ∃ U, (oUp ⟨key, L.map Po.x⟩).1 = U := ⟨_, rfl⟩
      have hU2 : oUp ⟨key, L.map Po.x⟩ = (U, 0) := by rw [← hU, hUp]
      rw [hU] at hEn hEs hBk hPl hDn hUk
      have hCk := hUk.1
      have okU := hUk.ok
      have okF := okU.fit
      obtain ⟨S, hS⟩ : ∃ S, eOb U = S := ⟨_, rfl⟩
      rw [hS] at hEn hEs hBk
      have HDL : Hid (∀ M : List Po, M.map Po.x = dnL ⟨key, L.map Po.x⟩ → Ok17 key M) := fun M hM => okOl_ok18 hokD hM
      have yu := fun W (h : PosAt W ao L) => V.up W key ao cap L ox hcp.1 hcp.2 h
      rw [hU2] at yu
      have ye := fun W po pc (hq : U.l.length ≤ pc ∧ pc ≤ maxLen) (h : SibsAt W po U.l) => V.encode W po pc U okU hq h
      rw [hEn] at ye
      have yb := fun W => V.decode W S (by omega)
      rw [hBk] at yb
      have yd := fun W po pc (hq : U.l.length ≤ pc ∧ pc ≤ maxLen) (h : SibsAt W po U.l) => V.down W po pc U okU hq h
      rw [hDn] at yd
      have ypl := fun W po pc (hq : U.l.length ≤ pc ∧ pc ≤ maxLen) (h : SibsAt W po U.l) => V.plain W po pc U okU hq h
      rw [hPl] at ypl
      have yck := fun W po pc (h : SibsAt W po U.l) => rcheck16 W po pc U okF h
      rw [hCk] at yck
      have ys := fun W po pc qo qc (h : SibsAt W po U.l) (h' : SibsAt W qo U.l) => rsame16 W po pc U qo qc U okF okF h h'
      rw [oSame_iff.2 rfl] at ys
      have HAl : Hid (∀ M : List Po, M.map Po.x = dnL ⟨key, L.map Po.x⟩ → olAlike ⟨key, L.map Po.x⟩ ⟨key, M.map Po.x⟩ = true) := fun M hM => by rw [hM]; exact hAl
      have yal := fun W po pc (M : List Po) (hM : M.map Po.x = dnL ⟨key, L.map Po.x⟩) (c1 : M.length ≤ pc) (c2 : pc ≤ maxLen) (h : PosAt W ao L) (h' : PosAt W po M) => V.alike W key ao cap L key po pc M ox hcp.1 hcp.2 h (HDL.out M hM) c1 c2 h'
      have yrl := fun W po pc (M : List Po) (hM : M.map Po.x = dnL ⟨key, L.map Po.x⟩) (h : PosAt W ao L) (h' : PosAt W po M) => ralike17 W key hk ao cap L hl hf h key hk po pc M (by have := (HDL.out M hM).len; unfold maxLen; omega) (fun p hp => ((HDL.out M hM).sib p hp).2) h'
      have HUQ : Hid (olCheck ⟨key', L'.map Po.x⟩ = 0 → ∃ Q, oUp ⟨key', L'.map Po.x⟩ = (Q, 0) ∧ Ok16 Q ∧ oSame U Q = olAlike ⟨key, L.map Po.x⟩ ⟨key', L'.map Po.x⟩) := by
        intro h
        have hq : okOl ⟨key', L'.map Po.x⟩ := ⟨h, oy.u⟩
        refine ⟨(oUp ⟨key', L'.map Po.x⟩).1, by rw [up_eq hq], (up_ok hq).ok, ?_⟩
        have hi := up_same hok hq
        rw [hU] at hi
        cases hb : olAlike ⟨key, L.map Po.x⟩ ⟨key', L'.map Po.x⟩ with
        | true => exact oSame_iff.2 (hi.2 hb)
        | false =>
          cases hc : oSame U (oUp ⟨key', L'.map Po.x⟩).1 with
          | false => rfl
          | true => rw [hi.1 (oSame_iff.1 hc)] at hb; cases hb
      have yuq := fun W (h : PosAt W ao' L') => V.up W key' ao' cap' L' oy hcp'.1 hcp'.2 h
      have yrq := fun W (h : PosAt W ao L) (h' : PosAt W ao' L') => ralike17 W key hk ao cap L hl hf h key' hk' ao' cap' L' hl' hf' h'
      have ysq := fun (Q : Ob) (fQ : FitsO Q) W po pc qo qc (h : SibsAt W po U.l) (h' : SibsAt W qo Q.l) => rsame16 W po pc U qo qc Q okF fQ h h'
      clear hga hgb hca ox oy gv hok hUp hEn hEs hBk hPl hDn hUk hAl hokD hU hU2 hCk okU okF hS hk hl hcp hf hk' hl' hcp' hf'
      generalize dnL ⟨key, L.map Po.x⟩ = DN at *
      generalize olCheck ⟨key', L'.map Po.x⟩ = C2 at *
      go_enter Tryz.func4, Tryz.ntmps4
      go_wp2_with fail
      generalize ((w.alloc (.cells #[.string key, .slice ao L.length cap] 24)).alloc (.cells #[.string key', .slice ao' L'.length cap'] 24)) = WB at *
      generalize w.heap.size = gA at *
      refine yw.mono ?_
      rintro e w1 ⟨rfl, k1⟩
      have K1 := kB.trans k1
      obtain ⟨a0, a1, af0, af1⟩ := (hX.keep0 k1).cells
      obtain ⟨b0, b1, bf0, bf1⟩ := (hZ.keep0 k1).cells
      clear yw kB k1 hX hZ af0 af1 bf0 bf1
      go_wp2_with fail
      refine (yga w1 (HA.out.keep0 K1)).mono ?_
      rintro e w2 ⟨rfl, k⟩
      replace a0 := k.cell a0 (fun f => f)
      replace a1 := k.cell a1 (fun f => f)
      replace b0 := k.cell b0 (fun f => f)
      replace b1 := k.cell b1 (fun f => f)
      have K2 := K1.trans k
      clear K1
      clear k
      go_wp2_with fail
      refine (ygb w2 (HB.out.keep0 K2)).mono ?_
      rintro e w3 ⟨rfl, k⟩
      replace a0 := k.cell a0 (fun f => f)
      replace a1 := k.cell a1 (fun f => f)
      replace b0 := k.cell b0 (fun f => f)
      replace b1 := k.cell b1 (fun f => f)
      have K3 := K2.trans k
      clear K2
      clear k
      go_wp2_with fail
      refine (yca w3 (HA.out.keep0 K3)).mono ?_
      rintro e w4 ⟨rfl, k⟩
      replace a0 := k.cell a0 (fun f => f)
      replace a1 := k.cell a1 (fun f => f)
      replace b0 := k.cell b0 (fun f => f)
      replace b1 := k.cell b1 (fun f => f)
      have K4 := K3.trans k
      clear K3
      clear k
      clear yga ygb yca
      go_wp2_with fail
      refine (yu w4 (HA.out.keep0 K4)).mono ?_
      rintro e w5 ⟨po1, pc1, P1, rfl, hP1, hu1, hq1, k⟩
      replace a0 := k.cell a0 (fun f => f)
      replace a1 := k.cell a1 (fun f => f)
      replace b0 := k.cell b0 (fun f => f)
      replace b1 := k.cell b1 (fun f => f)
      have K5 := K4.trans k
      clear K4
      have s1 := hu1.sibs
      rw [show P1.map Pl.x = U.l from hP1] at s1
      have HQ1 : Hid (U.l.length ≤ pc1 ∧ pc1 ≤ maxLen) := by
        have h : P1.map Pl.x = U.l := hP1
        show _ ∧ _
        rw [← h, List.length_map]
        exact hq1
      clear hq1
      clear hu1 hP1 k yu
      dsimp only
      have kz : Keep0 w5 (w5.alloc (.cells #[.string U.key, .slice po1 U.l.length pc1] 27)) := (Keep.refl _ _).alloc _
      have c0 : (w5.alloc (.cells #[.string U.key, .slice po1 U.l.length pc1] 27)).cell? ⟨w5.heap.size, 0, none⟩ = some (.string U.key) := cell_alloc w5 _ rfl
      have c1 : (w5.alloc (.cells #[.string U.key, .slice po1 U.l.length pc1] 27)).cell? ⟨w5.heap.size, 1, none⟩ = some (.slice po1 U.l.length pc1) := cell_alloc w5 _ rfl
      replace a0 := kz.cell a0 (fun f => f)
      replace a1 := kz.cell a1 (fun f => f)
      replace b0 := kz.cell b0 (fun f => f)
      replace b1 := kz.cell b1 (fun f => f)
      replace s1 := s1.keep0 kz
      have K6 := K5.trans kz
      clear kz K5
      go_wp2_with fail
      generalize (w5.alloc (.cells #[.string U.key, .slice po1 U.l.length pc1] 27)) = w6 at *
      generalize w5.heap.size = g5 at *
      refine (ye w6 po1 pc1 HQ1.out s1).mono ?_
      rintro e w7 ⟨rfl, k⟩
      replace a0 := k.cell a0 (fun f => f)
      replace a1 := k.cell a1 (fun f => f)
      replace b0 := k.cell b0 (fun f => f)
      replace b1 := k.cell b1 (fun f => f)
      replace c0 := k.cell c0 (fun f => f)
      replace c1 := k.cell c1 (fun f => f)
      have K7 := K6.trans k
      clear K6
      replace s1 := s1.keep0 k
      clear k ye
      go_wp2_with fail
      refine (yb w7).mono ?_
      rintro e w8 ⟨po2, pc2, P2, rfl, hP2, hu2, -, k⟩
      replace a0 := k.cell a0 (fun f => f)
      replace a1 := k.cell a1 (fun f => f)
      replace b0 := k.cell b0 (fun f => f)
      replace b1 := k.cell b1 (fun f => f)
      replace c0 := k.cell c0 (fun f => f)
      replace c1 := k.cell c1 (fun f => f)
      have K8 := K7.trans k
      clear K7
      have s2 := hu2.sibs
      rw [show P2.map Pl.x = U.l from hP2] at s2
      replace s1 := s1.keep0 k
      clear hu2 hP2 k yb
      dsimp only
      have kz : Keep0 w8 (w8.alloc (.cells #[.string U.key, .slice po2 U.l.length pc2] 27)) := (Keep.refl _ _).alloc _
      have d0 : (w8.alloc (.cells #[.string U.key, .slice po2 U.l.length pc2] 27)).cell? ⟨w8.heap.size, 0, none⟩ = some (.string U.key) := cell_alloc w8 _ rfl
      have d1 : (w8.alloc (.cells #[.string U.key, .slice po2 U.l.length pc2] 27)).cell? ⟨w8.heap.size, 1, none⟩ = some (.slice po2 U.l.length pc2) := cell_alloc w8 _ rfl
      replace a0 := kz.cell a0 (fun f => f)
      replace a1 := kz.cell a1 (fun f => f)
      replace b0 := kz.cell b0 (fun f => f)
      replace b1 := kz.cell b1 (fun f => f)
      replace c0 := kz.cell c0 (fun f => f)
      replace c1 := kz.cell c1 (fun f => f)
      replace s1 := s1.keep0 kz
      replace s2 := s2.keep0 kz
      have K9 := K8.trans kz
      clear kz K8
      go_wp2_with fail
      generalize (w8.alloc (.cells #[.string U.key, .slice po2 U.l.length pc2] 27)) = w9 at *
      generalize w8.heap.size = g9 at *
      refine (yd w9 po1 pc1 HQ1.out s1).mono ?_
      rintro e w10 ⟨po3, pc3, L3, rfl, hL3, m1, m2, s3, k⟩
      replace a0 := k.cell a0 (fun f => f)
      replace a1 := k.cell a1 (fun f => f)
      replace b0 := k.cell b0 (fun f => f)
      replace b1 := k.cell b1 (fun f => f)
      replace c0 := k.cell c0 (fun f => f)
      replace c1 := k.cell c1 (fun f => f)
      replace d0 := k.cell d0 (fun f => f)
      replace d1 := k.cell d1 (fun f => f)
      have K10 := K9.trans k
      clear K9
      replace s1 := s1.keep0 k
      replace s2 := s2.keep0 k
      clear k yd
      have hL3 : L3.map Po.x = DN := hL3
      dsimp only
      have kz : Keep0 w10 (w10.alloc (.cells #[.string key, .slice po3 L3.length pc3] 24)) := (Keep.refl _ _).alloc _
      have e0 : (w10.alloc (.cells #[.string key, .slice po3 L3.length pc3] 24)).cell? ⟨w10.heap.size, 0, none⟩ = some (.string key) := cell_alloc w10 _ rfl
      have e1 : (w10.alloc (.cells #[.string key, .slice po3 L3.length pc3] 24)).cell? ⟨w10.heap.size, 1, none⟩ = some (.slice po3 L3.length pc3) := cell_alloc w10 _ rfl
      replace a0 := kz.cell a0 (fun f => f)
      replace a1 := kz.cell a1 (fun f => f)
      replace b0 := kz.cell b0 (fun f => f)
      replace b1 := kz.cell b1 (fun f => f)
      replace c0 := kz.cell c0 (fun f => f)
      replace c1 := kz.cell c1 (fun f => f)
      replace d0 := kz.cell d0 (fun f => f)
      replace d1 := kz.cell d1 (fun f => f)
      replace s1 := s1.keep0 kz
      replace s2 := s2.keep0 kz
      replace s3 := s3.keep0 kz
      have K11 := K10.trans kz
      clear kz K10
      go_wp2_with fail
      generalize (w10.alloc (.cells #[.string key, .slice po3 L3.length pc3] 24)) = w11 at *
      generalize w10.heap.size = g11 at *
      refine (ys w11 po2 pc2 po1 pc1 s2 s1).mono ?_
      rintro e w12 ⟨rfl, k⟩
      replace a0 := k.cell a0 (fun f => f)
      replace a1 := k.cell a1 (fun f => f)
      replace b0 := k.cell b0 (fun f => f)
      replace b1 := k.cell b1 (fun f => f)
      replace c0 := k.cell c0 (fun f => f)
      replace c1 := k.cell c1 (fun f => f)
      replace d0 := k.cell d0 (fun f => f)
      replace d1 := k.cell d1 (fun f => f)
      replace e0 := k.cell e0 (fun f => f)
      replace e1 := k.cell e1 (fun f => f)
      have K12 := K11.trans k
      clear K11
      replace s1 := s1.keep0 k
      replace s3 := s3.keep0 k
      clear k ys s2 d0 d1
      go_wp2_with fail
      refine (yck w12 po1 pc1 s1).mono ?_
      rintro e w13 ⟨rfl, k⟩
      replace a0 := k.cell a0 (fun f => f)
      replace a1 := k.cell a1 (fun f => f)
      replace b0 := k.cell b0 (fun f => f)
      replace b1 := k.cell b1 (fun f => f)
      replace c0 := k.cell c0 (fun f => f)
      replace c1 := k.cell c1 (fun f => f)
      replace e0 := k.cell e0 (fun f => f)
      replace e1 := k.cell e1 (fun f => f)
      have K13 := K12.trans k
      clear K12
      replace s1 := s1.keep0 k
      replace s3 := s3.keep0 k
      clear k yck
      go_wp2_with fail
      refine (ypl w13 po1 pc1 HQ1.out s1).mono ?_
      rintro e w14 ⟨rfl, k⟩
      replace a0 := k.cell a0 (fun f => f)
      replace a1 := k.cell a1 (fun f => f)
      replace b0 := k.cell b0 (fun f => f)
      replace b1 := k.cell b1 (fun f => f)
      replace c0 := k.cell c0 (fun f => f)
      replace c1 := k.cell c1 (fun f => f)
      replace e0 := k.cell e0 (fun f => f)
      replace e1 := k.cell e1 (fun f => f)
      have K14 := K13.trans k
      clear K13
      replace s1 := s1.keep0 k
      replace s3 := s3.keep0 k
      clear k ypl
      have hal := HAl.out L3 hL3
      have yal := fun W (h : PosAt W ao L) (h' : PosAt W po3 L3) => yal W po3 pc3 L3 hL3 m1 m2 h h'
      have yrl := fun W (h : PosAt W ao L) (h' : PosAt W po3 L3) => yrl W po3 pc3 L3 hL3 h h'
      rw [hal] at yal yrl
      clear hal m1 m2 hL3 HAl HDL
      go_wp2_with fail
      refine (yal w14 (HA.out.keep0 K14) s3).mono ?_
      rintro e w15 ⟨rfl, k⟩
      replace a0 := k.cell a0 (fun f => f)
      replace a1 := k.cell a1 (fun f => f)
      replace b0 := k.cell b0 (fun f => f)
      replace b1 := k.cell b1 (fun f => f)
      replace c0 := k.cell c0 (fun f => f)
      replace c1 := k.cell c1 (fun f => f)
      replace e0 := k.cell e0 (fun f => f)
      replace e1 := k.cell e1 (fun f => f)
      have K15 := K14.trans k
      clear K14
      replace s1 := s1.keep0 k
      replace s3 := s3.keep0 k
      clear k yal
      go_wp2_with fail
      refine (yrl w15 (HA.out.keep0 K15) s3).mono ?_
      rintro e w16 ⟨rfl, k⟩
      replace a0 := k.cell a0 (fun f => f)
      replace a1 := k.cell a1 (fun f => f)
      replace b0 := k.cell b0 (fun f => f)
      replace b1 := k.cell b1 (fun f => f)
      replace c0 := k.cell c0 (fun f => f)
      replace c1 := k.cell c1 (fun f => f)
      replace e0 := k.cell e0 (fun f => f)
      replace e1 := k.cell e1 (fun f => f)
      have K16 := K15.trans k
      clear K15
      replace s1 := s1.keep0 k
      clear k yrl s3 e0 e1
      go_wp2_with fail
      refine (ycb w16 (HB.out.keep0 K16)).mono ?_
      rintro e w17 ⟨rfl, k⟩
      replace a0 := k.cell a0 (fun f => f)
      replace a1 := k.cell a1 (fun f => f)
      replace b0 := k.cell b0 (fun f => f)
      replace b1 := k.cell b1 (fun f => f)
      replace c0 := k.cell c0 (fun f => f)
      replace c1 := k.cell c1 (fun f => f)
      have K17 := K16.trans k
      clear K16
      replace s1 := s1.keep0 k
      clear k ycb
      by_cases h0 : C2 = 0
      case neg =>
        have e0 : (C2 != 0) = true := by simpa using h0
        clear h0 s1 a0 a1 b0 b1 c0 c1
        go_wp2
        go_ret
        exact ⟨rfl, K17⟩
      subst h0
      obtain ⟨Q, hQ, okQ, hSm⟩ := HUQ.out rfl
      rw [hQ] at yuq
      have ysq := fun W po pc qo qc (h : SibsAt W po U.l) (h' : SibsAt W qo Q.l) => ysq Q okQ.fit W po pc qo qc h h'
      rw [hSm] at ysq
      clear hQ okQ hSm HUQ
      generalize olAlike ⟨key, L.map Po.x⟩ ⟨key', L'.map Po.x⟩ = AL at *
      go_wp2_with fail
      refine (yuq w17 (HB.out.keep0 K17)).mono ?_
      rintro e w18 ⟨po4, pc4, P4, rfl, hP4, hu4, -, k⟩
      replace a0 := k.cell a0 (fun f => f)
      replace a1 := k.cell a1 (fun f => f)
      replace b0 := k.cell b0 (fun f => f)
      replace b1 := k.cell b1 (fun f => f)
      replace c0 := k.cell c0 (fun f => f)
      replace c1 := k.cell c1 (fun f => f)
      have K18 := K17.trans k
      clear K17
      have s4 := hu4.sibs
      rw [show P4.map Pl.x = Q.l from hP4] at s4
      replace s1 := s1.keep0 k
      clear hu4 hP4 k yuq
      dsimp only
      have kz : Keep0 w18 (w18.alloc (.cells #[.string Q.key, .slice po4 Q.l.length pc4] 27)) := (Keep.refl _ _).alloc _
      have f0 : (w18.alloc (.cells #[.string Q.key, .slice po4 Q.l.length pc4] 27)).cell? ⟨w18.heap.size, 0, none⟩ = some (.string Q.key) := cell_alloc w18 _ rfl
      have f1 : (w18.alloc (.cells #[.string Q.key, .slice po4 Q.l.length pc4] 27)).cell? ⟨w18.heap.size, 1, none⟩ = some (.slice po4 Q.l.length pc4) := cell_alloc w18 _ rfl
      replace a0 := kz.cell a0 (fun f => f)
      replace a1 := kz.cell a1 (fun f => f)
      replace b0 := kz.cell b0 (fun f => f)
      replace b1 := kz.cell b1 (fun f => f)
      replace c0 := kz.cell c0 (fun f => f)
      replace c1 := kz.cell c1 (fun f => f)
      replace s1 := s1.keep0 kz
      replace s4 := s4.keep0 kz
      have K19 := K18.trans kz
      clear kz K18
      go_wp2_with fail
      generalize (w18.alloc (.cells #[.string Q.key, .slice po4 Q.l.length pc4] 27)) = w19 at *
      generalize w18.heap.size = g13 at *
      have HS1 : Hid (SibsAt w19 po1 U.l) := s1
      have HS4 : Hid (SibsAt w19 po4 Q.l) := s4
      have HKn : Hid (Keep0 w w19) := K19
      have zs := fun W (K : Keep0 w19 W) => ysq W po1 pc1 po4 pc4 (HS1.out.keep0 K) (HS4.out.keep0 K)
      have zq := fun W (K : Keep0 w19 W) => yrq W (HA.out.keep0 (HKn.out.trans K)) (HB.out.keep0 (HKn.out.trans K))
      clear s1 s4 K19 ysq yrq
      have a0 : w19.cell? ⟨gA, 0, none⟩ = some (.string key) := a0
      have a1 : w19.cell? ⟨gA, 1, none⟩ = some (.slice ao L.length cap) := a1
      have b0 : w19.cell? ⟨gA + 1, 0, none⟩ = some (.string key') := b0
      have b1 : w19.cell? ⟨gA + 1, 1, none⟩ = some (.slice ao' L'.length cap') := b1
      have c0 : w19.cell? ⟨g5, 0, none⟩ = some (.string U.key) := c0
      have c1 : w19.cell? ⟨g5, 1, none⟩ = some (.slice po1 U.l.length pc1) := c1
      have f0 : w19.cell? ⟨g13, 0, none⟩ = some (.string Q.key) := f0
      have f1 : w19.cell? ⟨g13, 1, none⟩ = some (.slice po4 Q.l.length pc4) := f1
      refine wp_region_held_drew (S := (fun W => W.cell? ⟨gA, 0, none⟩ = some (.string key) ∧ W.cell? ⟨gA, 1, none⟩ = some (.slice ao L.length cap) ∧ W.cell? ⟨gA + 1, 0, none⟩ = some (.string key') ∧ W.cell? ⟨gA + 1, 1, none⟩ = some (.slice ao' L'.length cap') ∧ W.cell? ⟨g5, 0, none⟩ = some (.string U.key) ∧ W.cell? ⟨g5, 1, none⟩ = some (.slice po1 U.l.length pc1) ∧ W.cell? ⟨g13, 0, none⟩ = some (.string Q.key) ∧ W.cell? ⟨g13, 1, none⟩ = some (.slice po4 Q.l.length pc4))) (by kernel_rfl) ⟨a0, a1, b0, b1, c0, c1, f0, f1⟩ (fun hHeld => ?_)
      refine wpAnyH_take (i := 0) (v := ?t0v) (by simp only [List.getElem?_toArray, List.getElem?_cons_zero] <;> rfl) (by kernel_rfl) (by kernel_rfl) (by kernel_rfl) (by exact fun _ _ _ h => h) (Or.inl ⟨by rfl, ?t0y⟩) hHeld ?t0r
      case t0y => intro w hSw; (try dsimp only at hSw); go_simp <;> rfl
      simp only [Act.put, List.setIfInBounds_toArray, List.set_cons_zero, List.set_cons_succ]
      refine wpAnyH_take (i := 1) (v := ?t1v) (by simp only [List.getElem?_toArray, List.getElem?_cons_succ, List.getElem?_cons_zero] <;> rfl) (by kernel_rfl) (by kernel_rfl) (by kernel_rfl) (by exact fun _ _ _ h => h) (Or.inl ⟨by rfl, ?t1y⟩) hHeld ?t1r
      case t1y => intro w hSw; (try dsimp only at hSw); go_simp <;> rfl
      simp only [Act.put, List.setIfInBounds_toArray, List.set_cons_zero, List.set_cons_succ]
      refine wpAnyH_take (i := 2) (v := ?t2v) (by simp only [List.getElem?_toArray, List.getElem?_cons_succ, List.getElem?_cons_zero] <;> rfl) (by kernel_rfl) (by kernel_rfl) (by kernel_rfl) (by exact fun _ _ _ h => h) (Or.inl ⟨by rfl, ?t2y⟩) hHeld ?t2r
      case t2y => intro w hSw; (try dsimp only at hSw); go_simp <;> rfl
      simp only [Act.put, List.setIfInBounds_toArray, List.set_cons_zero, List.set_cons_succ]
      refine wpAnyH_take (i := 3) (v := ?t3v) (by simp only [List.getElem?_toArray, List.getElem?_cons_succ, List.getElem?_cons_zero] <;> rfl) (by kernel_rfl) (by kernel_rfl) (by kernel_rfl) (by exact fun _ _ _ h => h) (Or.inl ⟨by rfl, ?t3y⟩) hHeld ?t3r
      case t3y => intro w hSw; (try dsimp only at hSw); go_simp <;> rfl
      simp only [Act.put, List.setIfInBounds_toArray, List.set_cons_zero, List.set_cons_succ]
      refine wpAnyH_take (i := 4) (v := ?t4v) (by simp only [List.getElem?_toArray, List.getElem?_cons_succ, List.getElem?_cons_zero] <;> rfl) (by kernel_rfl) (by kernel_rfl) (by kernel_rfl) (by exact fun _ _ _ h => h) (Or.inl ⟨by rfl, ?t4y⟩) hHeld ?t4r
      case t4y => intro w hSw; (try dsimp only at hSw); go_simp <;> rfl
      simp only [Act.put, List.setIfInBounds_toArray, List.set_cons_zero, List.set_cons_succ]
      refine wpAnyH_take (i := 6) (v := ?t5v) (by simp only [List.getElem?_toArray, List.getElem?_cons_succ, List.getElem?_cons_zero] <;> rfl) (by kernel_rfl) (by kernel_rfl) (by kernel_rfl) (by exact fun _ _ _ h => h) (Or.inl ⟨by rfl, ?t5y⟩) hHeld ?t5r
      case t5y => intro w hSw; (try dsimp only at hSw); go_simp <;> rfl
      simp only [Act.put, List.setIfInBounds_toArray, List.set_cons_zero, List.set_cons_succ]
      refine wpAnyH_take (i := 7) (v := ?t6v) (by simp only [List.getElem?_toArray, List.getElem?_cons_succ, List.getElem?_cons_zero] <;> rfl) (by kernel_rfl) (by kernel_rfl) (by kernel_rfl) (by exact fun _ _ _ h => h) (Or.inl ⟨by rfl, ?t6y⟩) hHeld ?t6r
      case t6y => intro w hSw; (try dsimp only at hSw); go_simp <;> rfl
      simp only [Act.put, List.setIfInBounds_toArray, List.set_cons_zero, List.set_cons_succ]
      refine wpAnyH_ready (rs := [5]) (by kernel_rfl) (by simp) ?_
      refine AllReadyH.cons (by simp only [List.getElem?_toArray, List.getElem?_cons_succ, List.getElem?_cons_zero] <;> rfl) (fun K hK => ?_) AllReadyH.nil
      go_simp
      refine (zs _ ((Keep.refl (fun _ => False) w19).drew)).mono ?_
      rintro e u1 ⟨rfl, kx⟩
      have ku1 : Keep0 w19 u1 := ((Keep.refl (fun _ => False) w19).drew).trans kx
      clear kx
      go_wp2_with fail
      refine hK.out _ _ ⟨ku1.cell a0 (fun f => f), ku1.cell a1 (fun f => f), ku1.cell b0 (fun f => f), ku1.cell b1 (fun f => f), ku1.cell c0 (fun f => f), ku1.cell c1 (fun f => f), ku1.cell f0 (fun f => f), ku1.cell f1 (fun f => f)⟩ (fun hHeld => ?_)
      clear hK K
      refine wpAnyH_ready (rs := [8]) (by kernel_rfl) (by simp) ?_
      refine AllReadyH.cons (by simp only [List.getElem?_toArray, List.getElem?_cons_succ, List.getElem?_cons_zero] <;> rfl) (fun K hK => ?_) AllReadyH.nil
      go_simp
      refine (zq _ (ku1)).mono ?_
      rintro e u2 ⟨rfl, kx⟩
      have ku2 : Keep0 w19 u2 := (ku1).trans kx
      clear kx
      go_wp2_with fail
      refine hK.out _ _ ⟨ku2.cell a0 (fun f => f), ku2.cell a1 (fun f => f), ku2.cell b0 (fun f => f), ku2.cell b1 (fun f => f), ku2.cell c0 (fun f => f), ku2.cell c1 (fun f => f), ku2.cell f0 (fun f => f), ku2.cell f1 (fun f => f)⟩ (fun hHeld => ?_)
      clear hK K
      refine wpAnyH_take (i := 9) (v := ?t7v) (by simp only [List.getElem?_toArray, List.getElem?_cons_succ, List.getElem?_cons_zero] <;> rfl) (by kernel_rfl) (by kernel_rfl) (by kernel_rfl) (by exact fun _ _ _ h => h) (Or.inl ⟨by rfl, ?t7y⟩) hHeld ?t7r
      case t7y => intro w hSw; (try dsimp only at hSw); go_simp <;> rfl
      simp only [Act.put, List.setIfInBounds_toArray, List.set_cons_zero, List.set_cons_succ]
      refine wpAnyH_take (i := 10) (v := ?t8v) (by simp only [List.getElem?_toArray, List.getElem?_cons_succ, List.getElem?_cons_zero] <;> rfl) (by kernel_rfl) (by kernel_rfl) (by kernel_rfl) (by exact fun _ _ _ h => h) (Or.inl ⟨by rfl, ?t8y⟩) hHeld ?t8r
      case t8y => intro w hSw; (try dsimp only at hSw); go_simp <;> rfl
      simp only [Act.put, List.setIfInBounds_toArray, List.set_cons_zero, List.set_cons_succ]
      refine wpAnyH_take (i := 11) (v := ?t9v) (by simp only [List.getElem?_toArray, List.getElem?_cons_succ, List.getElem?_cons_zero] <;> rfl) (by kernel_rfl) (by kernel_rfl) (by kernel_rfl) (by exact fun _ _ _ h => h) (Or.inl ⟨by rfl, ?t9y⟩) hHeld ?t9r
      case t9y => intro w hSw; (try dsimp only at hSw); go_simp <;> rfl
      simp only [Act.put, List.setIfInBounds_toArray, List.set_cons_zero, List.set_cons_succ]
      refine wpAnyH_done (by kernel_rfl) ?_ _
      clear hHeld zs zq
      have KF := HKn.out.trans ku2
      clear ku1 ku2 a0 a1 b0 b1 c0 c1 f0 f1
      go_wp2
      go_ret
      exact ⟨by simp, KF⟩
end Go.Proofs.YtoefibkhlhmlfaaGreat
