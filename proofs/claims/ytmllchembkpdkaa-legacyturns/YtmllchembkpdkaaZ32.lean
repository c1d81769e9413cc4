/-
  What this seat's claims lean on of the texts RefOld4.
  Conditions: as each theorem states.
-/
import Derived.WalkKit
import Derived.ProofKit
import Derived.Below
import Derived.Deep.Draws
import Derived.Deep.RegionHeld
import Derived.Test.YtmllchembkpdkaaChecked
import Derived.OpenShut
import Derived.ShutString
import Derived.WalkSpells
import Derived.WalkLawsBesides
import Derived.Deep.QuietTactic
import Derived.BigQuiet
import Derived.Laws.Bits64b
import Derived.PlainAid
import Derived.Lib.AppendStr
import Derived.Deep.AppendLies
import Derived.Laws.IdiomStrings
import Derived.Laws.BytesArg
import Derived.Deep.RegionWith
import Derived.Laws.AppendOwn
import Derived.Deep.DeepAppendWide
import Derived.Deep.Upon
import Derived.Maps.AppendAt
import Derived.Deep.Slices
import Derived.Test.YtmllchembkpdkaaZ30
import Derived.Test.YtmllchembkpdkaaZ27
namespace Go.Proofs.Ytmllchembkpdkaa
open Go.RowKit
theorem wCount_fit17 {M m : Int} {p : ByteArray × Int} {n : Nat} (h : (n : Int) ≤ pMax m) : wCount M m p (n : Int) = pOne M p (vText n) := by
  unfold wCount
  rw [if_neg (by omega), if_pos h]
  rfl
theorem pOs_size (M : Int) (q : ByteArray × Int) {x : Os} (hu : osU x) (hv : x.v.size ≤ 32768) : (pOs M q x).1.size ≤ q.1.size + 100000 := by
  unfold pOs
  have h1 := pVec_size M q hu
  have h2 : (wFlag M (pVec M q x.c) x.d).1.size ≤ (pVec M q x.c).1.size + 1 := by
    have := pOne_size M (pVec M q x.c) (one (flagByte x.d))
    rw [one_size] at this
    exact this
  have h3 := wPut_size M 32768 (wFlag M (pVec M q x.c) x.d) x.v (by omega)
  omega
theorem pOss_size (M : Int) : ∀ (l : List Os) (p : ByteArray × Int), (∀ x ∈ l, osU x ∧ x.v.size ≤ 32768) → (pOss M p l).1.size ≤ p.1.size + 100000 * l.length
  | [], _, _ => by show _ ≤ _ + 100000 * 0; exact Nat.le_refl _
  | v :: l, p, h => by
    have hv := h v List.mem_cons_self
    have h1 := pOs_size M p hv.1 hv.2
    have h2 := pOss_size M l (pOs M p v) (fun k hk => h k (List.mem_cons_of_mem _ hk))
    show (pOss M (pOs M p v) l).1.size ≤ _
    rw [List.length_cons]
    omega
set_option maxRecDepth 100000 in
set_option maxHeartbeats 8000000 in
theorem rencode17 (w : World) (key : ByteArray) (hk : key.size ≤ maxLen) (ao : Option Addr) (cap : Nat) (LP : List Po) (hl : LP.length ≤ maxLen) (hf : ∀ p ∈ LP, FitsOs p.x) (hc : PosAt w ao LP) :
    Calls Try.prog 10 #[.agg #[.string key, .slice ao LP.length cap]] w fun e w' => e = .returned (.tuple #[.string (encL ⟨key, (LP.map Po.x)⟩).1, .int .i64 (encL ⟨key, (LP.map Po.x)⟩).2]) ∧ Keep0 w w' := by
  have i1 : (LP.length : Int) ≤ 9223372036854775807 := by unfold maxLen at hl; omega
  have kA : Keep0 w (w.alloc (.cells #[.string key, .slice ao LP.length cap] 24)) := (Keep.refl _ w).alloc _
  have hX := DAt.new w 24 (.string key) (.slice ao LP.length cap)
  have yc := rcheck17 (w.alloc (.cells #[.string key, .slice ao LP.length cap] 24)) key hk ao cap LP hl hf (hc.keep0 kA)
  have HC : Hid (PosAt w ao LP) := hc
  have HF : Hid (∀ p ∈ LP, FitsOs p.x) := hf
  have Hlp : Hid ((LP.map Po.x).length = LP.length) := List.length_map ..
  have hz : (w.alloc (.cells #[.string key, .slice ao LP.length cap] 24)).heap.size = w.heap.size + 1 := World.size_alloc _ _
  obtain ⟨x0, x1, xf0, xf1⟩ := hX.cells
  clear hc
  by_cases h0 : olCheck ⟨key, (LP.map Po.x)⟩ = 0
  case neg =>
    have e1 : encL ⟨key, (LP.map Po.x)⟩ = (⟨#[]⟩, olCheck ⟨key, (LP.map Po.x)⟩) := if_neg h0
    rw [e1]
    have e0 : (olCheck ⟨key, (LP.map Po.x)⟩ != 0) = true := by simpa using h0
    clear h0 e1 hf
    generalize olCheck ⟨key, (LP.map Po.x)⟩ = C at *
    go_enter Try.func10, Try.ntmps10
    go_wp2_with fail
    generalize (w.alloc (.cells #[.string key, .slice ao LP.length cap] 24)) = W0 at *
    refine yc.mono ?_
    rintro e w1 ⟨rfl, k1⟩
    have K1 := kA.trans k1
    clear yc k1 kA
    go_wp2
    go_ret2
    exact ⟨rfl, K1⟩
  rw [h0] at yc
  have hu : ∀ x ∈ (LP.map Po.x), osU x := fun x hx => by
    obtain ⟨p, hp, rfl⟩ := List.mem_map.1 hx
    exact fun y hy => ((hf p hp).vec.2 y hy).2
  obtain ⟨s1, s2, _⟩ := olCheck_zero.1 h0
  have s1 := outS_zero.1 s1
  have s1 : 0 < key.size ∧ key.size ≤ 128 ∧ 0 < (LP.map Po.x).length ∧ (LP.map Po.x).length ≤ 16 := s1
  rw [Hlp.out] at s1
  have he := encL_pen h0 hu
  rw [← he]
  have HS : Hid (∀ x ∈ (LP.map Po.x), osU x ∧ x.v.size ≤ 32768) := fun x hx => ⟨hu x hx, (osCheck_zero.1 (s2 x hx)).2⟩
  have hpm : pMax 65536 = 65536 := rfl
  have yn := fun W => rpnew_any W 65536
  rw [hpm] at yn
  have y1 := fun W b (h : RPen W b ⟨#[]⟩ 65536 0) => rbput_any 128 (by decide) key h (by show 0 + key.size + 10 ≤ _; omega)
  have z1 := wPut_size 65536 128 (⟨#[]⟩, 0) key (by omega)
  obtain ⟨P1, hP1⟩ : ∃ P1, wPut 65536 128 (⟨#[]⟩, 0) key = P1 := ⟨_, rfl⟩
  rw [hP1] at y1 z1
  have z1 : P1.1.size ≤ 0 + key.size + 10 := z1
  have y2 := fun W b (h : RPen W b P1.1 65536 P1.2) => rpcount_any 16 (LP.length : Int) (by decide) i1 h (by omega)
  have e1 : (P1.1, P1.2) = P1 := rfl
  rw [e1, wCount_fit17 (by rw [pMax16]; omega)] at y2
  have z2 := pOne_size 65536 P1 (vText LP.length)
  have z3 := (vText_le (n := LP.length) (by omega)).2
  obtain ⟨P2, hP2⟩ : ∃ P2, pOne 65536 P1 (vText LP.length) = P2 := ⟨_, rfl⟩
  rw [hP2] at y2 z2
  have HP2 : Hid (P2.1.size ≤ 100000) := by show _ ≤ _; omega
  have hpo : pOl 65536 (⟨#[]⟩, 0) ⟨key, (LP.map Po.x)⟩ = pOss 65536 P2 (LP.map Po.x) := by
    unfold pOl
    show pOss 65536 (pOne 65536 (wPut 65536 128 (⟨#[]⟩, 0) key) (vText (LP.map Po.x).length)) (LP.map Po.x) = _
    rw [Hlp.out, hP1, hP2]
  rw [hpo]
  obtain ⟨R, hR⟩ : ∃ R, pOss 65536 P2 (LP.map Po.x) = R := ⟨_, rfl⟩
  rw [hR]
  have HR : Hid (pOss 65536 P2 (LP.map Po.x) = R) := hR
  obtain ⟨PE, hPE⟩ : ∃ z, pEnd R.1 R.2 = z := ⟨_, rfl⟩
  obtain ⟨R2, hR2⟩ : ∃ z, R.2 = z := ⟨_, rfl⟩
  rw [hPE, hR2]
  have HPE : Hid (pEnd R.1 R.2 = PE) := hPE
  have HR2 : Hid (R.2 = R2) := hR2
  have HL : Hid (LP.length ≤ 16) := s1.2.2.2
  clear hPE hR2 h0 s1 s2 he hu hpm z1 z2 z3 e1 hP1 hP2 hpo hR hf
  go_enter Try.func10, Try.ntmps10
  go_wp2_with fail
  generalize (w.alloc (.cells #[.string key, .slice ao LP.length cap] 24)) = W0 at *
  obtain ⟨g, hg⟩ : ∃ g, w.heap.size = g := ⟨_, rfl⟩
  rw [hg] at x0 x1 hX hz ⊢
  have HG : Hid (w.heap.size = g) := hg
  clear hg
  refine yc.mono ?_
  rintro e w1 ⟨rfl, k1⟩
  have K1 := kA.trans k1
  have hX1 := hX.keep0 k1
  have hz1 := k1.size
  replace x0 := k1.cell x0 (fun f => f)
  replace x1 := k1.cell x1 (fun f => f)
  clear yc k1 kA hX xf0 xf1
  go_wp2_with fail
  refine (yn w1).mono ?_
  rintro e w2 ⟨rfl, h2, k2⟩
  obtain ⟨b, hb⟩ : ∃ b, w1.heap.size = b := ⟨_, rfl⟩
  rw [hb] at h2 hz1 ⊢
  have hgb : g ≠ b := by omega
  have HGB : Hid (g < b) := by show _ < _; omega
  have K2 := K1.trans k2
  have hX2 := hX1.keep0 k2
  replace x0 := k2.cell x0 (fun f => f)
  replace x1 := k2.cell x1 (fun f => f)
  clear yn k2 K1 hX1 hb hz1 hz
  go_wp2_with fail
  refine (y1 w2 b h2).mono ?_
  rintro e w3 ⟨rfl, h3, k3⟩
  have K3 : Keep0 w w3 := K2.step k3 (fun i hi hh => by have := HG.out; have := HGB.out; omega)
  have hX3 := hX2.keep k3 hgb
  replace x1 := k3.cell x1 hgb
  clear y1 k3 K2 h2 hX2 x0
  go_wp2_with fail
  refine (y2 w3 b h3).mono ?_
  rintro e w4 ⟨rfl, h4, k4⟩
  have HK4 : Hid (Keep0 w w4) := K3.step k4 (fun i hi hh => by have := HG.out; have := HGB.out; omega)
  have HX4 : Hid (DAt w4 g (.string key) (.slice ao LP.length cap)) := hX3.keep k4 hgb
  clear y2 k4 K3 h3 hX3 x1
  go_wp2_with fail
  go_loopw [6] (fun i wr => ∃ (k : Nat), i = .int .i64 (k : Int) ∧ k ≤ LP.length ∧ RPen wr b (pOss 65536 P2 ((LP.map Po.x).take k)).1 65536 (pOss 65536 P2 ((LP.map Po.x).take k)).2 ∧ Hid (DAt wr g (.string key) (.slice ao LP.length cap)) ∧ Hid (Keep0 w wr)) (fun i _ => LP.length - (intOf i).toNat)
  case atStart => exact ⟨0, rfl, Nat.zero_le _, h4, HX4, HK4⟩
  case round =>
    obtain ⟨k, rfl, hk2, hp, HXk, HKk⟩ := hrel
    clear h4 HX4 HK4
    obtain ⟨x0, x1, xf0, xf1⟩ := HXk.out.cells
    by_cases hlt : k < LP.length
    · have j1 : (k : Int) < LP.length := by omega
      obtain ⟨bb, off, eao, s1, s2⟩ := HC.out.at_ k hlt
      subst eao
      have hbw : bb < w.heap.size := World.block_lt_of_cell? w _ s1.c0
      have hbb : ¬ bb = b := by have := HG.out; have := HGB.out; omega
      obtain ⟨a0, a1, a2⟩ := s1.keep0 HKk.out
      have hfk := HF.out _ (List.getElem_mem hlt)
      have hps := pOss_size 65536 ((LP.map Po.x).take k) P2 (fun y hy => HS.out y (List.mem_of_mem_take hy))
      rw [List.length_take, Hlp.out, Nat.min_eq_left (by omega)] at hps
      have hL := HL.out
      have hP2 := HP2.out
      have hin : LP[k].x ∈ (LP.map Po.x) := List.mem_map.2 ⟨_, List.getElem_mem hlt, rfl⟩
      have hos := HS.out _ hin
      have hap : 0 < LP[k].x.c.length → ApartE (fun q => q = b) LP[k].vo := fun hl g' off m e hh => by
        obtain ⟨b', o', e', h1, _⟩ := s2 0 hl
        rw [e] at e'
        cases e'
        have := World.block_lt_of_cell? w _ h1
        have := HG.out
        have := HGB.out
        simp only at *
        omega
      have yv := rput11 hp (by omega) LP[k].vo LP[k].vc LP[k].x.c hfk.vec (s2.keep0 HKk.out) hap
      obtain ⟨P, hPe⟩ : ∃ P, pOss 65536 P2 ((LP.map Po.x).take k) = P := ⟨_, rfl⟩
      rw [hPe] at yv hps
      have e0 : (P.1, P.2) = P := rfl
      rw [e0] at yv
      have v1 := pVec_size 65536 P hos.1
      obtain ⟨PV, hPV⟩ : ∃ z, pVec 65536 P LP[k].x.c = z := ⟨_, rfl⟩
      rw [hPV] at yv v1
      have yf := fun W (h : RPen W b PV.1 65536 PV.2) => rpflag_any LP[k].x.d h (by omega)
      have e3 : (PV.1, PV.2) = PV := rfl
      rw [e3] at yf
      have v2 : (wFlag 65536 PV LP[k].x.d).1.size ≤ PV.1.size + 1 := by
        have := pOne_size 65536 PV (one (flagByte LP[k].x.d))
        rw [one_size] at this
        exact this
      obtain ⟨PF, hPF⟩ : ∃ z, wFlag 65536 PV LP[k].x.d = z := ⟨_, rfl⟩
      rw [hPF] at yf v2
      have yb := fun W (h : RPen W b PF.1 65536 PF.2) => rbput_any 32768 (by decide) LP[k].x.v h (by have := hos.2; omega)
      have e4 : (PF.1, PF.2) = PF := rfl
      rw [e4] at yb
      have HT : Hid (pOss 65536 P2 ((LP.map Po.x).take (k + 1)) = wPut 65536 32768 PF LP[k].x.v) := by
        show _ = _
        rw [pOss_take (by rw [Hlp.out]; exact hlt), List.getElem_map, hPe]
        unfold pOs
        rw [hPV, hPF]
      obtain ⟨P3, hP3⟩ : ∃ z, wPut 65536 32768 PF LP[k].x.v = z := ⟨_, rfl⟩
      rw [hP3] at yb HT
      clear s1 s2 hfk hps hL hP2 hin hos hap hPe e0 v1 hPV e3 v2 hPF e4 hP3 hp
      generalize LP[k] = Q at *
      go_wp2_with fail
      refine yv.mono ?_
      rintro e w5 ⟨rfl, h5, k5⟩
      have yf := yf w5 h5
      replace x1 := k5.cell x1 hgb
      replace a1 := k5.cell a1 hbb
      replace a2 := k5.cell a2 hbb
      clear yv a0 x0 xf0 xf1
      go_wp2_with fail
      refine yf.mono ?_
      rintro e w6 ⟨rfl, h6, k6⟩
      have yb := yb w6 h6
      replace x1 := k6.cell x1 hgb
      replace a2 := k6.cell a2 hbb
      clear yf a1
      go_wp2_with fail
      refine yb.mono ?_
      rintro e w7 ⟨rfl, h7, k7⟩
      have k57 := (k5.trans k6).trans k7
      have HK7 : Hid (Keep0 w w7) := HKk.out.step k57 (fun i hi hh => by have := HG.out; have := HGB.out; omega)
      have HX7 : Hid (DAt w7 g (.string key) (.slice (some ⟨bb, off, none⟩) LP.length cap)) := HXk.out.keep k57 hgb
      clear yb x1 a2 h5 h6 k5 k6 k7 k57
      go_wp2
      go_roundw
      case rel => exact ⟨k + 1, by go_num, by omega, by rw [HT.out]; exact h7, HX7, HK7⟩
      case measure => simp [intOf]; omega
    · have j1 : ¬ (k : Int) < LP.length := by omega
      have ek : (LP.map Po.x).take k = (LP.map Po.x) := List.take_of_length_le (by rw [Hlp.out]; omega)
      rw [ek, HR.out] at hp
      have ye := rpend_any hp
      rw [HPE.out, HR2.out] at ye
      clear ek hp
      go_wp2_with fail
      refine ye.mono ?_
      rintro e w5 ⟨rfl, h5⟩
      have K5 := HKk.out.trans (keepN h5)
      clear ye h5
      go_wp2
      go_ret2
      exact ⟨rfl, K5⟩
end Go.Proofs.Ytmllchembkpdkaa
