/-
  What this seat's claims lean on of the texts BesideO, Cuts17.
  Conditions: as each theorem states.
-/
import Derived.WalkKit
import Derived.ProofKit
import Derived.Below
import Derived.Deep.Draws
import Derived.Deep.RegionHeld
import Derived.Test.YtmllchembkpdkaaChecked
import Derived.OpenShut
import Derived.ShutString
import Derived.WalkSpells
import Derived.WalkLawsBesides
import Derived.Deep.QuietTactic
import Derived.BigQuiet
import Derived.Laws.Bits64b
import Derived.PlainAid
import Derived.Lib.AppendStr
import Derived.Deep.AppendLies
import Derived.Laws.IdiomStrings
import Derived.Laws.BytesArg
import Derived.Deep.RegionWith
import Derived.Laws.AppendOwn
import Derived.Deep.DeepAppendWide
import Derived.Deep.Upon
import Derived.Maps.AppendAt
import Derived.Laws.Rows
import Derived.Deep.Slices
import Derived.Test.YtmllchembkpdkaaZ38
import Derived.Test.YtmllchembkpdkaaZ22
import Derived.Test.YtmllchembkpdkaaZ36
namespace Go.Proofs.Ytmllchembkpdkaa
open Go.RowKit
theorem pos_beside {w w' : World} {g : Nat} {a : ByteArray} {b : Option Addr} {n c : Nat} (hd : DAt w g (.string a) (.slice b n c)) (K : Keep1 g w w') {ao : Option Addr} {L : List Po} (h : PosAt w ao L) : PosAt w' ao L := by
  refine ⟨fun i hi => ?_, fun p hp => ens_beside hd K (h.ins p hp)⟩
  obtain ⟨bb, off, e, h1⟩ := h.row i hi
  have hb : ¬ bb = g := by
    intro e2
    subst e2
    rcases hd.idx (h1 0 _ rfl) with ⟨_, e3⟩ | ⟨e3, _⟩
    · cases e3
    · rcases hd.idx (h1 1 _ rfl) with ⟨e4, _⟩ | ⟨e4, _⟩ <;> omega
  exact ⟨bb, off, e, fun j u hu => K.cell (h1 j u hu) hb⟩
end Go.Proofs.Ytmllchembkpdkaa
namespace Go.Proofs.Ytmllchembkpdkaa
open Go.RowKit
set_option maxRecDepth 100000 in
set_option maxHeartbeats 8000000 in
theorem legacyCuts_law (V : OlCode) (w : World) (key : ByteArray) (hk : key.size ≤ maxLen) (ao : Option Addr) (cap : Nat) (L : List Po) (hl : L.length ≤ maxLen) (hf : ∀ p ∈ L, FitsOs p.x) (hA : PosAt w ao L) (t : ByteArray) (ht : t.size ≤ maxLen) :
    Calls Try.prog 6 #[.agg #[.string key, .slice ao L.length cap], .string t] w fun e w' => e = .returned (.bool true) ∧ Keep0 w w' := by
  have yg := fun W (h : PosAt W ao L) => rgreat17 W key hk ao cap L hl hf h
  have i0 : (t.size : Int) ≤ 9223372036854775807 := by unfold maxLen at ht; omega
  have kB : Keep0 w (w.alloc (.cells #[.string key, .slice ao L.length cap] 24)) := (Keep.refl _ w).alloc _
  have hX := DAt.new w 24 (.string key) (.slice ao L.length cap)
  have yw := awake17 V (w.alloc (.cells #[.string key, .slice ao L.length cap] 24))
  have hA := hA.keep0 kB
  cases ga : olGreat ⟨key, L.map Po.x⟩ with
  | true =>
    rw [ga] at yg
    go_enter Try.func6, Try.ntmps6
    go_wp2_with fail
    generalize (w.alloc (.cells #[.string key, .slice ao L.length cap] 24)) = W0 at *
    generalize w.heap.size = g at *
    refine yw.mono ?_
    rintro e w1 ⟨rfl, k1⟩
    have K1 := kB.trans k1
    obtain ⟨a0, a1, af0, af1⟩ := (hX.keep0 k1).cells
    have hA1 := hA.keep0 k1
    clear kB k1 hX yw hA
    go_wp2_with fail
    refine (yg w1 hA1).mono ?_
    rintro e w2 ⟨rfl, k2⟩
    have K2 := K1.trans k2
    replace a0 := k2.cell a0 (fun f => f)
    replace a1 := k2.cell a1 (fun f => f)
    have hA2 := hA1.keep0 k2
    clear K1 k2 yg hA1
    go_wp2
    go_ret
    exact ⟨rfl, K2⟩
  | false =>
    rw [ga] at yg
    by_cases h1 : t.size = 0
    · have i1 : (t.size : Int) = 0 := by omega
      go_enter Try.func6, Try.ntmps6
      go_wp2_with fail
      generalize (w.alloc (.cells #[.string key, .slice ao L.length cap] 24)) = W0 at *
      generalize w.heap.size = g at *
      refine yw.mono ?_
      rintro e w1 ⟨rfl, k1⟩
      have K1 := kB.trans k1
      obtain ⟨a0, a1, af0, af1⟩ := (hX.keep0 k1).cells
      have hA1 := hA.keep0 k1
      clear kB k1 hX yw hA
      go_wp2_with fail
      refine (yg w1 hA1).mono ?_
      rintro e w2 ⟨rfl, k2⟩
      have K2 := K1.trans k2
      replace a0 := k2.cell a0 (fun f => f)
      replace a1 := k2.cell a1 (fun f => f)
      have hA2 := hA1.keep0 k2
      clear K1 k2 yg hA1
      go_wp2
      go_ret
      exact ⟨rfl, K2⟩
    have i1 : ((t.size : Int) == 0) = false := beq_eq_false_iff_ne.2 (by omega)
    have i1' : ¬ (t.size : Int) = 0 := by omega
    by_cases h2 : 100 < t.size
    · have i2 : (100 : Int) < t.size := by omega
      go_enter Try.func6, Try.ntmps6
      go_wp2_with fail
      generalize (w.alloc (.cells #[.string key, .slice ao L.length cap] 24)) = W0 at *
      generalize w.heap.size = g at *
      refine yw.mono ?_
      rintro e w1 ⟨rfl, k1⟩
      have K1 := kB.trans k1
      obtain ⟨a0, a1, af0, af1⟩ := (hX.keep0 k1).cells
      have hA1 := hA.keep0 k1
      clear kB k1 hX yw hA
      go_wp2_with fail
      refine (yg w1 hA1).mono ?_
      rintro e w2 ⟨rfl, k2⟩
      have K2 := K1.trans k2
      replace a0 := k2.cell a0 (fun f => f)
      replace a1 := k2.cell a1 (fun f => f)
      have hA2 := hA1.keep0 k2
      clear K1 k2 yg hA1
      go_wp2
      go_ret
      exact ⟨rfl, K2⟩
    have i2 : ¬ (100 : Int) < t.size := by omega
    have yr := fun W (h : PosAt W ao L) => rencode17 W key hk ao cap L hl hf h
    have hez := encL_zero (o := ⟨key, L.map Po.x⟩)
    have hsz := encL_size ⟨key, L.map Po.x⟩
    obtain ⟨S, hS⟩ : ∃ S, (encL ⟨key, L.map Po.x⟩).1 = S := ⟨_, rfl⟩
    obtain ⟨E, hE⟩ : ∃ E, (encL ⟨key, L.map Po.x⟩).2 = E := ⟨_, rfl⟩
    rw [hS, hE] at yr
    rw [hS] at hsz hez
    rw [hE] at hez
    have j0 : (S.size : Int) ≤ 9223372036854775807 := by omega
    clear hS hE
    by_cases h0 : E = 0
    case neg =>
      have e0 : (E != 0) = true := by simpa using h0
      clear h0 hez
      go_enter Try.func6, Try.ntmps6
      go_wp2_with fail
      generalize (w.alloc (.cells #[.string key, .slice ao L.length cap] 24)) = W0 at *
      generalize w.heap.size = g at *
      refine yw.mono ?_
      rintro e w1 ⟨rfl, k1⟩
      have K1 := kB.trans k1
      obtain ⟨a0, a1, af0, af1⟩ := (hX.keep0 k1).cells
      have hA1 := hA.keep0 k1
      clear kB k1 hX yw hA
      go_wp2_with fail
      refine (yg w1 hA1).mono ?_
      rintro e w2 ⟨rfl, k2⟩
      have K2 := K1.trans k2
      replace a0 := k2.cell a0 (fun f => f)
      replace a1 := k2.cell a1 (fun f => f)
      have hA2 := hA1.keep0 k2
      clear K1 k2 yg hA1
      go_wp2_with fail
      refine (yr w2 hA2).mono ?_
      rintro e w3 ⟨rfl, k3⟩
      have K3 := K2.trans k3
      clear K2 k3 yr a0 a1 af0 af1 hA2
      go_wp2
      go_ret
      exact ⟨rfl, K3⟩
    obtain ⟨s1, s2, s3⟩ := hez h0
    subst h0
    by_cases h6 : 6000 < S.size
    · have j6 : (6000 : Int) < S.size := by omega
      clear s1 s2 s3 hez
      go_enter Try.func6, Try.ntmps6
      go_wp2_with fail
      generalize (w.alloc (.cells #[.string key, .slice ao L.length cap] 24)) = W0 at *
      generalize w.heap.size = g at *
      refine yw.mono ?_
      rintro e w1 ⟨rfl, k1⟩
      have K1 := kB.trans k1
      obtain ⟨a0, a1, af0, af1⟩ := (hX.keep0 k1).cells
      have hA1 := hA.keep0 k1
      clear kB k1 hX yw hA
      go_wp2_with fail
      refine (yg w1 hA1).mono ?_
      rintro e w2 ⟨rfl, k2⟩
      have K2 := K1.trans k2
      replace a0 := k2.cell a0 (fun f => f)
      replace a1 := k2.cell a1 (fun f => f)
      have hA2 := hA1.keep0 k2
      clear K1 k2 yg hA1
      go_wp2_with fail
      refine (yr w2 hA2).mono ?_
      rintro e w3 ⟨rfl, k3⟩
      have K3 := K2.trans k3
      clear K2 k3 yr a0 a1 af0 af1 hA2
      go_wp2
      go_ret
      exact ⟨rfl, K3⟩
    have hok : okOl ⟨key, L.map Po.x⟩ := ⟨s1, fun x hx => by
      obtain ⟨p, hp, rfl⟩ := List.mem_map.1 hx
      exact fun y hy => ((hf p hp).vec.2 y hy).2⟩
    have HS : Hid (∀ i, i < (eOl ⟨key, L.map Po.x⟩).size → (decL ((eOl ⟨key, L.map Po.x⟩).extract 0 i)).2 = 2) := fun i hi => ol_codec.dec_short (z := zOl) hok hi
    have HM : Hid ((decL (eOl ⟨key, L.map Po.x⟩ ++ t)).2 = 8) := ol_codec.dec_more (z := zOl) hok (by omega)
    rw [← s3] at HS HM
    clear s1 s2 s3 hez hok
    have hF' : (S.size : Int) ≤ 9223372036854775807 := by omega
    have hF6 : ¬ (6000 : Int) < S.size := by omega
    have hcat : ¬ 9223372036854775807 < S.size + t.size := by omega
    go_enter Try.func6, Try.ntmps6
    go_wp2_with fail
    generalize (w.alloc (.cells #[.string key, .slice ao L.length cap] 24)) = W0 at *
    generalize w.heap.size = g at *
    refine yw.mono ?_
    rintro e w1 ⟨rfl, k1⟩
    have K1 := kB.trans k1
    obtain ⟨a0, a1, af0, af1⟩ := (hX.keep0 k1).cells
    have hA1 := hA.keep0 k1
    clear kB k1 hX yw hA
    go_wp2_with fail
    refine (yg w1 hA1).mono ?_
    rintro e w2 ⟨rfl, k2⟩
    have K2 := K1.trans k2
    replace a0 := k2.cell a0 (fun f => f)
    replace a1 := k2.cell a1 (fun f => f)
    have hA2 := hA1.keep0 k2
    clear K1 k2 yg hA1
    go_wp2_with fail
    refine (yr w2 hA2).mono ?_
    rintro e w3 ⟨rfl, k3⟩
    have K3 := K2.trans k3
    clear K2 k3 yr a0 a1 af0 af1 hA2
    go_wp2_with fail
    go_loopw [7] (fun i wr => ∃ (j : Nat), i = .int .i64 (j : Int) ∧ j ≤ S.size ∧ Keep0 w wr) (fun i _ => S.size - (intOf i).toNat)
    case atStart => exact ⟨0, rfl, by omega, K3⟩
    case round =>
      obtain ⟨j, rfl, hj, hK⟩ := hrel
      clear K3
      by_cases hlt : j < S.size
      · have j1 : (j : Int) < S.size := by omega
        have yd := V.decode wr (S.extract 0 j) (by rw [ByteArray.size_extract]; omega)
        have hd := HS.out j hlt
        obtain ⟨D, hD⟩ : ∃ D, decL (S.extract 0 j) = D := ⟨_, rfl⟩
        rw [hD] at yd hd
        obtain ⟨D1, D2⟩ := D
        have hd : D2 = 2 := hd
        subst hd
        clear hD
        go_wp2_with fail
        refine yd.mono ?_
        rintro e w4 ⟨bo, cb, L2, rfl, _, _, _, _, k4⟩
        have K4 : ∀ o, Keep0 w (w4.alloc o) := fun o => (hK.trans k4).alloc o
        clear yd k4 hK
        go_wp2
        go_roundw
        case rel => exact ⟨j + 1, by go_num, by omega, K4 _⟩
        case measure => simp [intOf]; omega
      · have j1 : ¬ (j : Int) < S.size := by omega
        have yd := V.decode wr (S ++ t) (by rw [ByteArray.size_append]; omega)
        have hd := HM.out
        obtain ⟨D, hD⟩ : ∃ D, decL (S ++ t) = D := ⟨_, rfl⟩
        rw [hD] at yd hd
        obtain ⟨D1, D2⟩ := D
        have hd : D2 = 8 := hd
        subst hd
        clear hD
        go_wp2_with fail
        refine yd.mono ?_
        rintro e w4 ⟨bo, cb, L2, rfl, _, _, _, _, k4⟩
        have K4 : ∀ o, Keep0 w (w4.alloc o) := fun o => (hK.trans k4).alloc o
        clear yd k4 hK
        go_wp2
        go_ret
        exact ⟨rfl, K4 _⟩
end Go.Proofs.Ytmllchembkpdkaa
