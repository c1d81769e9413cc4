/-
  What this seat's claims lean on of the texts Encodes17.
  Conditions: as each theorem states.
-/
import Derived.WalkKit
import Derived.ProofKit
import Derived.Below
import Derived.Deep.Draws
import Derived.Deep.RegionHeld
import Derived.Test.YtmllchembkpdkaaChecked
import Derived.OpenShut
import Derived.ShutString
import Derived.WalkSpells
import Derived.WalkLawsBesides
import Derived.Deep.QuietTactic
import Derived.BigQuiet
import Derived.Laws.Bits64b
import Derived.PlainAid
import Derived.Lib.AppendStr
import Derived.Deep.AppendLies
import Derived.Laws.IdiomStrings
import Derived.Laws.BytesArg
import Derived.Deep.RegionWith
import Derived.Laws.AppendOwn
import Derived.Deep.DeepAppendWide
import Derived.Deep.Upon
import Derived.Maps.AppendAt
import Derived.Deep.Slices
import Derived.Test.YtmllchembkpdkaaZ36
import Derived.Test.YtmllchembkpdkaaZ1
namespace Go.Proofs.Ytmllchembkpdkaa
open Go.RowKit
set_option maxRecDepth 100000 in
set_option maxHeartbeats 8000000 in
theorem legacyEncodes_law (V : OlCode) (w : World) (key : ByteArray) (ao : Option Addr) (cap : Nat) (L : List Po) (hk : key.size ≤ maxLen) (hl : L.length ≤ maxLen) (hcp : L.length ≤ cap ∧ cap ≤ maxLen) (hf : ∀ p ∈ L, FitsOs p.x) (hA : PosAt w ao L) (key' : ByteArray) (ao' : Option Addr) (cap' : Nat) (L' : List Po) (hk' : key'.size ≤ maxLen) (hl' : L'.length ≤ maxLen) (hcp' : L'.length ≤ cap' ∧ cap' ≤ maxLen) (hf' : ∀ p ∈ L', FitsOs p.x) (hB : PosAt w ao' L') :
    Calls Try.prog 3 #[.agg #[.string key, .slice ao L.length cap], .agg #[.string key', .slice ao' L'.length cap']] w fun e w' => e = .returned (.bool true) ∧ Keep0 w w' := by
  have yga := fun W (h : PosAt W ao L) => rgreat17 W key hk ao cap L hl hf h
  have ygb := fun W (h : PosAt W ao' L') => rgreat17 W key' hk' ao' cap' L' hl' hf' h
  have kB : Keep0 w ((w.alloc (.cells #[.string key, .slice ao L.length cap] 24)).alloc (.cells #[.string key', .slice ao' L'.length cap'] 24)) := ((Keep.refl _ w).alloc _).alloc _
  have hX : DAt ((w.alloc (.cells #[.string key, .slice ao L.length cap] 24)).alloc (.cells #[.string key', .slice ao' L'.length cap'] 24)) w.heap.size (.string key) (.slice ao L.length cap) := (DAt.new w 24 (.string key) (.slice ao L.length cap)).keep0 ((Keep.refl _ _).alloc _)
  have hZ : DAt ((w.alloc (.cells #[.string key, .slice ao L.length cap] 24)).alloc (.cells #[.string key', .slice ao' L'.length cap'] 24)) (w.heap.size + 1) (.string key') (.slice ao' L'.length cap') := by
    have := DAt.new (w.alloc (.cells #[.string key, .slice ao L.length cap] 24)) 24 (.string key') (.slice ao' L'.length cap')
    rw [World.size_alloc] at this
    exact this
  have yw := awake17 V ((w.alloc (.cells #[.string key, .slice ao L.length cap] 24)).alloc (.cells #[.string key', .slice ao' L'.length cap'] 24))
  have HA : Hid (PosAt w ao L) := hA
  have HB : Hid (PosAt w ao' L') := hB
  clear hA hB
  cases hga : olGreat ⟨key, L.map Po.x⟩ with
  | true =>
    rw [hga] at yga
    go_enter Try.func3, Try.ntmps3
    go_wp2_with fail
    generalize ((w.alloc (.cells #[.string key, .slice ao L.length cap] 24)).alloc (.cells #[.string key', .slice ao' L'.length cap'] 24)) = WB at *
    generalize w.heap.size = gA at *
    refine yw.mono ?_
    rintro e w1 ⟨rfl, k1⟩
    have K1 := kB.trans k1
    obtain ⟨a0, a1, af0, af1⟩ := (hX.keep0 k1).cells
    obtain ⟨b0, b1, bf0, bf1⟩ := (hZ.keep0 k1).cells
    clear yw kB k1 hX hZ af0 af1 bf0 bf1
    go_wp2_with fail
    refine (yga w1 (HA.out.keep0 K1)).mono ?_
    rintro e w2 ⟨rfl, k⟩
    replace a0 := k.cell a0 (fun f => f)
    replace a1 := k.cell a1 (fun f => f)
    replace b0 := k.cell b0 (fun f => f)
    replace b1 := k.cell b1 (fun f => f)
    have K2 := K1.trans k
    clear k K1
    go_wp2
    go_ret
    exact ⟨rfl, K2⟩
  | false =>
    rw [hga] at yga
    cases hgb : olGreat ⟨key', L'.map Po.x⟩ with
    | true =>
      rw [hgb] at ygb
      go_enter Try.func3, Try.ntmps3
      go_wp2_with fail
      generalize ((w.alloc (.cells #[.string key, .slice ao L.length cap] 24)).alloc (.cells #[.string key', .slice ao' L'.length cap'] 24)) = WB at *
      generalize w.heap.size = gA at *
      refine yw.mono ?_
      rintro e w1 ⟨rfl, k1⟩
      have K1 := kB.trans k1
      obtain ⟨a0, a1, af0, af1⟩ := (hX.keep0 k1).cells
      obtain ⟨b0, b1, bf0, bf1⟩ := (hZ.keep0 k1).cells
      clear yw kB k1 hX hZ af0 af1 bf0 bf1
      go_wp2_with fail
      refine (yga w1 (HA.out.keep0 K1)).mono ?_
      rintro e w2 ⟨rfl, k⟩
      replace a0 := k.cell a0 (fun f => f)
      replace a1 := k.cell a1 (fun f => f)
      replace b0 := k.cell b0 (fun f => f)
      replace b1 := k.cell b1 (fun f => f)
      have K2 := K1.trans k
      clear k K1
      go_wp2_with fail
      refine (ygb w2 (HB.out.keep0 K2)).mono ?_
      rintro e w3 ⟨rfl, k⟩
      replace a0 := k.cell a0 (fun f => f)
      replace a1 := k.cell a1 (fun f => f)
      replace b0 := k.cell b0 (fun f => f)
      replace b1 := k.cell b1 (fun f => f)
      have K3 := K2.trans k
      clear k K2
      go_wp2
      go_ret
      exact ⟨rfl, K3⟩
    | false =>
      rw [hgb] at ygb
      obtain ⟨ox, hx20⟩ := great_ok17 hf hga
      obtain ⟨oy, _⟩ := great_ok17 hf' hgb
      have ye := fun W (h : PosAt W ao L) => V.encode W key ao cap L ox hcp.1 hcp.2 h
      have yre := fun W (h : PosAt W ao L) => rencode17 W key hk ao cap L hl hf h
      have ych := fun W (h : PosAt W ao L) => V.check W key ao cap L ox hcp.1 hcp.2 h
      have yrc := fun W (h : PosAt W ao L) => rcheck17 W key hk ao cap L hl hf h
      have ysa := fun W (h : PosAt W ao L) (h' : PosAt W ao' L') => V.same W key ao cap L key' ao' cap' L' ox hcp.1 hcp.2 h oy hcp'.1 hcp'.2 h'
      have yrs := fun W (h : PosAt W ao L) (h' : PosAt W ao' L') => rsame17 W key ao cap L hl hf h key' ao' cap' L' hl' hf' h'
      have yla := fun W (h : PosAt W ao L) (h' : PosAt W ao' L') => V.alike W key ao cap L key' ao' cap' L' ox hcp.1 hcp.2 h oy hcp'.1 hcp'.2 h'
      have yrl := fun W (h : PosAt W ao L) (h' : PosAt W ao' L') => ralike17 W key hk ao cap L hl hf h key' hk' ao' cap' L' hl' hf' h'
      have HF : Hid (∀ p ∈ L, FitsOs p.x) := hf
      have HKL : Hid (L.length ≤ maxLen) := hl
      have hes := encL_size ⟨key, L.map Po.x⟩
      have HD : Hid ((encL ⟨key, L.map Po.x⟩).2 = 0 → decL (encL ⟨key, L.map Po.x⟩).1 = (⟨key, L.map Po.x⟩, 0)) := by
        intro h
        obtain ⟨s1, s2, s3⟩ := encL_zero h
        rw [s3]
        exact ol_codec.dec_enc ⟨s1, ox.u⟩
      obtain ⟨S, hS⟩ : ∃ S, (encL ⟨key, L.map Po.x⟩).1 = S := ⟨_, rfl⟩
      obtain ⟨E, hE⟩ : ∃ E, (encL ⟨key, L.map Po.x⟩).2 = E := ⟨_, rfl⟩
      rw [hS, hE] at ye yre HD
      rw [hS] at hes
      have HSz : Hid (S.size ≤ 1000000) := by show _ ≤ _; omega
      have HfS : Hid (∀ L2 : List Po, L2.map Po.x = L.map Po.x → ∀ p ∈ L2, FitsOs p.x) := fun L2 h p hp => by
        have : p.x ∈ L.map Po.x := by rw [← h]; exact List.mem_map.2 ⟨p, hp, rfl⟩
        obtain ⟨q, hq, e⟩ := List.mem_map.1 this
        rw [← e]
        exact hf q hq
      generalize olCheck ⟨key, L.map Po.x⟩ = C at *
      generalize olSame ⟨key, L.map Po.x⟩ ⟨key', L'.map Po.x⟩ = SM at *
      generalize olAlike ⟨key, L.map Po.x⟩ ⟨key', L'.map Po.x⟩ = AL at *
      clear hS hE hes hga hgb ox oy hk hl hcp hf hk' hl' hcp' hf'
      go_enter Try.func3, Try.ntmps3
      go_wp2_with fail
      generalize ((w.alloc (.cells #[.string key, .slice ao L.length cap] 24)).alloc (.cells #[.string key', .slice ao' L'.length cap'] 24)) = WB at *
      generalize w.heap.size = gA at *
      refine yw.mono ?_
      rintro e w1 ⟨rfl, k1⟩
      have K1 := kB.trans k1
      obtain ⟨a0, a1, af0, af1⟩ := (hX.keep0 k1).cells
      obtain ⟨b0, b1, bf0, bf1⟩ := (hZ.keep0 k1).cells
      clear yw kB k1 hX hZ af0 af1 bf0 bf1
      go_wp2_with fail
      refine (yga w1 (HA.out.keep0 K1)).mono ?_
      rintro e w2 ⟨rfl, k⟩
      replace a0 := k.cell a0 (fun f => f)
      replace a1 := k.cell a1 (fun f => f)
      replace b0 := k.cell b0 (fun f => f)
      replace b1 := k.cell b1 (fun f => f)
      have K2 := K1.trans k
      clear k K1
      go_wp2_with fail
      refine (ygb w2 (HB.out.keep0 K2)).mono ?_
      rintro e w3 ⟨rfl, k⟩
      replace a0 := k.cell a0 (fun f => f)
      replace a1 := k.cell a1 (fun f => f)
      replace b0 := k.cell b0 (fun f => f)
      replace b1 := k.cell b1 (fun f => f)
      have K3 := K2.trans k
      clear k K2
      go_wp2_with fail
      refine (ye w3 (HA.out.keep0 K3)).mono ?_
      rintro e w4 ⟨rfl, k⟩
      replace a0 := k.cell a0 (fun f => f)
      replace a1 := k.cell a1 (fun f => f)
      replace b0 := k.cell b0 (fun f => f)
      replace b1 := k.cell b1 (fun f => f)
      have K4 := K3.trans k
      clear k K3
      go_wp2_with fail
      refine (yre w4 (HA.out.keep0 K4)).mono ?_
      rintro e w5 ⟨rfl, k⟩
      replace a0 := k.cell a0 (fun f => f)
      replace a1 := k.cell a1 (fun f => f)
      replace b0 := k.cell b0 (fun f => f)
      replace b1 := k.cell b1 (fun f => f)
      have K5 := K4.trans k
      clear k K4
      go_wp2_with fail
      have zch := fun W (K : Keep0 w5 W) => ych W (HA.out.keep0 (K5.trans K))
      have zrc := fun W (K : Keep0 w5 W) => yrc W (HA.out.keep0 (K5.trans K))
      have zsa := fun W (K : Keep0 w5 W) => ysa W (HA.out.keep0 (K5.trans K)) (HB.out.keep0 (K5.trans K))
      have zrs := fun W (K : Keep0 w5 W) => yrs W (HA.out.keep0 (K5.trans K)) (HB.out.keep0 (K5.trans K))
      have zla := fun W (K : Keep0 w5 W) => yla W (HA.out.keep0 (K5.trans K)) (HB.out.keep0 (K5.trans K))
      have zrl := fun W (K : Keep0 w5 W) => yrl W (HA.out.keep0 (K5.trans K)) (HB.out.keep0 (K5.trans K))
      have a0 : w5.cell? ⟨gA, 0, none⟩ = some (.string key) := a0
      have a1 : w5.cell? ⟨gA, 1, none⟩ = some (.slice ao L.length cap) := a1
      have b0 : w5.cell? ⟨gA + 1, 0, none⟩ = some (.string key') := b0
      have b1 : w5.cell? ⟨gA + 1, 1, none⟩ = some (.slice ao' L'.length cap') := b1
      refine wp_region_held_drew (S := (fun W => W.cell? ⟨gA, 0, none⟩ = some (.string key) ∧ W.cell? ⟨gA, 1, none⟩ = some (.slice ao L.length cap) ∧ W.cell? ⟨gA + 1, 0, none⟩ = some (.string key') ∧ W.cell? ⟨gA + 1, 1, none⟩ = some (.slice ao' L'.length cap'))) (by kernel_rfl) ⟨a0, a1, b0, b1⟩ (fun hHeld => ?_)
      refine wpAnyH_take (i := 0) (v := ?t0v) (by simp only [List.getElem?_toArray, List.getElem?_cons_zero] <;> rfl) (by kernel_rfl) (by kernel_rfl) (by kernel_rfl) (by exact fun _ _ _ h => h) (Or.inl ⟨by rfl, ?t0y⟩) hHeld ?t0r
      case t0y => intro w hSw; (try dsimp only at hSw); go_simp <;> rfl
      simp only [Act.put, List.setIfInBounds_toArray, List.set_cons_zero, List.set_cons_succ]
      refine wpAnyH_take (i := 2) (v := ?t1v) (by simp only [List.getElem?_toArray, List.getElem?_cons_succ, List.getElem?_cons_zero] <;> rfl) (by kernel_rfl) (by kernel_rfl) (by kernel_rfl) (by exact fun _ _ _ h => h) (Or.inl ⟨by rfl, ?t1y⟩) hHeld ?t1r
      case t1y => intro w hSw; (try dsimp only at hSw); go_simp <;> rfl
      simp only [Act.put, List.setIfInBounds_toArray, List.set_cons_zero, List.set_cons_succ]
      refine wpAnyH_ready (rs := [1]) (by kernel_rfl) (by simp) ?_
      refine AllReadyH.cons (by simp only [List.getElem?_toArray, List.getElem?_cons_succ, List.getElem?_cons_zero] <;> rfl) (fun K hK => ?_) AllReadyH.nil
      go_simp
      refine (zch _ ((Keep.refl (fun _ => False) w5).drew)).mono ?_
      rintro e u1 ⟨rfl, kx⟩
      have ku1 : Keep0 w5 u1 := ((Keep.refl (fun _ => False) w5).drew).trans kx
      clear kx
      go_wp2_with fail
      refine hK.out _ _ ⟨ku1.cell a0 (fun f => f), ku1.cell a1 (fun f => f), ku1.cell b0 (fun f => f), ku1.cell b1 (fun f => f)⟩ (fun hHeld => ?_)
      clear hK K
      refine wpAnyH_ready (rs := [3]) (by kernel_rfl) (by simp) ?_
      refine AllReadyH.cons (by simp only [List.getElem?_toArray, List.getElem?_cons_succ, List.getElem?_cons_zero] <;> rfl) (fun K hK => ?_) AllReadyH.nil
      go_simp
      refine (zrc _ (ku1)).mono ?_
      rintro e u2 ⟨rfl, kx⟩
      have ku2 : Keep0 w5 u2 := (ku1).trans kx
      clear kx
      go_wp2_with fail
      refine hK.out _ _ ⟨ku2.cell a0 (fun f => f), ku2.cell a1 (fun f => f), ku2.cell b0 (fun f => f), ku2.cell b1 (fun f => f)⟩ (fun hHeld => ?_)
      clear hK K
      refine wpAnyH_take (i := 4) (v := ?t2v) (by simp only [List.getElem?_toArray, List.getElem?_cons_succ, List.getElem?_cons_zero] <;> rfl) (by kernel_rfl) (by kernel_rfl) (by kernel_rfl) (by exact fun _ _ _ h => h) (Or.inl ⟨by rfl, ?t2y⟩) hHeld ?t2r
      case t2y => intro w hSw; (try dsimp only at hSw); go_simp <;> rfl
      simp only [Act.put, List.setIfInBounds_toArray, List.set_cons_zero, List.set_cons_succ]
      refine wpAnyH_take (i := 5) (v := ?t3v) (by simp only [List.getElem?_toArray, List.getElem?_cons_succ, List.getElem?_cons_zero] <;> rfl) (by kernel_rfl) (by kernel_rfl) (by kernel_rfl) (by exact fun _ _ _ h => h) (Or.inl ⟨by rfl, ?t3y⟩) hHeld ?t3r
      case t3y => intro w hSw; (try dsimp only at hSw); go_simp <;> rfl
      simp only [Act.put, List.setIfInBounds_toArray, List.set_cons_zero, List.set_cons_succ]
      refine wpAnyH_take (i := 6) (v := ?t4v) (by simp only [List.getElem?_toArray, List.getElem?_cons_succ, List.getElem?_cons_zero] <;> rfl) (by kernel_rfl) (by kernel_rfl) (by kernel_rfl) (by exact fun _ _ _ h => h) (Or.inl ⟨by rfl, ?t4y⟩) hHeld ?t4r
      case t4y => intro w hSw; (try dsimp only at hSw); go_simp <;> rfl
      simp only [Act.put, List.setIfInBounds_toArray, List.set_cons_zero, List.set_cons_succ]
      refine wpAnyH_take (i := 7) (v := ?t5v) (by simp only [List.getElem?_toArray, List.getElem?_cons_succ, List.getElem?_cons_zero] <;> rfl) (by kernel_rfl) (by kernel_rfl) (by kernel_rfl) (by exact fun _ _ _ h => h) (Or.inl ⟨by rfl, ?t5y⟩) hHeld ?t5r
      case t5y => intro w hSw; (try dsimp only at hSw); go_simp <;> rfl
      simp only [Act.put, List.setIfInBounds_toArray, List.set_cons_zero, List.set_cons_succ]
      refine wpAnyH_take (i := 8) (v := ?t6v) (by simp only [List.getElem?_toArray, List.getElem?_cons_succ, List.getElem?_cons_zero] <;> rfl) (by kernel_rfl) (by kernel_rfl) (by kernel_rfl) (by exact fun _ _ _ h => h) (Or.inl ⟨by rfl, ?t6y⟩) hHeld ?t6r
      case t6y => intro w hSw; (try dsimp only at hSw); go_simp <;> rfl
      simp only [Act.put, List.setIfInBounds_toArray, List.set_cons_zero, List.set_cons_succ]
      refine wpAnyH_take (i := 9) (v := ?t7v) (by simp only [List.getElem?_toArray, List.getElem?_cons_succ, List.getElem?_cons_zero] <;> rfl) (by kernel_rfl) (by kernel_rfl) (by kernel_rfl) (by exact fun _ _ _ h => h) (Or.inl ⟨by rfl, ?t7y⟩) hHeld ?t7r
      case t7y => intro w hSw; (try dsimp only at hSw); go_simp <;> rfl
      simp only [Act.put, List.setIfInBounds_toArray, List.set_cons_zero, List.set_cons_succ]
      refine wpAnyH_take (i := 10) (v := ?t8v) (by simp only [List.getElem?_toArray, List.getElem?_cons_succ, List.getElem?_cons_zero] <;> rfl) (by kernel_rfl) (by kernel_rfl) (by kernel_rfl) (by exact fun _ _ _ h => h) (Or.inl ⟨by rfl, ?t8y⟩) hHeld ?t8r
      case t8y => intro w hSw; (try dsimp only at hSw); go_simp <;> rfl
      simp only [Act.put, List.setIfInBounds_toArray, List.set_cons_zero, List.set_cons_succ]
      refine wpAnyH_take (i := 11) (v := ?t9v) (by simp only [List.getElem?_toArray, List.getElem?_cons_succ, List.getElem?_cons_zero] <;> rfl) (by kernel_rfl) (by kernel_rfl) (by kernel_rfl) (by exact fun _ _ _ h => h) (Or.inl ⟨by rfl, ?t9y⟩) hHeld ?t9r
      case t9y => intro w hSw; (try dsimp only at hSw); go_simp <;> rfl
      simp only [Act.put, List.setIfInBounds_toArray, List.set_cons_zero, List.set_cons_succ]
      refine wpAnyH_take (i := 12) (v := ?t10v) (by simp only [List.getElem?_toArray, List.getElem?_cons_succ, List.getElem?_cons_zero] <;> rfl) (by kernel_rfl) (by kernel_rfl) (by kernel_rfl) (by exact fun _ _ _ h => h) (Or.inl ⟨by rfl, ?t10y⟩) hHeld ?t10r
      case t10y => intro w hSw; (try dsimp only at hSw); go_simp <;> rfl
      simp only [Act.put, List.setIfInBounds_toArray, List.set_cons_zero, List.set_cons_succ]
      refine wpAnyH_take (i := 13) (v := ?t11v) (by simp only [List.getElem?_toArray, List.getElem?_cons_succ, List.getElem?_cons_zero] <;> rfl) (by kernel_rfl) (by kernel_rfl) (by kernel_rfl) (by exact fun _ _ _ h => h) (Or.inl ⟨by rfl, ?t11y⟩) hHeld ?t11r
      case t11y => intro w hSw; (try dsimp only at hSw); go_simp <;> rfl
      simp only [Act.put, List.setIfInBounds_toArray, List.set_cons_zero, List.set_cons_succ]
      refine wpAnyH_take (i := 14) (v := ?t12v) (by simp only [List.getElem?_toArray, List.getElem?_cons_succ, List.getElem?_cons_zero] <;> rfl) (by kernel_rfl) (by kernel_rfl) (by kernel_rfl) (by exact fun _ _ _ h => h) (Or.inl ⟨by rfl, ?t12y⟩) hHeld ?t12r
      case t12y => intro w hSw; (try dsimp only at hSw); go_simp <;> rfl
      simp only [Act.put, List.setIfInBounds_toArray, List.set_cons_zero, List.set_cons_succ]
      refine wpAnyH_take (i := 15) (v := ?t13v) (by simp only [List.getElem?_toArray, List.getElem?_cons_succ, List.getElem?_cons_zero] <;> rfl) (by kernel_rfl) (by kernel_rfl) (by kernel_rfl) (by exact fun _ _ _ h => h) (Or.inl ⟨by rfl, ?t13y⟩) hHeld ?t13r
      case t13y => intro w hSw; (try dsimp only at hSw); go_simp <;> rfl
      simp only [Act.put, List.setIfInBounds_toArray, List.set_cons_zero, List.set_cons_succ]
      refine wpAnyH_take (i := 16) (v := ?t14v) (by simp only [List.getElem?_toArray, List.getElem?_cons_succ, List.getElem?_cons_zero] <;> rfl) (by kernel_rfl) (by kernel_rfl) (by kernel_rfl) (by exact fun _ _ _ h => h) (Or.inl ⟨by rfl, ?t14y⟩) hHeld ?t14r
      case t14y => intro w hSw; (try dsimp only at hSw); go_simp <;> rfl
      simp only [Act.put, List.setIfInBounds_toArray, List.set_cons_zero, List.set_cons_succ]
      refine wpAnyH_take (i := 17) (v := ?t15v) (by simp only [List.getElem?_toArray, List.getElem?_cons_succ, List.getElem?_cons_zero] <;> rfl) (by kernel_rfl) (by kernel_rfl) (by kernel_rfl) (by exact fun _ _ _ h => h) (Or.inl ⟨by rfl, ?t15y⟩) hHeld ?t15r
      case t15y => intro w hSw; (try dsimp only at hSw); go_simp <;> rfl
      simp only [Act.put, List.setIfInBounds_toArray, List.set_cons_zero, List.set_cons_succ]
      refine wpAnyH_take (i := 19) (v := ?t16v) (by simp only [List.getElem?_toArray, List.getElem?_cons_succ, List.getElem?_cons_zero] <;> rfl) (by kernel_rfl) (by kernel_rfl) (by kernel_rfl) (by exact fun _ _ _ h => h) (Or.inl ⟨by rfl, ?t16y⟩) hHeld ?t16r
      case t16y => intro w hSw; (try dsimp only at hSw); go_simp <;> rfl
      simp only [Act.put, List.setIfInBounds_toArray, List.set_cons_zero, List.set_cons_succ]
      refine wpAnyH_take (i := 20) (v := ?t17v) (by simp only [List.getElem?_toArray, List.getElem?_cons_succ, List.getElem?_cons_zero] <;> rfl) (by kernel_rfl) (by kernel_rfl) (by kernel_rfl) (by exact fun _ _ _ h => h) (Or.inl ⟨by rfl, ?t17y⟩) hHeld ?t17r
      case t17y => intro w hSw; (try dsimp only at hSw); go_simp <;> rfl
      simp only [Act.put, List.setIfInBounds_toArray, List.set_cons_zero, List.set_cons_succ]
      refine wpAnyH_ready (rs := [18]) (by kernel_rfl) (by simp) ?_
      refine AllReadyH.cons (by simp only [List.getElem?_toArray, List.getElem?_cons_succ, List.getElem?_cons_zero] <;> rfl) (fun K hK => ?_) AllReadyH.nil
      go_simp
      refine (zsa _ (ku2)).mono ?_
      rintro e u3 ⟨rfl, kx⟩
      have ku3 : Keep0 w5 u3 := (ku2).trans kx
      clear kx
      go_wp2_with fail
      refine hK.out _ _ ⟨ku3.cell a0 (fun f => f), ku3.cell a1 (fun f => f), ku3.cell b0 (fun f => f), ku3.cell b1 (fun f => f)⟩ (fun hHeld => ?_)
      clear hK K
      refine wpAnyH_ready (rs := [21]) (by kernel_rfl) (by simp) ?_
      refine AllReadyH.cons (by simp only [List.getElem?_toArray, List.getElem?_cons_succ, List.getElem?_cons_zero] <;> rfl) (fun K hK => ?_) AllReadyH.nil
      go_simp
      refine (zrs _ (ku3)).mono ?_
      rintro e u4 ⟨rfl, kx⟩
      have ku4 : Keep0 w5 u4 := (ku3).trans kx
      clear kx
      go_wp2_with fail
      refine hK.out _ _ ⟨ku4.cell a0 (fun f => f), ku4.cell a1 (fun f => f), ku4.cell b0 (fun f => f), ku4.cell b1 (fun f => f)⟩ (fun hHeld => ?_)
      clear hK K
      refine wpAnyH_take (i := 22) (v := ?t18v) (by simp only [List.getElem?_toArray, List.getElem?_cons_succ, List.getElem?_cons_zero] <;> rfl) (by kernel_rfl) (by kernel_rfl) (by kernel_rfl) (by exact fun _ _ _ h => h) (Or.inl ⟨by rfl, ?t18y⟩) hHeld ?t18r
      case t18y => intro w hSw; (try dsimp only at hSw); go_simp <;> rfl
      simp only [Act.put, List.setIfInBounds_toArray, List.set_cons_zero, List.set_cons_succ]
      refine wpAnyH_take (i := 23) (v := ?t19v) (by simp only [List.getElem?_toArray, List.getElem?_cons_succ, List.getElem?_cons_zero] <;> rfl) (by kernel_rfl) (by kernel_rfl) (by kernel_rfl) (by exact fun _ _ _ h => h) (Or.inl ⟨by rfl, ?t19y⟩) hHeld ?t19r
      case t19y => intro w hSw; (try dsimp only at hSw); go_simp <;> rfl
      simp only [Act.put, List.setIfInBounds_toArray, List.set_cons_zero, List.set_cons_succ]
      refine wpAnyH_take (i := 24) (v := ?t20v) (by simp only [List.getElem?_toArray, List.getElem?_cons_succ, List.getElem?_cons_zero] <;> rfl) (by kernel_rfl) (by kernel_rfl) (by kernel_rfl) (by exact fun _ _ _ h => h) (Or.inl ⟨by rfl, ?t20y⟩) hHeld ?t20r
      case t20y => intro w hSw; (try dsimp only at hSw); go_simp <;> rfl
      simp only [Act.put, List.setIfInBounds_toArray, List.set_cons_zero, List.set_cons_succ]
      refine wpAnyH_take (i := 25) (v := ?t21v) (by simp only [List.getElem?_toArray, List.getElem?_cons_succ, List.getElem?_cons_zero] <;> rfl) (by kernel_rfl) (by kernel_rfl) (by kernel_rfl) (by exact fun _ _ _ h => h) (Or.inl ⟨by rfl, ?t21y⟩) hHeld ?t21r
      case t21y => intro w hSw; (try dsimp only at hSw); go_simp <;> rfl
      simp only [Act.put, List.setIfInBounds_toArray, List.set_cons_zero, List.set_cons_succ]
      refine wpAnyH_take (i := 26) (v := ?t22v) (by simp only [List.getElem?_toArray, List.getElem?_cons_succ, List.getElem?_cons_zero] <;> rfl) (by kernel_rfl) (by kernel_rfl) (by kernel_rfl) (by exact fun _ _ _ h => h) (Or.inl ⟨by rfl, ?t22y⟩) hHeld ?t22r
      case t22y => intro w hSw; (try dsimp only at hSw); go_simp <;> rfl
      simp only [Act.put, List.setIfInBounds_toArray, List.set_cons_zero, List.set_cons_succ]
      refine wpAnyH_take (i := 28) (v := ?t23v) (by simp only [List.getElem?_toArray, List.getElem?_cons_succ, List.getElem?_cons_zero] <;> rfl) (by kernel_rfl) (by kernel_rfl) (by kernel_rfl) (by exact fun _ _ _ h => h) (Or.inl ⟨by rfl, ?t23y⟩) hHeld ?t23r
      case t23y => intro w hSw; (try dsimp only at hSw); go_simp <;> rfl
      simp only [Act.put, List.setIfInBounds_toArray, List.set_cons_zero, List.set_cons_succ]
      refine wpAnyH_take (i := 29) (v := ?t24v) (by simp only [List.getElem?_toArray, List.getElem?_cons_succ, List.getElem?_cons_zero] <;> rfl) (by kernel_rfl) (by kernel_rfl) (by kernel_rfl) (by exact fun _ _ _ h => h) (Or.inl ⟨by rfl, ?t24y⟩) hHeld ?t24r
      case t24y => intro w hSw; (try dsimp only at hSw); go_simp <;> rfl
      simp only [Act.put, List.setIfInBounds_toArray, List.set_cons_zero, List.set_cons_succ]
      refine wpAnyH_ready (rs := [27]) (by kernel_rfl) (by simp) ?_
      refine AllReadyH.cons (by simp only [List.getElem?_toArray, List.getElem?_cons_succ, List.getElem?_cons_zero] <;> rfl) (fun K hK => ?_) AllReadyH.nil
      go_simp
      refine (zla _ (ku4)).mono ?_
      rintro e u5 ⟨rfl, kx⟩
      have ku5 : Keep0 w5 u5 := (ku4).trans kx
      clear kx
      go_wp2_with fail
      refine hK.out _ _ ⟨ku5.cell a0 (fun f => f), ku5.cell a1 (fun f => f), ku5.cell b0 (fun f => f), ku5.cell b1 (fun f => f)⟩ (fun hHeld => ?_)
      clear hK K
      refine wpAnyH_ready (rs := [30]) (by kernel_rfl) (by simp) ?_
      refine AllReadyH.cons (by simp only [List.getElem?_toArray, List.getElem?_cons_succ, List.getElem?_cons_zero] <;> rfl) (fun K hK => ?_) AllReadyH.nil
      go_simp
      refine (zrl _ (ku5)).mono ?_
      rintro e u6 ⟨rfl, kx⟩
      have ku6 : Keep0 w5 u6 := (ku5).trans kx
      clear kx
      go_wp2_with fail
      refine hK.out _ _ ⟨ku6.cell a0 (fun f => f), ku6.cell a1 (fun f => f), ku6.cell b0 (fun f => f), ku6.cell b1 (fun f => f)⟩ (fun hHeld => ?_)
      clear hK K
      refine wpAnyH_take (i := 31) (v := ?t25v) (by simp only [List.getElem?_toArray, List.getElem?_cons_succ, List.getElem?_cons_zero] <;> rfl) (by kernel_rfl) (by kernel_rfl) (by kernel_rfl) (by exact fun _ _ _ h => h) (Or.inl ⟨by rfl, ?t25y⟩) hHeld ?t25r
      case t25y => intro w hSw; (try dsimp only at hSw); go_simp <;> rfl
      simp only [Act.put, List.setIfInBounds_toArray, List.set_cons_zero, List.set_cons_succ]
      refine wpAnyH_take (i := 32) (v := ?t26v) (by simp only [List.getElem?_toArray, List.getElem?_cons_succ, List.getElem?_cons_zero] <;> rfl) (by kernel_rfl) (by kernel_rfl) (by kernel_rfl) (by exact fun _ _ _ h => h) (Or.inl ⟨by rfl, ?t26y⟩) hHeld ?t26r
      case t26y => intro w hSw; (try dsimp only at hSw); go_simp <;> rfl
      simp only [Act.put, List.setIfInBounds_toArray, List.set_cons_zero, List.set_cons_succ]
      refine wpAnyH_done (by kernel_rfl) ?_ _
      clear hHeld zch zrc zsa zrs zla zrl ych yrc ysa yrs yla yrl
      replace a0 := ku6.cell a0 (fun f => f)
      replace a1 := ku6.cell a1 (fun f => f)
      have K6 := K5.trans ku6
      clear b0 b1 ku1 ku2 ku3 ku4 ku5 ku6 K5
      generalize u6 = w6 at *
      by_cases h0 : E = 0
      case neg =>
        have e0 : (E != 0) = true := by simpa using h0
        go_wp2
        go_ret
        exact ⟨rfl, K6⟩
      subst h0
      have hdec := HD.out rfl
      have yd := fun W => V.decode W S HSz.out
      rw [hdec] at yd
      clear hdec HD
      go_wp2_with fail
      refine (yd w6).mono ?_
      rintro e wC ⟨so, sc, L2, rfl, hL2, _, _, hC, kC⟩
      have hL2 : L2.map Po.x = L.map Po.x := hL2
      have eL2 : L2.length = L.length := by
        have := congrArg List.length hL2
        rwa [List.length_map, List.length_map] at this
      have kD : Keep0 wC (wC.alloc (.cells #[.string key, .slice so L2.length sc] 24)) := (Keep.refl _ _).alloc _
      have hV := DAt.new wC 24 (.string key) (.slice so L2.length sc)
      have KD := (K6.trans kC).trans kD
      replace a0 := (kC.trans kD).cell a0 (fun f => f)
      replace a1 := (kC.trans kD).cell a1 (fun f => f)
      obtain ⟨d0, d1, df0, df1⟩ := hV.cells
      have ysm := rsame17 (wC.alloc (.cells #[.string key, .slice so L2.length sc] 24)) key so sc L2 (by rw [eL2]; exact HKL.out) (HfS.out L2 hL2) (hC.keep0 kD) key ao cap L HKL.out HF.out (HA.out.keep0 KD)
      rw [hL2, olSame_iff.2 rfl] at ysm
      dsimp only
      clear yd kC kD hC K6 hV hL2 eL2
      go_wp2_with fail
      generalize (wC.alloc (.cells #[.string key, .slice so L2.length sc] 24)) = wD at *
      generalize wC.heap.size = gD at *
      refine ysm.mono ?_
      rintro e wE ⟨rfl, kE⟩
      have KE := KD.trans kE
      clear ysm kE KD
      go_wp2
      go_ret
      exact ⟨by simp, KE⟩
end Go.Proofs.Ytmllchembkpdkaa
