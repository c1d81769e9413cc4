/-
  What this seat's claims lean on of the texts Encodes16.
  Conditions: as each theorem states.
-/
import Derived.WalkKit
import Derived.ProofKit
import Derived.Below
import Derived.Deep.Draws
import Derived.Deep.RegionHeld
import Derived.Test.YteonkfedgopdiaaGreatChecked
import Derived.OpenShut
import Derived.ShutString
import Derived.WalkSpells
import Derived.WalkLawsBesides
import Derived.Deep.QuietTactic
import Derived.BigQuiet
import Derived.Laws.Bits64b
import Derived.PlainAid
import Derived.Lib.AppendStr
import Derived.Deep.AppendLies
import Derived.Laws.IdiomStrings
import Derived.Laws.BytesArg
import Derived.Deep.RegionWith
import Derived.Laws.AppendOwn
import Derived.Deep.DeepAppendWide
import Derived.Deep.Upon
import Derived.Maps.AppendAt
import Derived.Laws.Rows
import Derived.Deep.Slices
import Derived.Deep.CutRange
import Derived.Deep.RegionLaw
import Derived.Test.YteonkfedgopdiaaGreatZ26
import Derived.Test.YteonkfedgopdiaaGreatZ1
namespace Go.Proofs.YteonkfedgopdiaaGreat
open Go.RowKit
structure RowP (w : World) (g off : Nat) (T : TypeId) (P : Nat → Prop) (cells : List Value) : Prop where
  blk : ∃ cur, w.heap[g]? = some (.cells cur T) ∧ ∀ q u, P q → cells[q]? = some u → cur[off + q]? = some u
section
variable {w : World} {g off : Nat} {T : TypeId} {P : Nat → Prop} {cells : List Value}
theorem RowP.lt (h : RowP w g off T P cells) : g < w.heap.size := by
  obtain ⟨cur, hk, _⟩ := h.blk
  exact (Array.getElem?_eq_some_iff.mp hk).1
theorem RowP.cell (h : RowP w g off T P cells) {q : Nat} {u : Value} (hq : P q) (hu : cells[q]? = some u) : w.cell? ⟨g, off + q, none⟩ = some u ∧ w.frozen? ⟨g, off + q, none⟩ = false := by
  obtain ⟨cur, hk, hc⟩ := h.blk
  have := hc q u hq hu
  simp [World.cell?, World.frozen?, hk, this]
theorem RowP.weak (h : RowP w g off T P cells) {P' : Nat → Prop} (hj : ∀ q, P' q → P q) : RowP w g off T P' cells := by
  obtain ⟨cur, hk, hc⟩ := h.blk
  exact ⟨cur, hk, fun q u hq hu => hc q u (hj q hq) hu⟩
theorem RowP.keep {R : Nat → Prop} {w' : World} (h : RowP w g off T P cells) (K : Keep R w w') (hn : ¬ R g) : RowP w' g off T P cells := by
  obtain ⟨cur, hk, hc⟩ := h.blk
  exact ⟨cur, by rw [K.block g h.lt hn]; exact hk, hc⟩
theorem RowP.set (h : RowP w g off T P cells) (q : Nat) (v : Value) {P' : Nat → Prop} (hj : ∀ i, P' i → P i ∧ i ≠ q) : RowP (w.setCell ⟨g, off + q, none⟩ v) g off T P' cells := by
  obtain ⟨cur, hk, hc⟩ := h.blk
  refine ⟨_, heap_setCell_at hk v, fun i u hi hu => ?_⟩
  obtain ⟨h1, h2⟩ := hj i hi
  have := hc i u h1 hu
  rw [Array.getElem?_setIfInBounds_ne (by omega)]
  exact this
theorem RowP.apart {g' off' : Nat} {T' : TypeId} {P' : Nat → Prop} {cells' : List Value} (h : RowP w g off T P cells) (h' : RowP w g' off' T' P' cells') (ht : T ≠ T') : g ≠ g' := by
  intro e
  subst e
  obtain ⟨c1, h1, _⟩ := h.blk
  obtain ⟨c2, h2, _⟩ := h'.blk
  rw [h1] at h2
  cases h2
  exact ht rfl
theorem rowP_of_own {B n cap k : Nat} {ao : Option Addr} (h : w.ownsRow B T k (.slice ao n cap) n cells) (hn : 0 < n) : ∃ g off, ao = some ⟨g, off, none⟩ ∧ B ≤ g ∧ RowP w g off T (fun _ => True) cells := by
  rcases h.2 with ⟨_, e⟩ | ⟨g, c, cur, e, hb, hg, _, _, _, ht⟩
  · omega
  · cases e
    refine ⟨g, 0, rfl, hb, ⟨cur, hg, fun q u _ hu => ?_⟩⟩
    rw [← ht] at hu
    rw [Nat.zero_add]
    rw [List.getElem?_take] at hu
    split at hu
    · rw [← Array.getElem?_toList]; exact hu
    · cases hu
end
def SRow (w : World) (gA gK : Nat) (ao : Option Addr) (L : List Pl) (P : Nat → Prop) : Prop := 0 < L.length → ∃ g off, ao = some ⟨g, off, none⟩ ∧ gA + 2 ≤ g ∧ g < gK ∧ RowP w g off 44 P (rowOf Pl.cells L)
def MRow (w : World) (gA gK : Nat) (p : Pl) (P : Nat → Prop) : Prop := 0 < p.x.m.length → ∃ g off, p.po = some ⟨g, off, none⟩ ∧ gA + 2 ≤ g ∧ g < gK ∧ RowP w g off 46 P (prCells p.x.m)
theorem SRow.keep0 {w w' : World} {gA gK : Nat} {ao : Option Addr} {L : List Pl} {P : Nat → Prop} (h : SRow w gA gK ao L P) (K : Keep0 w w') : SRow w' gA gK ao L P := fun hl => by
  obtain ⟨g, off, e, h1, h2, h3⟩ := h hl
  exact ⟨g, off, e, h1, h2, h3.keep K (fun f => f)⟩
theorem MRow.keep0 {w w' : World} {gA gK : Nat} {p : Pl} {P : Nat → Prop} (h : MRow w gA gK p P) (K : Keep0 w w') : MRow w' gA gK p P := fun hl => by
  obtain ⟨g, off, e, h1, h2, h3⟩ := h hl
  exact ⟨g, off, e, h1, h2, h3.keep K (fun f => f)⟩
theorem MRow.set {w : World} {gA gK : Nat} {p : Pl} {P Q : Nat → Prop} (h : MRow w gA gK p P) {g off : Nat} {c : List Value} (hr : RowP w g off 44 Q c) (o : Nat) (u : Value) : MRow (w.setCell ⟨g, o, none⟩ u) gA gK p P := fun hl => by
  obtain ⟨g', off', e, h1, h2, h3⟩ := h hl
  exact ⟨g', off', e, h1, h2, h3.keep (set_keep1 w g o u) (h3.apart hr (by decide))⟩
theorem SRow.setP {w : World} {gA gK : Nat} {ao : Option Addr} {L : List Pl} {P Q : Nat → Prop} (h : SRow w gA gK ao L P) {g off : Nat} {c : List Value} (hr : RowP w g off 46 Q c) (o : Nat) (u : Value) : SRow (w.setCell ⟨g, o, none⟩ u) gA gK ao L P := fun hl => by
  obtain ⟨g', off', e, h1, h2, h3⟩ := h hl
  exact ⟨g', off', e, h1, h2, h3.keep (set_keep1 w g o u) (h3.apart hr (by decide))⟩
theorem MRow.setP {w : World} {gA gK : Nat} {p : Pl} {P : Nat → Prop} (h : MRow w gA gK p P) {g : Nat} (hn : 0 < p.x.m.length → ∀ g' o m, p.po = some ⟨g', o, m⟩ → g' ≠ g) (o : Nat) (u : Value) : MRow (w.setCell ⟨g, o, none⟩ u) gA gK p P := fun hl => by
  obtain ⟨g', off', e, h1, h2, h3⟩ := h hl
  exact ⟨g', off', e, h1, h2, h3.keep (set_keep1 w g o u) (hn hl _ _ _ e)⟩
theorem great_ok16 {x : Ob} (f : FitsO x) (h : oGreat x = false) : Ok16 x ∧ x.l.length ≤ 20 := by
  obtain ⟨h1, h2, h3⟩ := oGreat_no h
  exact ⟨⟨by omega, by omega, fun z hz => sGreat_ok (f.sib z hz) (h3 z hz)⟩, h2⟩
theorem CopyL.pls {B : Nat} {w : World} {ao : Option Addr} {cap : Nat} {L : List Pl} (h : CopyL B w ao cap L) : PlsAt w ao L := by
  obtain ⟨ao', cap', e, h1, _⟩ := row_of_own plT.len plT.pos h.row
  cases e
  refine ⟨h1, fun p hp => ⟨?_, ?_, rowP_cap (h.prs p hp)⟩⟩
  · obtain ⟨a, c, e, h2, _⟩ := ens_of_row (h.vec p hp)
    cases e
    exact h2
  · obtain ⟨a, c, e, h2, _⟩ := prs_of_row (h.prs p hp)
    cases e
    exact h2
set_option maxRecDepth 100000 in
set_option maxHeartbeats 8000000 in
theorem objectEncodes_law (V : ObCode) (w : World) (ao : Option Addr) (cap : Nat) (x : Ob) (fx : FitsO x) (cx : x.l.length ≤ cap ∧ cap ≤ maxLen) (hA : SibsAt w ao x.l) (ao' : Option Addr) (cap' : Nat) (y : Ob) (fy : FitsO y) (cy : y.l.length ≤ cap' ∧ cap' ≤ maxLen) (hB : SibsAt w ao' y.l) :
    Calls Tryz.prog 3 #[.agg #[.string x.key, .slice ao x.l.length cap], .agg #[.string y.key, .slice ao' y.l.length cap']] w fun e w' => e = .returned (.bool true) ∧ Keep0 w w' := by
  have yga := fun W (h : SibsAt W ao x.l) => rgreat16 W ao cap x fx h
  have ygb := fun W (h : SibsAt W ao' y.l) => rgreat16 W ao' cap' y fy h
  have kB : Keep0 w ((w.alloc (.cells #[.string x.key, .slice ao x.l.length cap] 24)).alloc (.cells #[.string y.key, .slice ao' y.l.length cap'] 24)) := ((Keep.refl _ w).alloc _).alloc _
  have hX : DAt ((w.alloc (.cells #[.string x.key, .slice ao x.l.length cap] 24)).alloc (.cells #[.string y.key, .slice ao' y.l.length cap'] 24)) w.heap.size (.string x.key) (.slice ao x.l.length cap) := (DAt.new w 24 (.string x.key) (.slice ao x.l.length cap)).keep0 ((Keep.refl _ _).alloc _)
  have hZ : DAt ((w.alloc (.cells #[.string x.key, .slice ao x.l.length cap] 24)).alloc (.cells #[.string y.key, .slice ao' y.l.length cap'] 24)) (w.heap.size + 1) (.string y.key) (.slice ao' y.l.length cap') := by
    have := DAt.new (w.alloc (.cells #[.string x.key, .slice ao x.l.length cap] 24)) 24 (.string y.key) (.slice ao' y.l.length cap')
    rw [World.size_alloc] at this
    exact this
  have zB : ((w.alloc (.cells #[.string x.key, .slice ao x.l.length cap] 24)).alloc (.cells #[.string y.key, .slice ao' y.l.length cap'] 24)).heap.size = w.heap.size + 2 := by rw [World.size_alloc, World.size_alloc]
  have yw := awake16 V ((w.alloc (.cells #[.string x.key, .slice ao x.l.length cap] 24)).alloc (.cells #[.string y.key, .slice ao' y.l.length cap'] 24))
  have HA : Hid (SibsAt w ao x.l) := hA
  have HB : Hid (SibsAt w ao' y.l) := hB
  clear hA hB
  cases hga : oGreat x with
  | true =>
    rw [hga] at yga
    go_enter Tryz.func3, Tryz.ntmps3
    go_wp2_with fail
    generalize ((w.alloc (.cells #[.string x.key, .slice ao x.l.length cap] 24)).alloc (.cells #[.string y.key, .slice ao' y.l.length cap'] 24)) = WB at *
    obtain ⟨gA, hgA⟩ : ∃ gA, w.heap.size = gA := ⟨_, rfl⟩
    rw [hgA] at hX hZ zB ⊢
    have HG : Hid (w.heap.size = gA) := hgA
    refine yw.mono ?_
    rintro e w1 ⟨rfl, k1⟩
    have K1 := kB.trans k1
    have HZ1 : Hid (gA + 2 ≤ w1.heap.size) := by show _ ≤ _; have := k1.size; omega
    obtain ⟨a0, a1, af0, af1⟩ := (hX.keep0 k1).cells
    obtain ⟨b0, b1, bf0, bf1⟩ := (hZ.keep0 k1).cells
    have HXD : Hid (DAt w1 gA (.string x.key) (.slice ao x.l.length cap)) := hX.keep0 k1
    clear yw kB k1 hX hZ zB hgA af0 af1 bf0 bf1
    go_wp2_with fail
    refine (yga w1 (HA.out.keep0 K1)).mono ?_
    rintro e w2 ⟨rfl, k⟩
    replace a0 := k.cell a0 (fun f => f)
    replace a1 := k.cell a1 (fun f => f)
    replace b0 := k.cell b0 (fun f => f)
    replace b1 := k.cell b1 (fun f => f)
    have HXD : Hid (DAt w2 gA (.string x.key) (.slice ao x.l.length cap)) := HXD.out.keep0 k
    have K2 := K1.trans k
    have HZ2 : Hid (gA + 2 ≤ w2.heap.size) := by show _ ≤ _; have := k.size; have := HZ1.out; omega
    clear k K1 HZ1
    go_wp2
    go_ret
    exact ⟨rfl, K2⟩
  | false =>
    rw [hga] at yga
    cases hgb : oGreat y with
    | true =>
      rw [hgb] at ygb
      go_enter Tryz.func3, Tryz.ntmps3
      go_wp2_with fail
      generalize ((w.alloc (.cells #[.string x.key, .slice ao x.l.length cap] 24)).alloc (.cells #[.string y.key, .slice ao' y.l.length cap'] 24)) = WB at *
      obtain ⟨gA, hgA⟩ : ∃ gA, w.heap.size = gA := ⟨_, rfl⟩
      rw [hgA] at hX hZ zB ⊢
      have HG : Hid (w.heap.size = gA) := hgA
      refine yw.mono ?_
      rintro e w1 ⟨rfl, k1⟩
      have K1 := kB.trans k1
      have HZ1 : Hid (gA + 2 ≤ w1.heap.size) := by show _ ≤ _; have := k1.size; omega
      obtain ⟨a0, a1, af0, af1⟩ := (hX.keep0 k1).cells
      obtain ⟨b0, b1, bf0, bf1⟩ := (hZ.keep0 k1).cells
      have HXD : Hid (DAt w1 gA (.string x.key) (.slice ao x.l.length cap)) := hX.keep0 k1
      clear yw kB k1 hX hZ zB hgA af0 af1 bf0 bf1
      go_wp2_with fail
      refine (yga w1 (HA.out.keep0 K1)).mono ?_
      rintro e w2 ⟨rfl, k⟩
      replace a0 := k.cell a0 (fun f => f)
      replace a1 := k.cell a1 (fun f => f)
      replace b0 := k.cell b0 (fun f => f)
      replace b1 := k.cell b1 (fun f => f)
      have HXD : Hid (DAt w2 gA (.string x.key) (.slice ao x.l.length cap)) := HXD.out.keep0 k
      have K2 := K1.trans k
      have HZ2 : Hid (gA + 2 ≤ w2.heap.size) := by show _ ≤ _; have := k.size; have := HZ1.out; omega
      clear k K1 HZ1
      go_wp2_with fail
      refine (ygb w2 (HB.out.keep0 K2)).mono ?_
      rintro e w3 ⟨rfl, k⟩
      replace a0 := k.cell a0 (fun f => f)
      replace a1 := k.cell a1 (fun f => f)
      replace b0 := k.cell b0 (fun f => f)
      replace b1 := k.cell b1 (fun f => f)
      have HXD : Hid (DAt w3 gA (.string x.key) (.slice ao x.l.length cap)) := HXD.out.keep0 k
      have K3 := K2.trans k
      have HZ3 : Hid (gA + 2 ≤ w3.heap.size) := by show _ ≤ _; have := k.size; have := HZ2.out; omega
      clear k K2 HZ2
      go_wp2
      go_ret
      exact ⟨rfl, K3⟩
    | false =>
      rw [hgb] at ygb
      obtain ⟨ox, hx20⟩ := great_ok16 fx hga
      obtain ⟨oy, _⟩ := great_ok16 fy hgb
      have HMs : Hid (∀ z ∈ x.l, z.v.size ≤ 200 ∧ z.m.length ≤ 20 ∧ ∀ p ∈ z.m, p.v.size ≤ 100) := fun z hz => by
        obtain ⟨_, q2, q3⟩ := sGreat_no ((oGreat_no hga).2.2 z hz)
        exact ⟨q3, (greatq_no q2).1, fun p hp => ((greatq_no q2).2 p hp).2⟩
      have i1 : (x.l.length : Int) ≤ 9223372036854775807 := by omega
      have ye := fun W (h : SibsAt W ao x.l) => V.encode W ao cap x ox cx h
      have yre := fun W (h : SibsAt W ao x.l) => rencode16 W ao cap x fx h
      have ych := fun W (h : SibsAt W ao x.l) => V.check W ao cap x ox cx h
      have yrc := fun W (h : SibsAt W ao x.l) => rcheck16 W ao cap x fx h
      have ysa := fun W (h : SibsAt W ao x.l) (h' : SibsAt W ao' y.l) => V.same W ao cap x ao' cap' y ox oy cx cy h h'
      have yrs := fun W (h : SibsAt W ao x.l) (h' : SibsAt W ao' y.l) => rsame16 W ao cap x ao' cap' y fx fy h h'
      have ycp := fun W (h : SibsAt W ao x.l) => V.copy W ao cap x ox cx h
      have ysk := fun W uo uc (h : SibsAt W uo x.l) (h' : SibsAt W ao x.l) => rsame16 W uo uc x ao cap x fx fx h h'
      rw [oSame_iff.2 rfl] at ysk
      have ysm := ysk
      have hes := encO_size x
      have HD : Hid ((encO x).2 = 0 → decO (encO x).1 = (x, 0)) := by
        intro h
        obtain ⟨s1, s2, s3⟩ := encO_zero h
        rw [s3]
        exact ob_codec.dec_enc ⟨s1, ox.u⟩
      obtain ⟨S, hS⟩ : ∃ S, (encO x).1 = S := ⟨_, rfl⟩
      obtain ⟨E, hE⟩ : ∃ E, (encO x).2 = E := ⟨_, rfl⟩
      rw [hS, hE] at ye yre HD
      rw [hS] at hes
      have HSz : Hid (S.size ≤ 1000000) := by show _ ≤ _; omega
      generalize oCheck x = C at *
      generalize oSame x y = SM at *
      clear hS hE hes hga hgb ox oy
      go_enter Tryz.func3, Tryz.ntmps3
      go_wp2_with fail
      generalize ((w.alloc (.cells #[.string x.key, .slice ao x.l.length cap] 24)).alloc (.cells #[.string y.key, .slice ao' y.l.length cap'] 24)) = WB at *
      obtain ⟨gA, hgA⟩ : ∃ gA, w.heap.size = gA := ⟨_, rfl⟩
      rw [hgA] at hX hZ zB ⊢
      have HG : Hid (w.heap.size = gA) := hgA
      refine yw.mono ?_
      rintro e w1 ⟨rfl, k1⟩
      have K1 := kB.trans k1
      have HZ1 : Hid (gA + 2 ≤ w1.heap.size) := by show _ ≤ _; have := k1.size; omega
      obtain ⟨a0, a1, af0, af1⟩ := (hX.keep0 k1).cells
      obtain ⟨b0, b1, bf0, bf1⟩ := (hZ.keep0 k1).cells
      have HXD : Hid (DAt w1 gA (.string x.key) (.slice ao x.l.length cap)) := hX.keep0 k1
      clear yw kB k1 hX hZ zB hgA af0 af1 bf0 bf1
      go_wp2_with fail
      refine (yga w1 (HA.out.keep0 K1)).mono ?_
      rintro e w2 ⟨rfl, k⟩
      replace a0 := k.cell a0 (fun f => f)
      replace a1 := k.cell a1 (fun f => f)
      replace b0 := k.cell b0 (fun f => f)
      replace b1 := k.cell b1 (fun f => f)
      have HXD : Hid (DAt w2 gA (.string x.key) (.slice ao x.l.length cap)) := HXD.out.keep0 k
      have K2 := K1.trans k
      have HZ2 : Hid (gA + 2 ≤ w2.heap.size) := by show _ ≤ _; have := k.size; have := HZ1.out; omega
      clear k K1 HZ1
      go_wp2_with fail
      refine (ygb w2 (HB.out.keep0 K2)).mono ?_
      rintro e w3 ⟨rfl, k⟩
      replace a0 := k.cell a0 (fun f => f)
      replace a1 := k.cell a1 (fun f => f)
      replace b0 := k.cell b0 (fun f => f)
      replace b1 := k.cell b1 (fun f => f)
      have HXD : Hid (DAt w3 gA (.string x.key) (.slice ao x.l.length cap)) := HXD.out.keep0 k
      have K3 := K2.trans k
      have HZ3 : Hid (gA + 2 ≤ w3.heap.size) := by show _ ≤ _; have := k.size; have := HZ2.out; omega
      clear k K2 HZ2
      go_wp2_with fail
      refine (ye w3 (HA.out.keep0 K3)).mono ?_
      rintro e w4 ⟨rfl, k⟩
      replace a0 := k.cell a0 (fun f => f)
      replace a1 := k.cell a1 (fun f => f)
      replace b0 := k.cell b0 (fun f => f)
      replace b1 := k.cell b1 (fun f => f)
      have HXD : Hid (DAt w4 gA (.string x.key) (.slice ao x.l.length cap)) := HXD.out.keep0 k
      have K4 := K3.trans k
      have HZ4 : Hid (gA + 2 ≤ w4.heap.size) := by show _ ≤ _; have := k.size; have := HZ3.out; omega
      clear k K3 HZ3
      go_wp2_with fail
      refine (yre w4 (HA.out.keep0 K4)).mono ?_
      rintro e w5 ⟨rfl, k⟩
      replace a0 := k.cell a0 (fun f => f)
      replace a1 := k.cell a1 (fun f => f)
      replace b0 := k.cell b0 (fun f => f)
      replace b1 := k.cell b1 (fun f => f)
      have HXD : Hid (DAt w5 gA (.string x.key) (.slice ao x.l.length cap)) := HXD.out.keep0 k
      have K5 := K4.trans k
      have HZ5 : Hid (gA + 2 ≤ w5.heap.size) := by show _ ≤ _; have := k.size; have := HZ4.out; omega
      clear k K4 HZ4
      go_wp2_with fail
      have zch := fun W (K : Keep0 w5 W) => ych W (HA.out.keep0 (K5.trans K))
      have zrc := fun W (K : Keep0 w5 W) => yrc W (HA.out.keep0 (K5.trans K))
      have zsa := fun W (K : Keep0 w5 W) => ysa W (HA.out.keep0 (K5.trans K)) (HB.out.keep0 (K5.trans K))
      have zrs := fun W (K : Keep0 w5 W) => yrs W (HA.out.keep0 (K5.trans K)) (HB.out.keep0 (K5.trans K))
      have a0 : w5.cell? ⟨gA, 0, none⟩ = some (.string x.key) := a0
      have a1 : w5.cell? ⟨gA, 1, none⟩ = some (.slice ao x.l.length cap) := a1
      have b0 : w5.cell? ⟨gA + 1, 0, none⟩ = some (.string y.key) := b0
      have b1 : w5.cell? ⟨gA + 1, 1, none⟩ = some (.slice ao' y.l.length cap') := b1
      refine wp_region_held_drew (S := (fun W => W.cell? ⟨gA, 0, none⟩ = some (.string x.key) ∧ W.cell? ⟨gA, 1, none⟩ = some (.slice ao x.l.length cap) ∧ W.cell? ⟨gA + 1, 0, none⟩ = some (.string y.key) ∧ W.cell? ⟨gA + 1, 1, none⟩ = some (.slice ao' y.l.length cap'))) (by kernel_rfl) ⟨a0, a1, b0, b1⟩ (fun hHeld => ?_)
      refine wpAnyH_take (i := 0) (v := ?t0v) (by simp only [List.getElem?_toArray, List.getElem?_cons_zero] <;> rfl) (by kernel_rfl) (by kernel_rfl) (by kernel_rfl) (by exact fun _ _ _ h => h) (Or.inl ⟨by rfl, ?t0y⟩) hHeld ?t0r
      case t0y => intro w hSw; (try dsimp only at hSw); go_simp <;> rfl
      simp only [Act.put, List.setIfInBounds_toArray, List.set_cons_zero, List.set_cons_succ]
      refine wpAnyH_take (i := 2) (v := ?t1v) (by simp only [List.getElem?_toArray, List.getElem?_cons_succ, List.getElem?_cons_zero] <;> rfl) (by kernel_rfl) (by kernel_rfl) (by kernel_rfl) (by exact fun _ _ _ h => h) (Or.inl ⟨by rfl, ?t1y⟩) hHeld ?t1r
      case t1y => intro w hSw; (try dsimp only at hSw); go_simp <;> rfl
      simp only [Act.put, List.setIfInBounds_toArray, List.set_cons_zero, List.set_cons_succ]
      refine wpAnyH_ready (rs := [1]) (by kernel_rfl) (by simp) ?_
      refine AllReadyH.cons (by simp only [List.getElem?_toArray, List.getElem?_cons_succ, List.getElem?_cons_zero] <;> rfl) (fun K hK => ?_) AllReadyH.nil
      go_simp
      refine (zch _ ((Keep.refl (fun _ => False) w5).drew)).mono ?_
      rintro e u1 ⟨rfl, kx⟩
      have ku1 : Keep0 w5 u1 := ((Keep.refl (fun _ => False) w5).drew).trans kx
      clear kx
      go_wp2_with fail
      refine hK.out _ _ ⟨ku1.cell a0 (fun f => f), ku1.cell a1 (fun f => f), ku1.cell b0 (fun f => f), ku1.cell b1 (fun f => f)⟩ (fun hHeld => ?_)
      clear hK K
      refine wpAnyH_ready (rs := [3]) (by kernel_rfl) (by simp) ?_
      refine AllReadyH.cons (by simp only [List.getElem?_toArray, List.getElem?_cons_succ, List.getElem?_cons_zero] <;> rfl) (fun K hK => ?_) AllReadyH.nil
      go_simp
      refine (zrc _ (ku1)).mono ?_
      rintro e u2 ⟨rfl, kx⟩
      have ku2 : Keep0 w5 u2 := (ku1).trans kx
      clear kx
      go_wp2_with fail
      refine hK.out _ _ ⟨ku2.cell a0 (fun f => f), ku2.cell a1 (fun f => f), ku2.cell b0 (fun f => f), ku2.cell b1 (fun f => f)⟩ (fun hHeld => ?_)
      clear hK K
      refine wpAnyH_take (i := 4) (v := ?t2v) (by simp only [List.getElem?_toArray, List.getElem?_cons_succ, List.getElem?_cons_zero] <;> rfl) (by kernel_rfl) (by kernel_rfl) (by kernel_rfl) (by exact fun _ _ _ h => h) (Or.inl ⟨by rfl, ?t2y⟩) hHeld ?t2r
      case t2y => intro w hSw; (try dsimp only at hSw); go_simp <;> rfl
      simp only [Act.put, List.setIfInBounds_toArray, List.set_cons_zero, List.set_cons_succ]
      refine wpAnyH_take (i := 5) (v := ?t3v) (by simp only [List.getElem?_toArray, List.getElem?_cons_succ, List.getElem?_cons_zero] <;> rfl) (by kernel_rfl) (by kernel_rfl) (by kernel_rfl) (by exact fun _ _ _ h => h) (Or.inl ⟨by rfl, ?t3y⟩) hHeld ?t3r
      case t3y => intro w hSw; (try dsimp only at hSw); go_simp <;> rfl
      simp only [Act.put, List.setIfInBounds_toArray, List.set_cons_zero, List.set_cons_succ]
      refine wpAnyH_take (i := 6) (v := ?t4v) (by simp only [List.getElem?_toArray, List.getElem?_cons_succ, List.getElem?_cons_zero] <;> rfl) (by kernel_rfl) (by kernel_rfl) (by kernel_rfl) (by exact fun _ _ _ h => h) (Or.inl ⟨by rfl, ?t4y⟩) hHeld ?t4r
      case t4y => intro w hSw; (try dsimp only at hSw); go_simp <;> rfl
      simp only [Act.put, List.setIfInBounds_toArray, List.set_cons_zero, List.set_cons_succ]
      refine wpAnyH_take (i := 7) (v := ?t5v) (by simp only [List.getElem?_toArray, List.getElem?_cons_succ, List.getElem?_cons_zero] <;> rfl) (by kernel_rfl) (by kernel_rfl) (by kernel_rfl) (by exact fun _ _ _ h => h) (Or.inl ⟨by rfl, ?t5y⟩) hHeld ?t5r
      case t5y => intro w hSw; (try dsimp only at hSw); go_simp <;> rfl
      simp only [Act.put, List.setIfInBounds_toArray, List.set_cons_zero, List.set_cons_succ]
      refine wpAnyH_take (i := 8) (v := ?t6v) (by simp only [List.getElem?_toArray, List.getElem?_cons_succ, List.getElem?_cons_zero] <;> rfl) (by kernel_rfl) (by kernel_rfl) (by kernel_rfl) (by exact fun _ _ _ h => h) (Or.inl ⟨by rfl, ?t6y⟩) hHeld ?t6r
      case t6y => intro w hSw; (try dsimp only at hSw); go_simp <;> rfl
      simp only [Act.put, List.setIfInBounds_toArray, List.set_cons_zero, List.set_cons_succ]
      refine wpAnyH_take (i := 9) (v := ?t7v) (by simp only [List.getElem?_toArray, List.getElem?_cons_succ, List.getElem?_cons_zero] <;> rfl) (by kernel_rfl) (by kernel_rfl) (by kernel_rfl) (by exact fun _ _ _ h => h) (Or.inl ⟨by rfl, ?t7y⟩) hHeld ?t7r
      case t7y => intro w hSw; (try dsimp only at hSw); go_simp <;> rfl
      simp only [Act.put, List.setIfInBounds_toArray, List.set_cons_zero, List.set_cons_succ]
      refine wpAnyH_take (i := 10) (v := ?t8v) (by simp only [List.getElem?_toArray, List.getElem?_cons_succ, List.getElem?_cons_zero] <;> rfl) (by kernel_rfl) (by kernel_rfl) (by kernel_rfl) (by exact fun _ _ _ h => h) (Or.inl ⟨by rfl, ?t8y⟩) hHeld ?t8r
      case t8y => intro w hSw; (try dsimp only at hSw); go_simp <;> rfl
      simp only [Act.put, List.setIfInBounds_toArray, List.set_cons_zero, List.set_cons_succ]
      refine wpAnyH_take (i := 11) (v := ?t9v) (by simp only [List.getElem?_toArray, List.getElem?_cons_succ, List.getElem?_cons_zero] <;> rfl) (by kernel_rfl) (by kernel_rfl) (by kernel_rfl) (by exact fun _ _ _ h => h) (Or.inl ⟨by rfl, ?t9y⟩) hHeld ?t9r
      case t9y => intro w hSw; (try dsimp only at hSw); go_simp <;> rfl
      simp only [Act.put, List.setIfInBounds_toArray, List.set_cons_zero, List.set_cons_succ]
      refine wpAnyH_take (i := 12) (v := ?t10v) (by simp only [List.getElem?_toArray, List.getElem?_cons_succ, List.getElem?_cons_zero] <;> rfl) (by kernel_rfl) (by kernel_rfl) (by kernel_rfl) (by exact fun _ _ _ h => h) (Or.inl ⟨by rfl, ?t10y⟩) hHeld ?t10r
      case t10y => intro w hSw; (try dsimp only at hSw); go_simp <;> rfl
      simp only [Act.put, List.setIfInBounds_toArray, List.set_cons_zero, List.set_cons_succ]
      refine wpAnyH_take (i := 13) (v := ?t11v) (by simp only [List.getElem?_toArray, List.getElem?_cons_succ, List.getElem?_cons_zero] <;> rfl) (by kernel_rfl) (by kernel_rfl) (by kernel_rfl) (by exact fun _ _ _ h => h) (Or.inl ⟨by rfl, ?t11y⟩) hHeld ?t11r
      case t11y => intro w hSw; (try dsimp only at hSw); go_simp <;> rfl
      simp only [Act.put, List.setIfInBounds_toArray, List.set_cons_zero, List.set_cons_succ]
      refine wpAnyH_take (i := 14) (v := ?t12v) (by simp only [List.getElem?_toArray, List.getElem?_cons_succ, List.getElem?_cons_zero] <;> rfl) (by kernel_rfl) (by kernel_rfl) (by kernel_rfl) (by exact fun _ _ _ h => h) (Or.inl ⟨by rfl, ?t12y⟩) hHeld ?t12r
      case t12y => intro w hSw; (try dsimp only at hSw); go_simp <;> rfl
      simp only [Act.put, List.setIfInBounds_toArray, List.set_cons_zero, List.set_cons_succ]
      refine wpAnyH_take (i := 15) (v := ?t13v) (by simp only [List.getElem?_toArray, List.getElem?_cons_succ, List.getElem?_cons_zero] <;> rfl) (by kernel_rfl) (by kernel_rfl) (by kernel_rfl) (by exact fun _ _ _ h => h) (Or.inl ⟨by rfl, ?t13y⟩) hHeld ?t13r
      case t13y => intro w hSw; (try dsimp only at hSw); go_simp <;> rfl
      simp only [Act.put, List.setIfInBounds_toArray, List.set_cons_zero, List.set_cons_succ]
      refine wpAnyH_take (i := 16) (v := ?t14v) (by simp only [List.getElem?_toArray, List.getElem?_cons_succ, List.getElem?_cons_zero] <;> rfl) (by kernel_rfl) (by kernel_rfl) (by kernel_rfl) (by exact fun _ _ _ h => h) (Or.inl ⟨by rfl, ?t14y⟩) hHeld ?t14r
      case t14y => intro w hSw; (try dsimp only at hSw); go_simp <;> rfl
      simp only [Act.put, List.setIfInBounds_toArray, List.set_cons_zero, List.set_cons_succ]
      refine wpAnyH_take (i := 17) (v := ?t15v) (by simp only [List.getElem?_toArray, List.getElem?_cons_succ, List.getElem?_cons_zero] <;> rfl) (by kernel_rfl) (by kernel_rfl) (by kernel_rfl) (by exact fun _ _ _ h => h) (Or.inl ⟨by rfl, ?t15y⟩) hHeld ?t15r
      case t15y => intro w hSw; (try dsimp only at hSw); go_simp <;> rfl
      simp only [Act.put, List.setIfInBounds_toArray, List.set_cons_zero, List.set_cons_succ]
      refine wpAnyH_take (i := 19) (v := ?t16v) (by simp only [List.getElem?_toArray, List.getElem?_cons_succ, List.getElem?_cons_zero] <;> rfl) (by kernel_rfl) (by kernel_rfl) (by kernel_rfl) (by exact fun _ _ _ h => h) (Or.inl ⟨by rfl, ?t16y⟩) hHeld ?t16r
      case t16y => intro w hSw; (try dsimp only at hSw); go_simp <;> rfl
      simp only [Act.put, List.setIfInBounds_toArray, List.set_cons_zero, List.set_cons_succ]
      refine wpAnyH_take (i := 20) (v := ?t17v) (by simp only [List.getElem?_toArray, List.getElem?_cons_succ, List.getElem?_cons_zero] <;> rfl) (by kernel_rfl) (by kernel_rfl) (by kernel_rfl) (by exact fun _ _ _ h => h) (Or.inl ⟨by rfl, ?t17y⟩) hHeld ?t17r
      case t17y => intro w hSw; (try dsimp only at hSw); go_simp <;> rfl
      simp only [Act.put, List.setIfInBounds_toArray, List.set_cons_zero, List.set_cons_succ]
      refine wpAnyH_ready (rs := [18]) (by kernel_rfl) (by simp) ?_
      refine AllReadyH.cons (by simp only [List.getElem?_toArray, List.getElem?_cons_succ, List.getElem?_cons_zero] <;> rfl) (fun K hK => ?_) AllReadyH.nil
      go_simp
      refine (zsa _ (ku2)).mono ?_
      rintro e u3 ⟨rfl, kx⟩
      have ku3 : Keep0 w5 u3 := (ku2).trans kx
      clear kx
      go_wp2_with fail
      refine hK.out _ _ ⟨ku3.cell a0 (fun f => f), ku3.cell a1 (fun f => f), ku3.cell b0 (fun f => f), ku3.cell b1 (fun f => f)⟩ (fun hHeld => ?_)
      clear hK K
      refine wpAnyH_ready (rs := [21]) (by kernel_rfl) (by simp) ?_
      refine AllReadyH.cons (by simp only [List.getElem?_toArray, List.getElem?_cons_succ, List.getElem?_cons_zero] <;> rfl) (fun K hK => ?_) AllReadyH.nil
      go_simp
      refine (zrs _ (ku3)).mono ?_
      rintro e u4 ⟨rfl, kx⟩
      have ku4 : Keep0 w5 u4 := (ku3).trans kx
      clear kx
      go_wp2_with fail
      refine hK.out _ _ ⟨ku4.cell a0 (fun f => f), ku4.cell a1 (fun f => f), ku4.cell b0 (fun f => f), ku4.cell b1 (fun f => f)⟩ (fun hHeld => ?_)
      clear hK K
      refine wpAnyH_take (i := 22) (v := ?t18v) (by simp only [List.getElem?_toArray, List.getElem?_cons_succ, List.getElem?_cons_zero] <;> rfl) (by kernel_rfl) (by kernel_rfl) (by kernel_rfl) (by exact fun _ _ _ h => h) (Or.inl ⟨by rfl, ?t18y⟩) hHeld ?t18r
      case t18y => intro w hSw; (try dsimp only at hSw); go_simp <;> rfl
      simp only [Act.put, List.setIfInBounds_toArray, List.set_cons_zero, List.set_cons_succ]
      refine wpAnyH_take (i := 23) (v := ?t19v) (by simp only [List.getElem?_toArray, List.getElem?_cons_succ, List.getElem?_cons_zero] <;> rfl) (by kernel_rfl) (by kernel_rfl) (by kernel_rfl) (by exact fun _ _ _ h => h) (Or.inl ⟨by rfl, ?t19y⟩) hHeld ?t19r
      case t19y => intro w hSw; (try dsimp only at hSw); go_simp <;> rfl
      simp only [Act.put, List.setIfInBounds_toArray, List.set_cons_zero, List.set_cons_succ]
      refine wpAnyH_done (by kernel_rfl) ?_ _
      clear hHeld zch zrc zsa zrs ych yrc ysa yrs
      replace a0 := ku4.cell a0 (fun f => f)
      replace a1 := ku4.cell a1 (fun f => f)
      have K6 := K5.trans ku4
      have HXD : Hid (DAt u4 gA (.string x.key) (.slice ao x.l.length cap)) := HXD.out.keep0 ku4
      have HZ6 : Hid (gA + 2 ≤ u4.heap.size) := by show _ ≤ _; have := ku4.size; have := HZ5.out; omega
      clear b0 b1 ku1 ku2 ku3 ku4 K5 HZ5
      generalize u4 = w6 at *
      have ycp := ycp w6 (HA.out.keep0 K6)
      go_wp2_with fail
      refine ycp.mono ?_
      rintro e w7 ⟨uo, uc, L, rfl, hL, oC, k7⟩
      have eL : L.length = x.l.length := by rw [← hL, List.length_map]
      rw [eL]
      have kK : Keep0 w7 (w7.alloc (.cells #[.string x.key, .slice uo x.l.length uc] 24)) := (Keep.refl _ _).alloc _
      have hK := DAt.new w7 24 (.string x.key) (.slice uo x.l.length uc)
      have kk := k7.trans kK
      replace a0 := kk.cell a0 (fun f => f)
      replace a1 := kk.cell a1 (fun f => f)
      have HXD : Hid (DAt (w7.alloc (.cells #[.string x.key, .slice uo x.l.length uc] 24)) gA (.string x.key) (.slice ao x.l.length cap)) := HXD.out.keep0 kk
      have K8 := K6.trans kk
      have hPl := oC.pls.keep0 kK
      have hSl : SibsAt (w7.alloc (.cells #[.string x.key, .slice uo x.l.length uc] 24)) uo x.l := by
        have h := hPl.sibs
        rw [hL] at h
        exact h
      have ysk := ysk (w7.alloc (.cells #[.string x.key, .slice uo x.l.length uc] 24)) uo uc hSl (HA.out.keep0 K8)
      have z67 := k7.size
      have HSR : Hid (SRow (w7.alloc (.cells #[.string x.key, .slice uo x.l.length uc] 24)) gA w7.heap.size uo L (fun q => 0 * 7 ≤ q)) := fun hl => by
        obtain ⟨g, off, e, hb, hr⟩ := rowP_of_own oC.row hl
        exact ⟨g, off, e, by have := HZ6.out; omega, hr.lt, (hr.keep kK (fun f => f)).weak (fun _ _ => trivial)⟩
      have HMR : Hid (∀ p (hp : p < L.length), 0 ≤ p → MRow (w7.alloc (.cells #[.string x.key, .slice uo x.l.length uc] 24)) gA w7.heap.size L[p] (fun _ => True)) := fun p hp _ hl => by
        obtain ⟨g, off, e, hb, hr⟩ := rowP_of_own (oC.prs _ (List.getElem_mem hp)) hl
        exact ⟨g, off, e, by have := HZ6.out; omega, hr.lt, hr.keep kK (fun f => f)⟩
      have HOff := oC.off
      have HOff : Hid (∀ i j (_ : i < L.length) (_ : j < L.length), i ≠ j → 0 < L[i].x.m.length → 0 < L[j].x.m.length → ∀ g o m g' o' m', L[i].po = some ⟨g, o, m⟩ → L[j].po = some ⟨g', o', m'⟩ → g ≠ g') := HOff
      have HZ7 : Hid (gA + 2 ≤ w7.heap.size) := by show _ ≤ _; have := HZ6.out; omega
      have HeL : Hid (L.length = x.l.length) := eL
      have HLs : Hid (∀ i (_ : i < L.length), L[i].x.v.size ≤ 200 ∧ L[i].x.m.length ≤ 20 ∧ ∀ p ∈ L[i].x.m, p.v.size ≤ 100) := fun i hi => HMs.out _ (by rw [← hL]; exact List.mem_map.2 ⟨_, List.getElem_mem hi, rfl⟩)
      obtain ⟨d0, d1, df0, df1⟩ := hK.cells
      clear k7 kK kk oC hPl hSl ycp K6 HZ6 z67 eL hL
      go_wp2_with fail
      generalize (w7.alloc (.cells #[.string x.key, .slice uo x.l.length uc] 24)) = w8 at *
      obtain ⟨gK, hgK⟩ : ∃ gK, w7.heap.size = gK := ⟨_, rfl⟩
      rw [hgK] at d0 d1 HSR HMR HZ7 hK ⊢
      clear hgK
      refine ysk.mono ?_
      rintro e w9 ⟨rfl, k9⟩
      have HK9 : Hid (Keep0 w w9) := K8.trans k9
      have HX9 : Hid (DAt w9 gA (.string x.key) (.slice ao x.l.length cap)) := HXD.out.keep0 k9
      have HD9 : Hid (DAt w9 gK (.string x.key) (.slice uo x.l.length uc)) := hK.keep0 k9
      have HS9 : Hid (SRow w9 gA gK uo L (fun q => 0 * 7 ≤ q)) := HSR.out.keep0 k9
      have HM9 : Hid (∀ p (hp : p < L.length), 0 ≤ p → MRow w9 gA gK L[p] (fun _ => True)) := fun p hp h => (HMR.out p hp h).keep0 k9
      clear a0 a1 d0 d1 df0 df1 K8 k9 ysk HSR HMR HXD hK
      go_wp2_with fail
      go_loopw [10] (fun i wr => ∃ (j : Nat), i = .int .i64 (j : Int) ∧ j ≤ x.l.length ∧ Hid (DAt wr gA (.string x.key) (.slice ao x.l.length cap)) ∧ Hid (DAt wr gK (.string x.key) (.slice uo x.l.length uc)) ∧ Hid (SRow wr gA gK uo L (fun q => j * 7 ≤ q)) ∧ Hid (∀ p (hp : p < L.length), j ≤ p → MRow wr gA gK L[p] (fun _ => True)) ∧ Hid (Keep0 w wr)) (fun i _ => x.l.length - (intOf i).toNat)
      case atStart => exact ⟨0, rfl, Nat.zero_le _, HX9, HD9, HS9, HM9, HK9⟩
      case round =>
        obtain ⟨i, rfl, hi, HX1, HD1, HS1, HM1, HK1⟩ := hrel
        clear HX9 HD9 HS9 HM9 HK9
        obtain ⟨d0, d1, df0, df1⟩ := HD1.out.cells
        by_cases hlt : i < x.l.length
        · have j1 : (i : Int) < x.l.length := by omega
          have hiL : i < L.length := by rw [HeL.out]; exact hlt
          obtain ⟨wo, ewo⟩ : ∃ z : World, z = wr := ⟨wr, rfl⟩
          subst ewo
          obtain ⟨g, off, e0, hg1, hg2, hr⟩ := HS1.out (by omega)
          have hgt : ∀ jj u, (L[i].cells)[jj]? = some u → jj < 7 → (rowOf Pl.cells L)[i * 7 + jj]? = some u := fun jj u h hj => (rowOf_get plT.len L i hiL jj hj).trans h
          obtain ⟨c6, cf6⟩ := hr.cell (q := i * 7 + 6) (by omega) (hgt 6 _ rfl (by decide))
          rw [← Nat.add_assoc] at c6 cf6
          obtain ⟨hv, hm20, hpv⟩ := HLs.out i hiL
          have hcat : ¬ 9223372036854775807 < L[i].x.v.size + 1 := by omega
          have kS : ∀ u, Keep1 g wo (wo.setCell ⟨g, off + i * 7 + 6, none⟩ u) := fun u => set_keep1 wo g (off + i * 7 + 6) u
          have HX2 : Hid (∀ u, DAt (wo.setCell ⟨g, off + i * 7 + 6, none⟩ u) gA (.string x.key) (.slice ao x.l.length cap)) := fun u => HX1.out.keep (kS u) (by omega)
          have HD2 : Hid (∀ u, DAt (wo.setCell ⟨g, off + i * 7 + 6, none⟩ u) gK (.string x.key) (.slice uo x.l.length uc)) := fun u => HD1.out.keep (kS u) (by omega)
          have HS2 : Hid (∀ u, SRow (wo.setCell ⟨g, off + i * 7 + 6, none⟩ u) gA gK uo L (fun q => (i + 1) * 7 ≤ q ∨ (i * 7 ≤ q ∧ q < i * 7 + 6))) := fun u _ => by
            have := hr.set (i * 7 + 6) u (P' := fun q => (i + 1) * 7 ≤ q ∨ (i * 7 ≤ q ∧ q < i * 7 + 6)) (fun q hq => by omega)
            rw [← Nat.add_assoc] at this
            exact ⟨g, off, e0, hg1, hg2, this⟩
          have HM2 : Hid (∀ u p (hp : p < L.length), i ≤ p → MRow (wo.setCell ⟨g, off + i * 7 + 6, none⟩ u) gA gK L[p] (fun _ => True)) := fun u p hp h => (HM1.out p hp h).set hr _ u
          have HM3 : Hid (∀ u, MRow (wo.setCell ⟨g, off + i * 7 + 6, none⟩ u) gA gK L[i] (fun q => 0 * 2 ≤ q)) := fun u hl => by
            obtain ⟨g', off', e, h1, h2, h3⟩ := HM2.out u i hiL (Nat.le_refl _) hl
            exact ⟨g', off', e, h1, h2, h3.weak (fun _ _ => trivial)⟩
          have HK2 : Hid (∀ u, Keep0 w (wo.setCell ⟨g, off + i * 7 + 6, none⟩ u)) := fun u => HK1.out.step (kS u) (fun i hi hh => by have := HG.out; omega)
          have HUo : Hid (uo = some ⟨g, off, none⟩) := e0
          have Hgg : Hid (gA + 2 ≤ g ∧ g < gK) := ⟨hg1, hg2⟩
          subst e0
          clear HX1 HD1 HS1 HM1 HK1 hr kS hg1 hg2
          have HiL : Hid (i < L.length) := hiL
          have Hgt : Hid (∀ jj u, (L[i].cells)[jj]? = some u → jj < 7 → (rowOf Pl.cells L)[i * 7 + jj]? = some u) := hgt
          have HOi : Hid (∀ p (_ : p < L.length), i ≠ p → 0 < L[i].x.m.length → 0 < L[p].x.m.length → ∀ g o m g' o' m', L[i].po = some ⟨g, o, m⟩ → L[p].po = some ⟨g', o', m'⟩ → g ≠ g') := fun p hp => HOff.out i p hiL hp
          clear hgt
          generalize hQ : L[i] = Q at *
          clear hQ
          have hql : (Q.x.m.length : Int) ≤ 9223372036854775807 := by omega
          go_wp2_with fail
          clear d0 d1 df0 df1 c6 cf6 hcat
          go_loopw [11] (fun v wr => ∃ (j : Nat), v = .int .i64 (j : Int) ∧ j ≤ Q.x.m.length ∧ Hid (DAt wr gA (.string x.key) (.slice ao x.l.length cap)) ∧ Hid (DAt wr gK (.string x.key) (.slice (some ⟨g, off, none⟩) x.l.length uc)) ∧ Hid (SRow wr gA gK (some ⟨g, off, none⟩) L (fun q => (i + 1) * 7 ≤ q ∨ (i * 7 ≤ q ∧ q < i * 7 + 6))) ∧ Hid (MRow wr gA gK Q (fun q => j * 2 ≤ q)) ∧ Hid (∀ p (hp : p < L.length), i + 1 ≤ p → MRow wr gA gK L[p] (fun _ => True)) ∧ Hid (Keep0 w wr)) (fun v _ => Q.x.m.length - (intOf v).toNat)
          case atStart => exact ⟨0, rfl, Nat.zero_le _, HX2.out _, HD2.out _, HS2.out _, HM3.out _, fun p hp h => HM2.out _ p hp (by omega), HK2.out _⟩
          case round =>
            obtain ⟨j, rfl, hj, HX3, HD3, HS3, HMq, HM4, HK3⟩ := hrel
            clear HX2 HD2 HS2 HM2 HM3 HK2
            obtain ⟨d0, d1, df0, df1⟩ := HD3.out.cells
            obtain ⟨g_, off_, e_, _, _, hr⟩ := HS3.out (by have := HiL.out; omega)
            cases e_
            obtain ⟨c4, cf4⟩ := hr.cell (q := i * 7 + 4) (by omega) (Hgt.out 4 _ rfl (by decide))
            rw [← Nat.add_assoc] at c4 cf4
            by_cases hlj : j < Q.x.m.length
            · have j2 : (j : Int) < Q.x.m.length := by omega
              obtain ⟨gm, om, em, hm1, hm2, hrm⟩ := HMq.out (by omega)
              obtain ⟨cc, cf⟩ := hrm.cell (q := j * 2 + 1) (by omega) (prCells_get Q.x.m j hlj 1 (by decide))
              rw [← Nat.add_assoc] at cc cf
              have hsz := hpv Q.x.m[j] (List.getElem_mem hlj)
              have hcat : ¬ 9223372036854775807 < Q.x.m[j].v.size + 1 := by omega
              have kS : ∀ u, Keep1 gm wr (wr.setCell ⟨gm, om + j * 2 + 1, none⟩ u) := fun u => set_keep1 wr gm (om + j * 2 + 1) u
              have HX5 : Hid (∀ u, DAt (wr.setCell ⟨gm, om + j * 2 + 1, none⟩ u) gA (.string x.key) (.slice ao x.l.length cap)) := fun u => HX3.out.keep (kS u) (by omega)
              have HD5 : Hid (∀ u, DAt (wr.setCell ⟨gm, om + j * 2 + 1, none⟩ u) gK (.string x.key) (.slice (some ⟨g, off, none⟩) x.l.length uc)) := fun u => HD3.out.keep (kS u) (by omega)
              have HS5 : Hid (∀ u, SRow (wr.setCell ⟨gm, om + j * 2 + 1, none⟩ u) gA gK (some ⟨g, off, none⟩) L (fun q => (i + 1) * 7 ≤ q ∨ (i * 7 ≤ q ∧ q < i * 7 + 6))) := fun u => HS3.out.setP hrm _ u
              have HMq5 : Hid (∀ u, MRow (wr.setCell ⟨gm, om + j * 2 + 1, none⟩ u) gA gK Q (fun q => (j + 1) * 2 ≤ q)) := fun u _ => by
                have := hrm.set (j * 2 + 1) u (P' := fun q => (j + 1) * 2 ≤ q) (fun q hq => by omega)
                rw [← Nat.add_assoc] at this
                exact ⟨gm, om, em, hm1, hm2, this⟩
              have HM5 : Hid (∀ u p (hp : p < L.length), i + 1 ≤ p → MRow (wr.setCell ⟨gm, om + j * 2 + 1, none⟩ u) gA gK L[p] (fun _ => True)) := fun u p hp h => (HM4.out p hp h).setP (fun hl g' o m e => by
                have := HOi.out p hp (by omega) (by omega) hl gm om none g' o m em e
                exact fun e2 => this e2.symm) _ u
              have HK5 : Hid (∀ u, Keep0 w (wr.setCell ⟨gm, om + j * 2 + 1, none⟩ u)) := fun u => HK3.out.step (kS u) (fun i hi hh => by have := HG.out; omega)
              rw [em] at c4
              have Hem : Hid (Q.po = some ⟨gm, om, none⟩) := em
              clear HX3 HD3 HS3 HMq HM4 HK3 hr hrm kS df0 df1 cf4 em hm1 hm2
              generalize Q.x.m[j].v = MV at *
              go_wp2
              go_roundw
              case rel => exact ⟨j + 1, by go_num, by omega, HX5.out _, HD5.out _, HS5.out _, HMq5.out _, HM5.out _, HK5.out _⟩
              case measure => simp [intOf]; omega
            · have j2 : ¬ (j : Int) < Q.x.m.length := by omega
              have HS6 : Hid (SRow wr gA gK (some ⟨g, off, none⟩) L (fun q => (i + 1) * 7 ≤ q)) := fun hl => by
                obtain ⟨g', off', e, h1, h2, h3⟩ := HS3.out hl
                exact ⟨g', off', e, h1, h2, h3.weak (fun q hq => .inl hq)⟩
              clear HS3 HMq hr df0 df1 cf4
              go_wp2
              go_roundw
              case rel => exact ⟨i + 1, by go_num, by omega, HX3, HD3, HS6, HM4, HK3⟩
              case measure => simp [intOf]; omega
        · have j1 : ¬ (i : Int) < x.l.length := by omega
          clear HS1 HM1 HD1 df0 df1
          by_cases h0 : E = 0
          case neg =>
            have e0 : (E != 0) = true := by simpa using h0
            go_wp2
            go_ret
            exact ⟨rfl, HK1.out⟩
          subst h0
          have hdec := HD.out rfl
          obtain ⟨a0, a1, af0, af1⟩ := HX1.out.cells
          have yre := yre wr (HA.out.keep0 HK1.out)
          have yd := fun W => V.decode W S HSz.out
          rw [hdec] at yd
          clear hdec HD af0 af1
          go_wp2_with fail
          refine yre.mono ?_
          rintro e wA ⟨rfl, kA⟩
          have KA := HK1.out.trans kA
          replace a0 := kA.cell a0 (fun f => f)
          replace a1 := kA.cell a1 (fun f => f)
          clear yre kA HK1 d0 d1
          go_wp2_with fail
          refine (yd wA).mono ?_
          rintro e wC ⟨so, sc, L2, rfl, hL2, hC, -, kC⟩
          have hL2 : L2.map Pl.x = x.l := hL2
          have hCs : SibsAt wC so x.l := by rw [← hL2]; exact hC.at_.sibs
          have kD : Keep0 wC (wC.alloc (.cells #[.string x.key, .slice so x.l.length sc] 24)) := (Keep.refl _ _).alloc _
          have hV := DAt.new wC 24 (.string x.key) (.slice so x.l.length sc)
          have KD := (KA.trans kC).trans kD
          have hCD := hCs.keep0 kD
          replace a0 := (kC.trans kD).cell a0 (fun f => f)
          replace a1 := (kC.trans kD).cell a1 (fun f => f)
          obtain ⟨d0, d1, df0, df1⟩ := hV.cells
          have ysm := ysm _ so sc hCD (HA.out.keep0 KD)
          clear yd kC kD hC hCs KA hCD hV
          go_wp2_with fail
          generalize (wC.alloc (.cells #[.string x.key, .slice so x.l.length sc] 24)) = wD at *
          generalize wC.heap.size = gD at *
          refine ysm.mono ?_
          rintro e wE ⟨rfl, kE⟩
          have KE := KD.trans kE
          clear ysm kE KD
          go_wp2
          go_ret
          exact ⟨by simp, KE⟩
end Go.Proofs.YteonkfedgopdiaaGreat
