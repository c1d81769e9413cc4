/-
  What this seat's claims lean on of the texts Encodes15.
  Conditions: as each theorem states.
-/
import Derived.WalkKit
import Derived.ProofKit
import Derived.Below
import Derived.Deep.Draws
import Derived.Deep.RegionHeld
import Derived.Test.YtfpahdnhnhkcdaaChecked
import Derived.OpenShut
import Derived.ShutString
import Derived.WalkSpells
import Derived.WalkLawsBesides
import Derived.Deep.QuietTactic
import Derived.BigQuiet
import Derived.Laws.Bits64b
import Derived.PlainAid
import Derived.Lib.AppendStr
import Derived.Deep.AppendLies
import Derived.Laws.IdiomStrings
import Derived.Laws.BytesArg
import Derived.Deep.RegionWith
import Derived.Laws.AppendOwn
import Derived.Deep.DeepAppendWide
import Derived.Deep.Upon
import Derived.Laws.Rows
import Derived.Deep.Slices
import Derived.Test.YtfpahdnhnhkcdaaZ27
import Derived.Test.YtfpahdnhnhkcdaaZ1
namespace Go.Proofs.Ytfpahdnhnhkcdaa
open Go.RowKit
structure RowFrom (w : World) (g off : Nat) (T : TypeId) (j : Nat) (cells : List Value) : Prop where
  blk : ∃ cur, w.heap[g]? = some (.cells cur T) ∧ ∀ q u, j ≤ q → cells[q]? = some u → cur[off + q]? = some u
section
variable {w : World} {g off : Nat} {T : TypeId} {j : Nat} {cells : List Value}
theorem RowFrom.lt (h : RowFrom w g off T j cells) : g < w.heap.size := by
  obtain ⟨cur, hk, _⟩ := h.blk
  exact (Array.getElem?_eq_some_iff.mp hk).1
theorem RowFrom.cell (h : RowFrom w g off T j cells) {q : Nat} {u : Value} (hq : j ≤ q) (hu : cells[q]? = some u) : w.cell? ⟨g, off + q, none⟩ = some u ∧ w.frozen? ⟨g, off + q, none⟩ = false := by
  obtain ⟨cur, hk, hc⟩ := h.blk
  have := hc q u hq hu
  simp [World.cell?, World.frozen?, hk, this]
theorem RowFrom.weak (h : RowFrom w g off T j cells) {j' : Nat} (hj : j ≤ j') : RowFrom w g off T j' cells := by
  obtain ⟨cur, hk, hc⟩ := h.blk
  exact ⟨cur, hk, fun q u hq hu => hc q u (by omega) hu⟩
theorem RowFrom.keep {R : Nat → Prop} {w' : World} (h : RowFrom w g off T j cells) (K : Keep R w w') (hn : ¬ R g) : RowFrom w' g off T j cells := by
  obtain ⟨cur, hk, hc⟩ := h.blk
  exact ⟨cur, by rw [K.block g h.lt hn]; exact hk, hc⟩
theorem RowFrom.set (h : RowFrom w g off T j cells) (q : Nat) (hq : j ≤ q) (v : Value) : RowFrom (w.setCell ⟨g, off + q, none⟩ v) g off T (q + 1) cells := by
  obtain ⟨cur, hk, hc⟩ := h.blk
  refine ⟨_, heap_setCell_at hk v, fun i u hi hu => ?_⟩
  have := hc i u (by omega) hu
  rw [Array.getElem?_setIfInBounds_ne (by omega)]
  exact this
theorem RowFrom.apart {g' off' : Nat} {T' : TypeId} {j' : Nat} {cells' : List Value} (h : RowFrom w g off T j cells) (h' : RowFrom w g' off' T' j' cells') (ht : T ≠ T') : g ≠ g' := by
  intro e
  subst e
  obtain ⟨c1, h1, _⟩ := h.blk
  obtain ⟨c2, h2, _⟩ := h'.blk
  rw [h1] at h2
  cases h2
  exact ht rfl
theorem row_from {B n cap : Nat} {ao : Option Addr} (h : w.ownsRow B T 2 (.slice ao n cap) n cells) (hn : 0 < n) : ∃ g off, ao = some ⟨g, off, none⟩ ∧ B ≤ g ∧ RowFrom w g off T 0 cells := by
  rcases h.2 with ⟨_, e⟩ | ⟨g, c, cur, e, hb, hg, _, _, _, ht⟩
  · omega
  · cases e
    refine ⟨g, 0, rfl, hb, ⟨cur, hg, fun q u _ hu => ?_⟩⟩
    rw [← ht] at hu
    rw [Nat.zero_add]
    rw [List.getElem?_take] at hu
    split at hu
    · rw [← Array.getElem?_toList]; exact hu
    · cases hu
end
set_option maxRecDepth 100000 in
set_option maxHeartbeats 8000000 in
theorem siblingEncodes_law (V : SibCode) (w : World) (vo : Option Addr) (vc : Nat) (po : Option Addr) (pc : Nat) (x : Sb) (fx : FitsS x) (hA : SibIn w vo po pc x) (vo' : Option Addr) (vc' : Nat) (po' : Option Addr) (pc' : Nat) (y : Sb) (fy : FitsS y) (hB : SibIn w vo' po' pc' y) :
    Calls Try.prog 3 #[.agg #[.slice vo x.k.c.length vc, .bool x.k.d, .string x.k.x.a, .int .u64 (x.k.x.n : Int), .slice po x.m.length pc, .bool x.d, .string x.v], .agg #[.slice vo' y.k.c.length vc', .bool y.k.d, .string y.k.x.a, .int .u64 (y.k.x.n : Int), .slice po' y.m.length pc', .bool y.d, .string y.v]] w fun e w' => e = .returned (.bool true) ∧ Keep0 w w' := by
  have yga := fun W (h : SibIn W vo po pc x) => rgreat15 W vo vc po pc x fx h
  have ygb := fun W (h : SibIn W vo' po' pc' y) => rgreat15 W vo' vc' po' pc' y fy h
  have kB : Keep0 w ((w.alloc (.cells #[.slice vo x.k.c.length vc, .bool x.k.d, .string x.k.x.a, .int .u64 (x.k.x.n : Int), .slice po x.m.length pc, .bool x.d, .string x.v] 30)).alloc (.cells #[.slice vo' y.k.c.length vc', .bool y.k.d, .string y.k.x.a, .int .u64 (y.k.x.n : Int), .slice po' y.m.length pc', .bool y.d, .string y.v] 30)) := ((Keep.refl _ w).alloc _).alloc _
  have k0 : Keep0 (w.alloc (.cells #[.slice vo x.k.c.length vc, .bool x.k.d, .string x.k.x.a, .int .u64 (x.k.x.n : Int), .slice po x.m.length pc, .bool x.d, .string x.v] 30)) ((w.alloc (.cells #[.slice vo x.k.c.length vc, .bool x.k.d, .string x.k.x.a, .int .u64 (x.k.x.n : Int), .slice po x.m.length pc, .bool x.d, .string x.v] 30)).alloc (.cells #[.slice vo' y.k.c.length vc', .bool y.k.d, .string y.k.x.a, .int .u64 (y.k.x.n : Int), .slice po' y.m.length pc', .bool y.d, .string y.v] 30)) := (Keep.refl _ _).alloc _
  have hX : SibAt ((w.alloc (.cells #[.slice vo x.k.c.length vc, .bool x.k.d, .string x.k.x.a, .int .u64 (x.k.x.n : Int), .slice po x.m.length pc, .bool x.d, .string x.v] 30)).alloc (.cells #[.slice vo' y.k.c.length vc', .bool y.k.d, .string y.k.x.a, .int .u64 (y.k.x.n : Int), .slice po' y.m.length pc', .bool y.d, .string y.v] 30)) w.heap.size 0 x vo vc po pc := (sib_new w 30 x vo vc po pc).keep0 k0
  have hZ : SibAt ((w.alloc (.cells #[.slice vo x.k.c.length vc, .bool x.k.d, .string x.k.x.a, .int .u64 (x.k.x.n : Int), .slice po x.m.length pc, .bool x.d, .string x.v] 30)).alloc (.cells #[.slice vo' y.k.c.length vc', .bool y.k.d, .string y.k.x.a, .int .u64 (y.k.x.n : Int), .slice po' y.m.length pc', .bool y.d, .string y.v] 30)) (w.heap.size + 1) 0 y vo' vc' po' pc' := by
    have := sib_new (w.alloc (.cells #[.slice vo x.k.c.length vc, .bool x.k.d, .string x.k.x.a, .int .u64 (x.k.x.n : Int), .slice po x.m.length pc, .bool x.d, .string x.v] 30)) 30 y vo' vc' po' pc'
    rw [World.size_alloc] at this
    exact this
  have zB : ((w.alloc (.cells #[.slice vo x.k.c.length vc, .bool x.k.d, .string x.k.x.a, .int .u64 (x.k.x.n : Int), .slice po x.m.length pc, .bool x.d, .string x.v] 30)).alloc (.cells #[.slice vo' y.k.c.length vc', .bool y.k.d, .string y.k.x.a, .int .u64 (y.k.x.n : Int), .slice po' y.m.length pc', .bool y.d, .string y.v] 30)).heap.size = w.heap.size + 2 := by rw [World.size_alloc, World.size_alloc]
  have yw := awake15 V ((w.alloc (.cells #[.slice vo x.k.c.length vc, .bool x.k.d, .string x.k.x.a, .int .u64 (x.k.x.n : Int), .slice po x.m.length pc, .bool x.d, .string x.v] 30)).alloc (.cells #[.slice vo' y.k.c.length vc', .bool y.k.d, .string y.k.x.a, .int .u64 (y.k.x.n : Int), .slice po' y.m.length pc', .bool y.d, .string y.v] 30))
  have HA : Hid (SibIn w vo po pc x) := hA
  have HB : Hid (SibIn w vo' po' pc' y) := hB
  clear hA hB k0
  cases hga : sGreat x with
  | true =>
    rw [hga] at yga
    go_enter Try.func3, Try.ntmps3
    go_wp2_with fail
    generalize ((w.alloc (.cells #[.slice vo x.k.c.length vc, .bool x.k.d, .string x.k.x.a, .int .u64 (x.k.x.n : Int), .slice po x.m.length pc, .bool x.d, .string x.v] 30)).alloc (.cells #[.slice vo' y.k.c.length vc', .bool y.k.d, .string y.k.x.a, .int .u64 (y.k.x.n : Int), .slice po' y.m.length pc', .bool y.d, .string y.v] 30)) = WB at *
    obtain ⟨gA, hgA⟩ : ∃ gA, w.heap.size = gA := ⟨_, rfl⟩
    rw [hgA] at hX hZ zB ⊢
    have HG : Hid (w.heap.size = gA) := hgA
    refine yw.mono ?_
    rintro e w1 ⟨rfl, k1⟩
    have K1 := kB.trans k1
    have HZ1 : Hid (gA + 2 ≤ w1.heap.size) := by show _ ≤ _; have := k1.size; omega
    obtain ⟨a0, a1, a2, a3, a4, a5, a6⟩ := hX.keep0 k1
    obtain ⟨b0, b1, b2, b3, b4, b5, b6⟩ := hZ.keep0 k1
    clear yw kB k1 hX hZ zB hgA
    go_wp2_with fail
    refine (yga w1 (HA.out.keep0 K1)).mono ?_
    rintro e w2 ⟨rfl, k⟩
    replace a0 := k.cell a0 (fun f => f)
    replace a1 := k.cell a1 (fun f => f)
    replace a2 := k.cell a2 (fun f => f)
    replace a3 := k.cell a3 (fun f => f)
    replace a4 := k.cell a4 (fun f => f)
    replace a5 := k.cell a5 (fun f => f)
    replace a6 := k.cell a6 (fun f => f)
    replace b0 := k.cell b0 (fun f => f)
    replace b1 := k.cell b1 (fun f => f)
    replace b2 := k.cell b2 (fun f => f)
    replace b3 := k.cell b3 (fun f => f)
    replace b4 := k.cell b4 (fun f => f)
    replace b5 := k.cell b5 (fun f => f)
    replace b6 := k.cell b6 (fun f => f)
    have K2 := K1.trans k
    have HZ2 : Hid (gA + 2 ≤ w2.heap.size) := by show _ ≤ _; have := k.size; have := HZ1.out; omega
    clear k K1 HZ1
    go_wp2
    go_ret
    exact ⟨rfl, K2⟩
  | false =>
    rw [hga] at yga
    cases hgb : sGreat y with
    | true =>
      rw [hgb] at ygb
      go_enter Try.func3, Try.ntmps3
      go_wp2_with fail
      generalize ((w.alloc (.cells #[.slice vo x.k.c.length vc, .bool x.k.d, .string x.k.x.a, .int .u64 (x.k.x.n : Int), .slice po x.m.length pc, .bool x.d, .string x.v] 30)).alloc (.cells #[.slice vo' y.k.c.length vc', .bool y.k.d, .string y.k.x.a, .int .u64 (y.k.x.n : Int), .slice po' y.m.length pc', .bool y.d, .string y.v] 30)) = WB at *
      obtain ⟨gA, hgA⟩ : ∃ gA, w.heap.size = gA := ⟨_, rfl⟩
      rw [hgA] at hX hZ zB ⊢
      have HG : Hid (w.heap.size = gA) := hgA
      refine yw.mono ?_
      rintro e w1 ⟨rfl, k1⟩
      have K1 := kB.trans k1
      have HZ1 : Hid (gA + 2 ≤ w1.heap.size) := by show _ ≤ _; have := k1.size; omega
      obtain ⟨a0, a1, a2, a3, a4, a5, a6⟩ := hX.keep0 k1
      obtain ⟨b0, b1, b2, b3, b4, b5, b6⟩ := hZ.keep0 k1
      clear yw kB k1 hX hZ zB hgA
      go_wp2_with fail
      refine (yga w1 (HA.out.keep0 K1)).mono ?_
      rintro e w2 ⟨rfl, k⟩
      replace a0 := k.cell a0 (fun f => f)
      replace a1 := k.cell a1 (fun f => f)
      replace a2 := k.cell a2 (fun f => f)
      replace a3 := k.cell a3 (fun f => f)
      replace a4 := k.cell a4 (fun f => f)
      replace a5 := k.cell a5 (fun f => f)
      replace a6 := k.cell a6 (fun f => f)
      replace b0 := k.cell b0 (fun f => f)
      replace b1 := k.cell b1 (fun f => f)
      replace b2 := k.cell b2 (fun f => f)
      replace b3 := k.cell b3 (fun f => f)
      replace b4 := k.cell b4 (fun f => f)
      replace b5 := k.cell b5 (fun f => f)
      replace b6 := k.cell b6 (fun f => f)
      have K2 := K1.trans k
      have HZ2 : Hid (gA + 2 ≤ w2.heap.size) := by show _ ≤ _; have := k.size; have := HZ1.out; omega
      clear k K1 HZ1
      go_wp2_with fail
      refine (ygb w2 (HB.out.keep0 K2)).mono ?_
      rintro e w3 ⟨rfl, k⟩
      replace a0 := k.cell a0 (fun f => f)
      replace a1 := k.cell a1 (fun f => f)
      replace a2 := k.cell a2 (fun f => f)
      replace a3 := k.cell a3 (fun f => f)
      replace a4 := k.cell a4 (fun f => f)
      replace a5 := k.cell a5 (fun f => f)
      replace a6 := k.cell a6 (fun f => f)
      replace b0 := k.cell b0 (fun f => f)
      replace b1 := k.cell b1 (fun f => f)
      replace b2 := k.cell b2 (fun f => f)
      replace b3 := k.cell b3 (fun f => f)
      replace b4 := k.cell b4 (fun f => f)
      replace b5 := k.cell b5 (fun f => f)
      replace b6 := k.cell b6 (fun f => f)
      have K3 := K2.trans k
      have HZ3 : Hid (gA + 2 ≤ w3.heap.size) := by show _ ≤ _; have := k.size; have := HZ2.out; omega
      clear k K2 HZ2
      go_wp2
      go_ret
      exact ⟨rfl, K3⟩
    | false =>
      rw [hgb] at ygb
      obtain ⟨q1, q2, q3⟩ := sGreat_no hga
      obtain ⟨r1, r2, r3⟩ := sGreat_no hgb
      unfold kGreat at q1 r1
      rw [Bool.or_eq_false_iff] at q1 r1
      have ox : Ok15 x := sGreat_ok fx hga
      have oy : Ok15 y := sGreat_ok fy hgb
      have HMs : Hid (∀ p ∈ x.m, p.v.size ≤ 100) := fun p hp => ((greatq_no q2).2 p hp).2
      have HML : Hid (x.m.length ≤ 20) := (greatq_no q2).1
      have HCL : Hid (x.k.c.length ≤ 100) := (great_no q1.1).1
      have i1 : (x.m.length : Int) ≤ 9223372036854775807 := by have := HML.out; omega
      have i2 : (x.k.c.length : Int) ≤ 9223372036854775807 := by have := HCL.out; omega
      have ye := fun W (h : SibIn W vo po pc x) => V.encode W vo vc po pc x ox h
      have yre := fun W (h : SibIn W vo po pc x) => rencode15 W vo vc po pc x fx h
      have ych := fun W (h : SibIn W vo po pc x) => V.check W vo vc po pc x ox h
      have yrc := fun W (h : SibIn W vo po pc x) => rcheck15 W vo vc po pc x fx h
      have ysa := fun W (h : SibIn W vo po pc x) (h' : SibIn W vo' po' pc' y) => V.same W vo vc po pc x vo' vc' po' pc' y ox oy h h'
      have yrs := fun W (h : SibIn W vo po pc x) (h' : SibIn W vo' po' pc' y) => rsame15 W vo vc po pc x vo' vc' po' pc' y fx fy h h'
      have ycp := fun W (h : SibIn W vo po pc x) => V.copy W vo vc po pc x ox h
      have ysk := fun W uo uc ro rc (h : SibIn W uo ro rc x) (h' : SibIn W vo po pc x) => rsame15 W uo uc ro rc x vo vc po pc x fx fx h h'
      rw [sSame_iff.2 rfl] at ysk
      have ysm := ysk
      have hez := encS_zero (x := x)
      have hes := encS_size x
      have HD : Hid ((encS x).2 = 0 → decS (encS x).1 = (x, 0)) := by
        intro h
        obtain ⟨s1, s2, s3⟩ := encS_zero h
        rw [s3]
        exact sib_codec.dec_enc ((okSib_iff ox.u64.1 ox.u64.2).2 s1)
      obtain ⟨S, hS⟩ : ∃ S, (encS x).1 = S := ⟨_, rfl⟩
      obtain ⟨E, hE⟩ : ∃ E, (encS x).2 = E := ⟨_, rfl⟩
      rw [hS, hE] at ye yre HD
      rw [hS] at hes
      have HSz : Hid (S.size ≤ 1000000) := by show _ ≤ _; omega
      generalize sCheck x = C at *
      generalize sSame x y = SM at *
      clear hez hS hE hes q1 q2 q3 r1 r2 r3 hga hgb ox oy
      go_enter Try.func3, Try.ntmps3
      go_wp2_with fail
      generalize ((w.alloc (.cells #[.slice vo x.k.c.length vc, .bool x.k.d, .string x.k.x.a, .int .u64 (x.k.x.n : Int), .slice po x.m.length pc, .bool x.d, .string x.v] 30)).alloc (.cells #[.slice vo' y.k.c.length vc', .bool y.k.d, .string y.k.x.a, .int .u64 (y.k.x.n : Int), .slice po' y.m.length pc', .bool y.d, .string y.v] 30)) = WB at *
      obtain ⟨gA, hgA⟩ : ∃ gA, w.heap.size = gA := ⟨_, rfl⟩
      rw [hgA] at hX hZ zB ⊢
      have HG : Hid (w.heap.size = gA) := hgA
      refine yw.mono ?_
      rintro e w1 ⟨rfl, k1⟩
      have K1 := kB.trans k1
      have HZ1 : Hid (gA + 2 ≤ w1.heap.size) := by show _ ≤ _; have := k1.size; omega
      obtain ⟨a0, a1, a2, a3, a4, a5, a6⟩ := hX.keep0 k1
      obtain ⟨b0, b1, b2, b3, b4, b5, b6⟩ := hZ.keep0 k1
      clear yw kB k1 hX hZ zB hgA
      go_wp2_with fail
      refine (yga w1 (HA.out.keep0 K1)).mono ?_
      rintro e w2 ⟨rfl, k⟩
      replace a0 := k.cell a0 (fun f => f)
      replace a1 := k.cell a1 (fun f => f)
      replace a2 := k.cell a2 (fun f => f)
      replace a3 := k.cell a3 (fun f => f)
      replace a4 := k.cell a4 (fun f => f)
      replace a5 := k.cell a5 (fun f => f)
      replace a6 := k.cell a6 (fun f => f)
      replace b0 := k.cell b0 (fun f => f)
      replace b1 := k.cell b1 (fun f => f)
      replace b2 := k.cell b2 (fun f => f)
      replace b3 := k.cell b3 (fun f => f)
      replace b4 := k.cell b4 (fun f => f)
      replace b5 := k.cell b5 (fun f => f)
      replace b6 := k.cell b6 (fun f => f)
      have K2 := K1.trans k
      have HZ2 : Hid (gA + 2 ≤ w2.heap.size) := by show _ ≤ _; have := k.size; have := HZ1.out; omega
      clear k K1 HZ1
      go_wp2_with fail
      refine (ygb w2 (HB.out.keep0 K2)).mono ?_
      rintro e w3 ⟨rfl, k⟩
      replace a0 := k.cell a0 (fun f => f)
      replace a1 := k.cell a1 (fun f => f)
      replace a2 := k.cell a2 (fun f => f)
      replace a3 := k.cell a3 (fun f => f)
      replace a4 := k.cell a4 (fun f => f)
      replace a5 := k.cell a5 (fun f => f)
      replace a6 := k.cell a6 (fun f => f)
      replace b0 := k.cell b0 (fun f => f)
      replace b1 := k.cell b1 (fun f => f)
      replace b2 := k.cell b2 (fun f => f)
      replace b3 := k.cell b3 (fun f => f)
      replace b4 := k.cell b4 (fun f => f)
      replace b5 := k.cell b5 (fun f => f)
      replace b6 := k.cell b6 (fun f => f)
      have K3 := K2.trans k
      have HZ3 : Hid (gA + 2 ≤ w3.heap.size) := by show _ ≤ _; have := k.size; have := HZ2.out; omega
      clear k K2 HZ2
      go_wp2_with fail
      refine (ye w3 (HA.out.keep0 K3)).mono ?_
      rintro e w4 ⟨rfl, k⟩
      replace a0 := k.cell a0 (fun f => f)
      replace a1 := k.cell a1 (fun f => f)
      replace a2 := k.cell a2 (fun f => f)
      replace a3 := k.cell a3 (fun f => f)
      replace a4 := k.cell a4 (fun f => f)
      replace a5 := k.cell a5 (fun f => f)
      replace a6 := k.cell a6 (fun f => f)
      replace b0 := k.cell b0 (fun f => f)
      replace b1 := k.cell b1 (fun f => f)
      replace b2 := k.cell b2 (fun f => f)
      replace b3 := k.cell b3 (fun f => f)
      replace b4 := k.cell b4 (fun f => f)
      replace b5 := k.cell b5 (fun f => f)
      replace b6 := k.cell b6 (fun f => f)
      have K4 := K3.trans k
      have HZ4 : Hid (gA + 2 ≤ w4.heap.size) := by show _ ≤ _; have := k.size; have := HZ3.out; omega
      clear k K3 HZ3
      go_wp2_with fail
      refine (yre w4 (HA.out.keep0 K4)).mono ?_
      rintro e w5 ⟨rfl, k⟩
      replace a0 := k.cell a0 (fun f => f)
      replace a1 := k.cell a1 (fun f => f)
      replace a2 := k.cell a2 (fun f => f)
      replace a3 := k.cell a3 (fun f => f)
      replace a4 := k.cell a4 (fun f => f)
      replace a5 := k.cell a5 (fun f => f)
      replace a6 := k.cell a6 (fun f => f)
      replace b0 := k.cell b0 (fun f => f)
      replace b1 := k.cell b1 (fun f => f)
      replace b2 := k.cell b2 (fun f => f)
      replace b3 := k.cell b3 (fun f => f)
      replace b4 := k.cell b4 (fun f => f)
      replace b5 := k.cell b5 (fun f => f)
      replace b6 := k.cell b6 (fun f => f)
      have K5 := K4.trans k
      have HZ5 : Hid (gA + 2 ≤ w5.heap.size) := by show _ ≤ _; have := k.size; have := HZ4.out; omega
      clear k K4 HZ4
      go_wp2_with fail
      have zch := fun W (K : Keep0 w5 W) => ych W (HA.out.keep0 (K5.trans K))
      have zrc := fun W (K : Keep0 w5 W) => yrc W (HA.out.keep0 (K5.trans K))
      have zsa := fun W (K : Keep0 w5 W) => ysa W (HA.out.keep0 (K5.trans K)) (HB.out.keep0 (K5.trans K))
      have zrs := fun W (K : Keep0 w5 W) => yrs W (HA.out.keep0 (K5.trans K)) (HB.out.keep0 (K5.trans K))
      have a0 : w5.cell? ⟨gA, 0, none⟩ = some (.slice vo x.k.c.length vc) := a0
      have a1 : w5.cell? ⟨gA, 1, none⟩ = some (.bool x.k.d) := a1
      have a2 : w5.cell? ⟨gA, 2, none⟩ = some (.string x.k.x.a) := a2
      have a3 : w5.cell? ⟨gA, 3, none⟩ = some (.int .u64 (x.k.x.n : Int)) := a3
      have a4 : w5.cell? ⟨gA, 4, none⟩ = some (.slice po x.m.length pc) := a4
      have a5 : w5.cell? ⟨gA, 5, none⟩ = some (.bool x.d) := a5
      have a6 : w5.cell? ⟨gA, 6, none⟩ = some (.string x.v) := a6
      have b0 : w5.cell? ⟨gA + 1, 0, none⟩ = some ((.slice vo' y.k.c.length vc')) := b0
      have b1 : w5.cell? ⟨gA + 1, 1, none⟩ = some ((.bool y.k.d)) := b1
      have b2 : w5.cell? ⟨gA + 1, 2, none⟩ = some ((.string y.k.x.a)) := b2
      have b3 : w5.cell? ⟨gA + 1, 3, none⟩ = some ((.int .u64 (y.k.x.n : Int))) := b3
      have b4 : w5.cell? ⟨gA + 1, 4, none⟩ = some ((.slice po' y.m.length pc')) := b4
      have b5 : w5.cell? ⟨gA + 1, 5, none⟩ = some ((.bool y.d)) := b5
      have b6 : w5.cell? ⟨gA + 1, 6, none⟩ = some ((.string y.v)) := b6
      refine wp_region_held_drew (S := (fun W => W.cell? ⟨gA, 0, none⟩ = some (.slice vo x.k.c.length vc) ∧ W.cell? ⟨gA, 1, none⟩ = some (.bool x.k.d) ∧ W.cell? ⟨gA, 2, none⟩ = some (.string x.k.x.a) ∧ W.cell? ⟨gA, 3, none⟩ = some (.int .u64 (x.k.x.n : Int)) ∧ W.cell? ⟨gA, 4, none⟩ = some (.slice po x.m.length pc) ∧ W.cell? ⟨gA, 5, none⟩ = some (.bool x.d) ∧ W.cell? ⟨gA, 6, none⟩ = some (.string x.v) ∧ W.cell? ⟨gA + 1, 0, none⟩ = some ((.slice vo' y.k.c.length vc')) ∧ W.cell? ⟨gA + 1, 1, none⟩ = some ((.bool y.k.d)) ∧ W.cell? ⟨gA + 1, 2, none⟩ = some ((.string y.k.x.a)) ∧ W.cell? ⟨gA + 1, 3, none⟩ = some ((.int .u64 (y.k.x.n : Int))) ∧ W.cell? ⟨gA + 1, 4, none⟩ = some ((.slice po' y.m.length pc')) ∧ W.cell? ⟨gA + 1, 5, none⟩ = some ((.bool y.d)) ∧ W.cell? ⟨gA + 1, 6, none⟩ = some ((.string y.v)))) (by kernel_rfl) ⟨a0, a1, a2, a3, a4, a5, a6, b0, b1, b2, b3, b4, b5, b6⟩ (fun hHeld => ?_)
      refine wpAnyH_take (i := 0) (v := ?t0v) (by simp only [List.getElem?_toArray, List.getElem?_cons_zero] <;> rfl) (by kernel_rfl) (by kernel_rfl) (by kernel_rfl) (by exact fun _ _ _ h => h) (Or.inl ⟨by rfl, ?t0y⟩) hHeld ?t0r
      case t0y => intro w hSw; (try dsimp only at hSw); go_simp <;> rfl
      simp only [Act.put, List.setIfInBounds_toArray, List.set_cons_zero, List.set_cons_succ]
      refine wpAnyH_take (i := 2) (v := ?t1v) (by simp only [List.getElem?_toArray, List.getElem?_cons_succ, List.getElem?_cons_zero] <;> rfl) (by kernel_rfl) (by kernel_rfl) (by kernel_rfl) (by exact fun _ _ _ h => h) (Or.inl ⟨by rfl, ?t1y⟩) hHeld ?t1r
      case t1y => intro w hSw; (try dsimp only at hSw); go_simp <;> rfl
      simp only [Act.put, List.setIfInBounds_toArray, List.set_cons_zero, List.set_cons_succ]
      refine wpAnyH_ready (rs := [1]) (by kernel_rfl) (by simp) ?_
      refine AllReadyH.cons (by simp only [List.getElem?_toArray, List.getElem?_cons_succ, List.getElem?_cons_zero] <;> rfl) (fun K hK => ?_) AllReadyH.nil
      go_simp
      refine (zch _ ((Keep.refl (fun _ => False) w5).drew)).mono ?_
      rintro e u1 ⟨rfl, kx⟩
      have ku1 : Keep0 w5 u1 := ((Keep.refl (fun _ => False) w5).drew).trans kx
      clear kx
      go_wp2_with fail
      refine hK.out _ _ ⟨ku1.cell a0 (fun f => f), ku1.cell a1 (fun f => f), ku1.cell a2 (fun f => f), ku1.cell a3 (fun f => f), ku1.cell a4 (fun f => f), ku1.cell a5 (fun f => f), ku1.cell a6 (fun f => f), ku1.cell b0 (fun f => f), ku1.cell b1 (fun f => f), ku1.cell b2 (fun f => f), ku1.cell b3 (fun f => f), ku1.cell b4 (fun f => f), ku1.cell b5 (fun f => f), ku1.cell b6 (fun f => f)⟩ (fun hHeld => ?_)
      clear hK K
      refine wpAnyH_ready (rs := [3]) (by kernel_rfl) (by simp) ?_
      refine AllReadyH.cons (by simp only [List.getElem?_toArray, List.getElem?_cons_succ, List.getElem?_cons_zero] <;> rfl) (fun K hK => ?_) AllReadyH.nil
      go_simp
      refine (zrc _ (ku1)).mono ?_
      rintro e u2 ⟨rfl, kx⟩
      have ku2 : Keep0 w5 u2 := (ku1).trans kx
      clear kx
      go_wp2_with fail
      refine hK.out _ _ ⟨ku2.cell a0 (fun f => f), ku2.cell a1 (fun f => f), ku2.cell a2 (fun f => f), ku2.cell a3 (fun f => f), ku2.cell a4 (fun f => f), ku2.cell a5 (fun f => f), ku2.cell a6 (fun f => f), ku2.cell b0 (fun f => f), ku2.cell b1 (fun f => f), ku2.cell b2 (fun f => f), ku2.cell b3 (fun f => f), ku2.cell b4 (fun f => f), ku2.cell b5 (fun f => f), ku2.cell b6 (fun f => f)⟩ (fun hHeld => ?_)
      clear hK K
      refine wpAnyH_take (i := 4) (v := ?t2v) (by simp only [List.getElem?_toArray, List.getElem?_cons_succ, List.getElem?_cons_zero] <;> rfl) (by kernel_rfl) (by kernel_rfl) (by kernel_rfl) (by exact fun _ _ _ h => h) (Or.inl ⟨by rfl, ?t2y⟩) hHeld ?t2r
      case t2y => intro w hSw; (try dsimp only at hSw); go_simp <;> rfl
      simp only [Act.put, List.setIfInBounds_toArray, List.set_cons_zero, List.set_cons_succ]
      refine wpAnyH_take (i := 5) (v := ?t3v) (by simp only [List.getElem?_toArray, List.getElem?_cons_succ, List.getElem?_cons_zero] <;> rfl) (by kernel_rfl) (by kernel_rfl) (by kernel_rfl) (by exact fun _ _ _ h => h) (Or.inl ⟨by rfl, ?t3y⟩) hHeld ?t3r
      case t3y => intro w hSw; (try dsimp only at hSw); go_simp <;> rfl
      simp only [Act.put, List.setIfInBounds_toArray, List.set_cons_zero, List.set_cons_succ]
      refine wpAnyH_take (i := 6) (v := ?t4v) (by simp only [List.getElem?_toArray, List.getElem?_cons_succ, List.getElem?_cons_zero] <;> rfl) (by kernel_rfl) (by kernel_rfl) (by kernel_rfl) (by exact fun _ _ _ h => h) (Or.inl ⟨by rfl, ?t4y⟩) hHeld ?t4r
      case t4y => intro w hSw; (try dsimp only at hSw); go_simp <;> rfl
      simp only [Act.put, List.setIfInBounds_toArray, List.set_cons_zero, List.set_cons_succ]
      refine wpAnyH_take (i := 7) (v := ?t5v) (by simp only [List.getElem?_toArray, List.getElem?_cons_succ, List.getElem?_cons_zero] <;> rfl) (by kernel_rfl) (by kernel_rfl) (by kernel_rfl) (by exact fun _ _ _ h => h) (Or.inl ⟨by rfl, ?t5y⟩) hHeld ?t5r
      case t5y => intro w hSw; (try dsimp only at hSw); go_simp <;> rfl
      simp only [Act.put, List.setIfInBounds_toArray, List.set_cons_zero, List.set_cons_succ]
      refine wpAnyH_take (i := 8) (v := ?t6v) (by simp only [List.getElem?_toArray, List.getElem?_cons_succ, List.getElem?_cons_zero] <;> rfl) (by kernel_rfl) (by kernel_rfl) (by kernel_rfl) (by exact fun _ _ _ h => h) (Or.inl ⟨by rfl, ?t6y⟩) hHeld ?t6r
      case t6y => intro w hSw; (try dsimp only at hSw); go_simp <;> rfl
      simp only [Act.put, List.setIfInBounds_toArray, List.set_cons_zero, List.set_cons_succ]
      refine wpAnyH_take (i := 9) (v := ?t7v) (by simp only [List.getElem?_toArray, List.getElem?_cons_succ, List.getElem?_cons_zero] <;> rfl) (by kernel_rfl) (by kernel_rfl) (by kernel_rfl) (by exact fun _ _ _ h => h) (Or.inl ⟨by rfl, ?t7y⟩) hHeld ?t7r
      case t7y => intro w hSw; (try dsimp only at hSw); go_simp <;> rfl
      simp only [Act.put, List.setIfInBounds_toArray, List.set_cons_zero, List.set_cons_succ]
      refine wpAnyH_take (i := 10) (v := ?t8v) (by simp only [List.getElem?_toArray, List.getElem?_cons_succ, List.getElem?_cons_zero] <;> rfl) (by kernel_rfl) (by kernel_rfl) (by kernel_rfl) (by exact fun _ _ _ h => h) (Or.inl ⟨by rfl, ?t8y⟩) hHeld ?t8r
      case t8y => intro w hSw; (try dsimp only at hSw); go_simp <;> rfl
      simp only [Act.put, List.setIfInBounds_toArray, List.set_cons_zero, List.set_cons_succ]
      refine wpAnyH_take (i := 11) (v := ?t9v) (by simp only [List.getElem?_toArray, List.getElem?_cons_succ, List.getElem?_cons_zero] <;> rfl) (by kernel_rfl) (by kernel_rfl) (by kernel_rfl) (by exact fun _ _ _ h => h) (Or.inl ⟨by rfl, ?t9y⟩) hHeld ?t9r
      case t9y => intro w hSw; (try dsimp only at hSw); go_simp <;> rfl
      simp only [Act.put, List.setIfInBounds_toArray, List.set_cons_zero, List.set_cons_succ]
      refine wpAnyH_take (i := 12) (v := ?t10v) (by simp only [List.getElem?_toArray, List.getElem?_cons_succ, List.getElem?_cons_zero] <;> rfl) (by kernel_rfl) (by kernel_rfl) (by kernel_rfl) (by exact fun _ _ _ h => h) (Or.inl ⟨by rfl, ?t10y⟩) hHeld ?t10r
      case t10y => intro w hSw; (try dsimp only at hSw); go_simp <;> rfl
      simp only [Act.put, List.setIfInBounds_toArray, List.set_cons_zero, List.set_cons_succ]
      refine wpAnyH_take (i := 13) (v := ?t11v) (by simp only [List.getElem?_toArray, List.getElem?_cons_succ, List.getElem?_cons_zero] <;> rfl) (by kernel_rfl) (by kernel_rfl) (by kernel_rfl) (by exact fun _ _ _ h => h) (Or.inl ⟨by rfl, ?t11y⟩) hHeld ?t11r
      case t11y => intro w hSw; (try dsimp only at hSw); go_simp <;> rfl
      simp only [Act.put, List.setIfInBounds_toArray, List.set_cons_zero, List.set_cons_succ]
      refine wpAnyH_take (i := 14) (v := ?t12v) (by simp only [List.getElem?_toArray, List.getElem?_cons_succ, List.getElem?_cons_zero] <;> rfl) (by kernel_rfl) (by kernel_rfl) (by kernel_rfl) (by exact fun _ _ _ h => h) (Or.inl ⟨by rfl, ?t12y⟩) hHeld ?t12r
      case t12y => intro w hSw; (try dsimp only at hSw); go_simp <;> rfl
      simp only [Act.put, List.setIfInBounds_toArray, List.set_cons_zero, List.set_cons_succ]
      refine wpAnyH_take (i := 15) (v := ?t13v) (by simp only [List.getElem?_toArray, List.getElem?_cons_succ, List.getElem?_cons_zero] <;> rfl) (by kernel_rfl) (by kernel_rfl) (by kernel_rfl) (by exact fun _ _ _ h => h) (Or.inl ⟨by rfl, ?t13y⟩) hHeld ?t13r
      case t13y => intro w hSw; (try dsimp only at hSw); go_simp <;> rfl
      simp only [Act.put, List.setIfInBounds_toArray, List.set_cons_zero, List.set_cons_succ]
      refine wpAnyH_take (i := 16) (v := ?t14v) (by simp only [List.getElem?_toArray, List.getElem?_cons_succ, List.getElem?_cons_zero] <;> rfl) (by kernel_rfl) (by kernel_rfl) (by kernel_rfl) (by exact fun _ _ _ h => h) (Or.inl ⟨by rfl, ?t14y⟩) hHeld ?t14r
      case t14y => intro w hSw; (try dsimp only at hSw); go_simp <;> rfl
      simp only [Act.put, List.setIfInBounds_toArray, List.set_cons_zero, List.set_cons_succ]
      refine wpAnyH_take (i := 17) (v := ?t15v) (by simp only [List.getElem?_toArray, List.getElem?_cons_succ, List.getElem?_cons_zero] <;> rfl) (by kernel_rfl) (by kernel_rfl) (by kernel_rfl) (by exact fun _ _ _ h => h) (Or.inl ⟨by rfl, ?t15y⟩) hHeld ?t15r
      case t15y => intro w hSw; (try dsimp only at hSw); go_simp <;> rfl
      simp only [Act.put, List.setIfInBounds_toArray, List.set_cons_zero, List.set_cons_succ]
      refine wpAnyH_take (i := 19) (v := ?t16v) (by simp only [List.getElem?_toArray, List.getElem?_cons_succ, List.getElem?_cons_zero] <;> rfl) (by kernel_rfl) (by kernel_rfl) (by kernel_rfl) (by exact fun _ _ _ h => h) (Or.inl ⟨by rfl, ?t16y⟩) hHeld ?t16r
      case t16y => intro w hSw; (try dsimp only at hSw); go_simp <;> rfl
      simp only [Act.put, List.setIfInBounds_toArray, List.set_cons_zero, List.set_cons_succ]
      refine wpAnyH_take (i := 20) (v := ?t17v) (by simp only [List.getElem?_toArray, List.getElem?_cons_succ, List.getElem?_cons_zero] <;> rfl) (by kernel_rfl) (by kernel_rfl) (by kernel_rfl) (by exact fun _ _ _ h => h) (Or.inl ⟨by rfl, ?t17y⟩) hHeld ?t17r
      case t17y => intro w hSw; (try dsimp only at hSw); go_simp <;> rfl
      simp only [Act.put, List.setIfInBounds_toArray, List.set_cons_zero, List.set_cons_succ]
      refine wpAnyH_ready (rs := [18]) (by kernel_rfl) (by simp) ?_
      refine AllReadyH.cons (by simp only [List.getElem?_toArray, List.getElem?_cons_succ, List.getElem?_cons_zero] <;> rfl) (fun K hK => ?_) AllReadyH.nil
      go_simp
      refine (zsa _ (ku2)).mono ?_
      rintro e u3 ⟨rfl, kx⟩
      have ku3 : Keep0 w5 u3 := (ku2).trans kx
      clear kx
      go_wp2_with fail
      refine hK.out _ _ ⟨ku3.cell a0 (fun f => f), ku3.cell a1 (fun f => f), ku3.cell a2 (fun f => f), ku3.cell a3 (fun f => f), ku3.cell a4 (fun f => f), ku3.cell a5 (fun f => f), ku3.cell a6 (fun f => f), ku3.cell b0 (fun f => f), ku3.cell b1 (fun f => f), ku3.cell b2 (fun f => f), ku3.cell b3 (fun f => f), ku3.cell b4 (fun f => f), ku3.cell b5 (fun f => f), ku3.cell b6 (fun f => f)⟩ (fun hHeld => ?_)
      clear hK K
      refine wpAnyH_ready (rs := [21]) (by kernel_rfl) (by simp) ?_
      refine AllReadyH.cons (by simp only [List.getElem?_toArray, List.getElem?_cons_succ, List.getElem?_cons_zero] <;> rfl) (fun K hK => ?_) AllReadyH.nil
      go_simp
      refine (zrs _ (ku3)).mono ?_
      rintro e u4 ⟨rfl, kx⟩
      have ku4 : Keep0 w5 u4 := (ku3).trans kx
      clear kx
      go_wp2_with fail
      refine hK.out _ _ ⟨ku4.cell a0 (fun f => f), ku4.cell a1 (fun f => f), ku4.cell a2 (fun f => f), ku4.cell a3 (fun f => f), ku4.cell a4 (fun f => f), ku4.cell a5 (fun f => f), ku4.cell a6 (fun f => f), ku4.cell b0 (fun f => f), ku4.cell b1 (fun f => f), ku4.cell b2 (fun f => f), ku4.cell b3 (fun f => f), ku4.cell b4 (fun f => f), ku4.cell b5 (fun f => f), ku4.cell b6 (fun f => f)⟩ (fun hHeld => ?_)
      clear hK K
      refine wpAnyH_take (i := 22) (v := ?t18v) (by simp only [List.getElem?_toArray, List.getElem?_cons_succ, List.getElem?_cons_zero] <;> rfl) (by kernel_rfl) (by kernel_rfl) (by kernel_rfl) (by exact fun _ _ _ h => h) (Or.inl ⟨by rfl, ?t18y⟩) hHeld ?t18r
      case t18y => intro w hSw; (try dsimp only at hSw); go_simp <;> rfl
      simp only [Act.put, List.setIfInBounds_toArray, List.set_cons_zero, List.set_cons_succ]
      refine wpAnyH_take (i := 23) (v := ?t19v) (by simp only [List.getElem?_toArray, List.getElem?_cons_succ, List.getElem?_cons_zero] <;> rfl) (by kernel_rfl) (by kernel_rfl) (by kernel_rfl) (by exact fun _ _ _ h => h) (Or.inl ⟨by rfl, ?t19y⟩) hHeld ?t19r
      case t19y => intro w hSw; (try dsimp only at hSw); go_simp <;> rfl
      simp only [Act.put, List.setIfInBounds_toArray, List.set_cons_zero, List.set_cons_succ]
      refine wpAnyH_done (by kernel_rfl) ?_ _
      clear hHeld zch zrc zsa zrs ych yrc ysa yrs
      replace a0 := ku4.cell a0 (fun f => f)
      replace a1 := ku4.cell a1 (fun f => f)
      replace a2 := ku4.cell a2 (fun f => f)
      replace a3 := ku4.cell a3 (fun f => f)
      replace a4 := ku4.cell a4 (fun f => f)
      replace a5 := ku4.cell a5 (fun f => f)
      replace a6 := ku4.cell a6 (fun f => f)
      have K6 := K5.trans ku4
      have HZ6 : Hid (gA + 2 ≤ u4.heap.size) := by show _ ≤ _; have := ku4.size; have := HZ5.out; omega
      clear b0 b1 b2 b3 b4 b5 b6 ku1 ku2 ku3 ku4 K5 HZ5
      generalize u4 = w6 at *
      have ycp := ycp w6 (HA.out.keep0 K6)
      go_wp2_with fail
      refine ycp.mono ?_
      rintro e w7 ⟨uo, uc, ro, rc, rfl, oE, oP, k7⟩
      have kK : Keep0 w7 (w7.alloc (.cells #[.slice uo x.k.c.length uc, .bool x.k.d, .string x.k.x.a, .int .u64 (x.k.x.n : Int), .slice ro x.m.length rc, .bool x.d, .string x.v] 30)) := (Keep.refl _ _).alloc _
      have hK := sib_new w7 30 x uo uc ro rc
      have kk := k7.trans kK
      replace a0 := kk.cell a0 (fun f => f)
      replace a1 := kk.cell a1 (fun f => f)
      replace a2 := kk.cell a2 (fun f => f)
      replace a3 := kk.cell a3 (fun f => f)
      replace a4 := kk.cell a4 (fun f => f)
      replace a5 := kk.cell a5 (fun f => f)
      replace a6 := kk.cell a6 (fun f => f)
      have K8 := K6.trans kk
      have oE8 := rowE_keep oE kK (fun _ _ f => f)
      have oP8 := rowE_keep oP kK (fun _ _ f => f)
      obtain ⟨eo, ec, ee, eE, _, _⟩ := ens_of_row oE8
      obtain ⟨eo', ec', ee', eP, _, _⟩ := prs_of_row oP8
      cases ee
      cases ee'
      have ysk := ysk (w7.alloc (.cells #[.slice uo x.k.c.length uc, .bool x.k.d, .string x.k.x.a, .int .u64 (x.k.x.n : Int), .slice ro x.m.length rc, .bool x.d, .string x.v] 30)) uo uc ro rc ⟨eE, eP, rowP_cap oP8⟩ (HA.out.keep0 K8)
      have z67 := k7.size
      have HEn : Hid (0 < x.k.c.length → ∃ g off, uo = some ⟨g, off, none⟩ ∧ gA + 2 ≤ g ∧ g < w7.heap.size ∧ RowFrom (w7.alloc (.cells #[.slice uo x.k.c.length uc, .bool x.k.d, .string x.k.x.a, .int .u64 (x.k.x.n : Int), .slice ro x.m.length rc, .bool x.d, .string x.v] 30)) g off 25 0 (enCells x.k.c)) := fun hl => by
        obtain ⟨g, off, e, hb, hr⟩ := row_from oE8 hl
        obtain ⟨g', off', e', _, hr'⟩ := row_from oE hl
        rw [e] at e'
        cases e'
        exact ⟨g, off, e, by have := HZ6.out; omega, hr'.lt, hr⟩
      have HPr : Hid (0 < x.m.length → ∃ g off, ro = some ⟨g, off, none⟩ ∧ gA + 2 ≤ g ∧ g < w7.heap.size ∧ RowFrom (w7.alloc (.cells #[.slice uo x.k.c.length uc, .bool x.k.d, .string x.k.x.a, .int .u64 (x.k.x.n : Int), .slice ro x.m.length rc, .bool x.d, .string x.v] 30)) g off 43 0 (prCells x.m)) := fun hl => by
        obtain ⟨g, off, e, hb, hr⟩ := row_from oP8 hl
        obtain ⟨g', off', e', _, hr'⟩ := row_from oP hl
        rw [e] at e'
        cases e'
        exact ⟨g, off, e, by have := HZ6.out; omega, hr'.lt, hr⟩
      have HZ7 : Hid (gA + 2 ≤ w7.heap.size) := by show _ ≤ _; have := HZ6.out; omega
      obtain ⟨d0, d1, d2, d3, d4, d5, d6⟩ := hK
      clear k7 kK kk oE oP oE8 oP8 eE eP ycp K6 HZ6 z67
      go_wp2_with fail
      generalize (w7.alloc (.cells #[.slice uo x.k.c.length uc, .bool x.k.d, .string x.k.x.a, .int .u64 (x.k.x.n : Int), .slice ro x.m.length rc, .bool x.d, .string x.v] 30)) = w8 at *
      obtain ⟨gK, hgK⟩ : ∃ gK, w7.heap.size = gK := ⟨_, rfl⟩
      rw [hgK] at d0 d1 d2 d3 d4 d5 d6 HEn HPr HZ7 ⊢
      clear hgK
      refine ysk.mono ?_
      rintro e w9 ⟨rfl, k9⟩
      have K9 := K8.trans k9
      have HX : Hid (SibAt w9 gA 0 x vo vc po pc) := ⟨k9.cell a0 (fun f => f), k9.cell a1 (fun f => f), k9.cell a2 (fun f => f), k9.cell a3 (fun f => f), k9.cell a4 (fun f => f), k9.cell a5 (fun f => f), k9.cell a6 (fun f => f)⟩
      have hk : SibAt w9 gK 0 x uo uc ro rc := ⟨k9.cell d0 (fun f => f), k9.cell d1 (fun f => f), k9.cell d2 (fun f => f), k9.cell d3 (fun f => f), k9.cell d4 (fun f => f), k9.cell d5 (fun f => f), k9.cell d6 (fun f => f)⟩
      have HEn : Hid (0 < x.k.c.length → ∃ g off, uo = some ⟨g, off, none⟩ ∧ gA + 2 ≤ g ∧ g < gK ∧ RowFrom w9 g off 25 0 (enCells x.k.c)) := fun hl => by
        obtain ⟨g, off, e, h1, h2, h3⟩ := HEn.out hl
        exact ⟨g, off, e, h1, h2, h3.keep k9 (fun f => f)⟩
      have HPr : Hid (0 < x.m.length → ∃ g off, ro = some ⟨g, off, none⟩ ∧ gA + 2 ≤ g ∧ g < gK ∧ RowFrom w9 g off 43 0 (prCells x.m)) := fun hl => by
        obtain ⟨g, off, e, h1, h2, h3⟩ := HPr.out hl
        exact ⟨g, off, e, h1, h2, h3.keep k9 (fun f => f)⟩
      clear a0 d0 a1 d1 a2 d2 a3 d3 a4 d4 a5 d5 a6 d6 K8 k9 ysk
      go_wp2_with fail
      go_loopw [10] (fun i wr => ∃ (j : Nat), i = .int .i64 (j : Int) ∧ j ≤ x.m.length ∧ Hid (SibAt wr gA 0 x vo vc po pc) ∧ Hid (SibAt wr gK 0 x uo uc ro rc) ∧ Hid (0 < x.k.c.length → ∃ g off, uo = some ⟨g, off, none⟩ ∧ gA + 2 ≤ g ∧ g < gK ∧ RowFrom wr g off 25 0 (enCells x.k.c)) ∧ Hid (0 < x.m.length → ∃ g off, ro = some ⟨g, off, none⟩ ∧ gA + 2 ≤ g ∧ g < gK ∧ RowFrom wr g off 43 (j * 2) (prCells x.m)) ∧ Keep0 w wr) (fun i _ => x.m.length - (intOf i).toNat)
      case atStart => exact ⟨0, rfl, by omega, HX, hk, HEn, HPr, K9⟩
      case round =>
        obtain ⟨j, rfl, hj, HX1, Hk1, HEn1, HPr1, KK⟩ := hrel
        clear HX hk HEn HPr K9 w9
        by_cases hlt : j < x.m.length
        · have j1 : (j : Int) < x.m.length := by omega
          obtain ⟨g, off, e0, hg1, hg2, hr⟩ := HPr1.out (by omega)
          subst e0
          obtain ⟨cc, cf⟩ := hr.cell (q := j * 2 + 1) (by omega) (prCells_get x.m j hlt 1 (by decide))
          rw [← Nat.add_assoc] at cc cf
          obtain ⟨d0, d1, d2, d3, d4, d5, d6⟩ := Hk1.out
          have hsz := HMs.out x.m[j] (List.getElem_mem hlt)
          have hcat : ¬ 9223372036854775807 < x.m[j].v.size + 1 := by omega
          have kS : ∀ u, Keep1 g wr (wr.setCell ⟨g, off + j * 2 + 1, none⟩ u) := fun u => set_keep1 wr g (off + j * 2 + 1) u
          have HX2 : Hid (∀ u, SibAt (wr.setCell ⟨g, off + j * 2 + 1, none⟩ u) gA 0 x vo vc po pc) := fun u => HX1.out.keep (kS u) (by omega)
          have Hk2 : Hid (∀ u, SibAt (wr.setCell ⟨g, off + j * 2 + 1, none⟩ u) gK 0 x uo uc (some ⟨g, off, none⟩) rc) := fun u => Hk1.out.keep (kS u) (by omega)
          have HE2 : Hid (∀ u, 0 < x.k.c.length → ∃ g' off', uo = some ⟨g', off', none⟩ ∧ gA + 2 ≤ g' ∧ g' < gK ∧ RowFrom (wr.setCell ⟨g, off + j * 2 + 1, none⟩ u) g' off' 25 0 (enCells x.k.c)) := fun u hl => by
            obtain ⟨g', off', e, h1, h2, h3⟩ := HEn1.out hl
            exact ⟨g', off', e, h1, h2, h3.keep (kS u) (h3.apart hr (by decide))⟩
          have HP2 : Hid (∀ u, 0 < x.m.length → ∃ g' off', some (⟨g, off, none⟩ : Addr) = some ⟨g', off', none⟩ ∧ gA + 2 ≤ g' ∧ g' < gK ∧ RowFrom (wr.setCell ⟨g, off + j * 2 + 1, none⟩ u) g' off' 43 ((j + 1) * 2) (prCells x.m)) := fun u _ => by
            have := hr.set (j * 2 + 1) (by omega) u
            rw [← Nat.add_assoc] at this
            exact ⟨g, off, rfl, hg1, hg2, this.weak (by omega)⟩
          have HK2 : Hid (∀ u, Keep0 w (wr.setCell ⟨g, off + j * 2 + 1, none⟩ u)) := fun u => KK.step (kS u) (fun i hi hh => by have := HG.out; omega)
          clear HX1 Hk1 HEn1 HPr1 hr kS d0 d1 d2 d3 d5 d6 KK
          generalize x.m[j].v = MV at *
          go_wp2
          go_roundw
          case rel => exact ⟨j + 1, by go_num, by omega, HX2.out _, Hk2.out _, HE2.out _, HP2.out _, HK2.out _⟩
          case measure => simp [intOf]; omega
        · have j1 : ¬ (j : Int) < x.m.length := by omega
          obtain ⟨d0, d1, d2, d3, d4, d5, d6⟩ := Hk1.out
          go_wp2_with fail
          clear d0 d1 d2 d3 d4 d5 d6
          have KK0 := KK
          generalize wr = W9 at *
          go_loopw [11] (fun i wr => ∃ (j : Nat), i = .int .i64 (j : Int) ∧ j ≤ x.k.c.length ∧ Hid (SibAt wr gA 0 x vo vc po pc) ∧ Hid (SibAt wr gK 0 x uo uc ro rc) ∧ Hid (0 < x.k.c.length → ∃ g off, uo = some ⟨g, off, none⟩ ∧ gA + 2 ≤ g ∧ g < gK ∧ RowFrom wr g off 25 (j * 2) (enCells x.k.c)) ∧ Keep0 w wr) (fun i _ => x.k.c.length - (intOf i).toNat)
          case atStart => exact ⟨0, rfl, by omega, HX1, Hk1, HEn1, KK0⟩
          case round =>
            obtain ⟨i, rfl, hi, HX3, Hk3, HEn3, KK3⟩ := hrel
            clear HX1 Hk1 HEn1 HPr1 KK KK0 W9 hj hlt j1
            by_cases hlt : i < x.k.c.length
            · have j1 : (i : Int) < x.k.c.length := by omega
              obtain ⟨g, off, e0, hg1, hg2, hr⟩ := HEn3.out (by omega)
              subst e0
              obtain ⟨cc, cf⟩ := hr.cell (q := i * 2 + 1) (by omega) (enCells_get x.k.c i hlt 1 (by decide))
              rw [← Nat.add_assoc] at cc cf
              obtain ⟨d0, d1, d2, d3, d4, d5, d6⟩ := Hk3.out
              have kS : ∀ u, Keep1 g wr (wr.setCell ⟨g, off + i * 2 + 1, none⟩ u) := fun u => set_keep1 wr g (off + i * 2 + 1) u
              have HX2 : Hid (∀ u, SibAt (wr.setCell ⟨g, off + i * 2 + 1, none⟩ u) gA 0 x vo vc po pc) := fun u => HX3.out.keep (kS u) (by omega)
              have Hk2 : Hid (∀ u, SibAt (wr.setCell ⟨g, off + i * 2 + 1, none⟩ u) gK 0 x (some ⟨g, off, none⟩) uc ro rc) := fun u => Hk3.out.keep (kS u) (by omega)
              have HE2 : Hid (∀ u, 0 < x.k.c.length → ∃ g' off', some (⟨g, off, none⟩ : Addr) = some ⟨g', off', none⟩ ∧ gA + 2 ≤ g' ∧ g' < gK ∧ RowFrom (wr.setCell ⟨g, off + i * 2 + 1, none⟩ u) g' off' 25 ((i + 1) * 2) (enCells x.k.c)) := fun u _ => by
                have := hr.set (i * 2 + 1) (by omega) u
                rw [← Nat.add_assoc] at this
                exact ⟨g, off, rfl, hg1, hg2, this.weak (by omega)⟩
              have HK2 : Hid (∀ u, Keep0 w (wr.setCell ⟨g, off + i * 2 + 1, none⟩ u)) := fun u => KK3.step (kS u) (fun i hi hh => by have := HG.out; omega)
              clear HX3 Hk3 HEn3 hr kS d1 d2 d3 d4 d5 d6 KK3
              generalize (x.k.c[i].n : Int) = CN at *
              go_wp2
              go_roundw
              case rel => exact ⟨i + 1, by go_num, by omega, HX2.out _, Hk2.out _, HE2.out _, HK2.out _⟩
              case measure => simp [intOf]; omega
            · have j1 : ¬ (i : Int) < x.k.c.length := by omega
              obtain ⟨d0, d1, d2, d3, d4, d5, d6⟩ := Hk3.out
              by_cases h0 : E = 0
              case neg =>
                have e0 : (E != 0) = true := by simpa using h0
                go_wp2
                go_ret
                exact ⟨rfl, KK3⟩
              subst h0
              have hdec := HD.out rfl
              obtain ⟨a0, a1, a2, a3, a4, a5, a6⟩ := HX3.out
              have yre := yre wr (HA.out.keep0 KK3)
              have yd := fun W => V.decode W S HSz.out
              rw [hdec] at yd
              clear hdec HD
              go_wp2_with fail
              refine yre.mono ?_
              rintro e wA ⟨rfl, kA⟩
              have KA := KK3.trans kA
              replace a0 := kA.cell a0 (fun f => f)
              replace a1 := kA.cell a1 (fun f => f)
              replace a2 := kA.cell a2 (fun f => f)
              replace a3 := kA.cell a3 (fun f => f)
              replace a4 := kA.cell a4 (fun f => f)
              replace a5 := kA.cell a5 (fun f => f)
              replace a6 := kA.cell a6 (fun f => f)
              clear yre kA KK3 d0 d1 d2 d3 d4 d5 d6
              go_wp2_with fail
              refine (yd wA).mono ?_
              rintro e wC ⟨so, sc, to, tc, rfl, hC, _, _, kC⟩
              have kD : Keep0 wC (wC.alloc (.cells #[.slice so x.k.c.length sc, .bool x.k.d, .string x.k.x.a, .int .u64 (x.k.x.n : Int), .slice to x.m.length tc, .bool x.d, .string x.v] 30)) := (Keep.refl _ _).alloc _
              have hV := sib_new wC 30 x so sc to tc
              have KD := (KA.trans kC).trans kD
              have hCD := hC.keep0 kD
              replace a0 := (kC.trans kD).cell a0 (fun f => f)
              replace a1 := (kC.trans kD).cell a1 (fun f => f)
              replace a2 := (kC.trans kD).cell a2 (fun f => f)
              replace a3 := (kC.trans kD).cell a3 (fun f => f)
              replace a4 := (kC.trans kD).cell a4 (fun f => f)
              replace a5 := (kC.trans kD).cell a5 (fun f => f)
              replace a6 := (kC.trans kD).cell a6 (fun f => f)
              obtain ⟨d0, d1, d2, d3, d4, d5, d6⟩ := hV
              have ysm := ysm _ so sc to tc hCD (HA.out.keep0 KD)
              clear yd kC kD hC KA hCD
              go_wp2_with fail
              generalize (wC.alloc (.cells #[.slice so x.k.c.length sc, .bool x.k.d, .string x.k.x.a, .int .u64 (x.k.x.n : Int), .slice to x.m.length tc, .bool x.d, .string x.v] 30)) = wD at *
              generalize wC.heap.size = gD at *
              refine ysm.mono ?_
              rintro e wE ⟨rfl, kE⟩
              have KE := KD.trans kE
              clear ysm kE KD
              go_wp2
              go_ret
              exact ⟨by simp, KE⟩
end Go.Proofs.Ytfpahdnhnhkcdaa
