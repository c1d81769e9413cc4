/-
  The walk of the law DottedCovers, out of what package dotted's functions answer (DotCode) and of the document's own Check.
  Conditions: none beyond that the arguments can be read as data.
-/
import Derived.Test.YtkbihpdfafapeaaLaw12
import Derived.Test.YtkbihpdfafapeaaL1
namespace Go.Proofs.Ytkbihpdfafapeaa
open Go.RowKit

theorem hav_iff {a : Ck} {s : ByteArray} {m : Nat} : m ≤ hav a s ↔ ∀ n, n ≠ 0 → n ≤ m → kKnows a s n = true := by
  constructor
  · intro h n hn hle
    rw [knows_iff]
    refine ⟨hn, ?_⟩
    by_cases hc : a.d = true ∧ a.x.a = s ∧ a.x.n = vCount a.c s + 1
    · rw [hav_yes hc] at h
      by_cases he : n = vCount a.c s + 1
      · exact Or.inl ⟨hc.1, hc.2.1, by rw [hc.2.2, he]⟩
      · exact Or.inr (by omega)
    · rw [hav_no hc] at h
      exact Or.inr (by omega)
  · intro hk
    by_cases hc : a.d = true ∧ a.x.a = s ∧ a.x.n = vCount a.c s + 1
    · rw [hav_yes hc]
      by_cases hlt : m ≤ vCount a.c s + 1
      · exact hlt
      · obtain ⟨_, h2⟩ := knows_iff.1 (hk (vCount a.c s + 2) (by omega) (by omega))
        rcases h2 with ⟨_, _, h2⟩ | h2 <;> omega
    · rw [hav_no hc]
      by_cases hlt : m ≤ vCount a.c s
      · exact hlt
      · obtain ⟨_, h2⟩ := knows_iff.1 (hk (vCount a.c s + 1) (by omega) (by omega))
        rcases h2 with h2 | h2
        · exact absurd h2 hc
        · omega
/-- Are the events 1 to m of an actor known? -/
def kAll (a : Ck) (s : ByteArray) (m : Nat) : Bool := (List.range m).all (fun z => kKnows a s (z + 1))
theorem kAll_succ (a : Ck) (s : ByteArray) (m : Nat) : kAll a s (m + 1) = (kAll a s m && kKnows a s (m + 1)) := by
  unfold kAll
  rw [List.range_succ, List.all_append]
  simp
theorem kAll_iff {a : Ck} {s : ByteArray} {m : Nat} : kAll a s m = decide (m ≤ hav a s) := by
  rw [Bool.eq_iff_iff, decide_eq_true_iff, hav_iff]
  unfold kAll
  rw [List.all_eq_true]
  constructor
  · intro h n hn hle
    have := h (n - 1) (List.mem_range.2 (by omega))
    rwa [Nat.sub_add_cancel (by omega)] at this
  · intro h z hz
    exact h (z + 1) (by omega) (by have := List.mem_range.1 hz; omega)
def allTo (a : Ck) (l : List En) : Bool := l.all (fun y => kAll a y.a y.n)
theorem allTo_take {a : Ck} {l : List En} {i : Nat} (hi : i < l.length) : allTo a (l.take (i + 1)) = (allTo a (l.take i) && kAll a l[i].a l[i].n) := by
  unfold allTo
  rw [List.take_succ_eq_append_getElem hi, List.all_append]
  simp
theorem covers_all {a b : Ck} : kCovers a b = ((!b.d || kKnows a b.x.a b.x.n) && allTo a b.c) := by
  unfold kCovers allTo
  congr 1
  congr 1
  funext y
  exact kAll_iff.symm
/-- What 'few' answers. -/
def RFew (k : Ck) (w : World) (e : Ending) (w' : World) : Prop := ∃ q : Bool, e = .returned (.bool q) ∧ (q = false → k.c.length ≤ 8 ∧ Right k ∧ ∀ y ∈ k.c, y.n ≤ 40) ∧ Keep0 w w'
theorem RFew.yes {k : Ck} {w w' : World} {e : Ending} (h : e = .returned (.bool true)) (K : Keep0 w w') : RFew k w e w' := ⟨true, h, (fun h => by cases h), K⟩
theorem RFew.no {k : Ck} {w w' : World} {e : Ending} (h : e = .returned (.bool false)) (h1 : k.c.length ≤ 8 ∧ Right k ∧ ∀ y ∈ k.c, y.n ≤ 40) (K : Keep0 w w') : RFew k w e w' := ⟨false, h, fun _ => h1, K⟩
set_option maxRecDepth 100000 in
set_option maxHeartbeats 4000000 in
theorem few12 (w : World) (ao : Option Addr) (ca : Nat) (a : Ck) (fa : FitsK a) (hA : EnsAt w ao a.c) :
    Calls Try.prog 24 #[.agg #[.slice ao a.c.length ca, .bool a.d, .string a.x.a, .int .u64 (a.x.n : Int)]] w (RFew a w) := by
  have kA : Keep0 w (w.alloc (.cells #[.slice ao a.c.length ca, .bool a.d, .string a.x.a, .int .u64 (a.x.n : Int)] 27)) := (Keep.refl _ w).alloc _
  have hX := clk_new w 27 a ao ca
  have yc := rcheck12 _ ao ca a fa (hA.keep0 kA)
  have hl' : (a.c.length : Int) ≤ 9223372036854775807 := by have := fa.vec.1; unfold maxLen at this; omega
  have HY : Hid (∀ (W : World) (e : Ending), e = .returned (.bool true) → Keep0 w W → RFew a w e W) := fun _ _ h K => RFew.yes h K
  have HN : Hid (∀ (W : World) (e : Ending), e = .returned (.bool false) → (a.c.length ≤ 8 ∧ Right a ∧ ∀ y ∈ a.c, y.n ≤ 40) → Keep0 w W → RFew a w e W) := fun _ _ h h1 K => RFew.no h h1 K
  have HE : Hid (EnsAt w ao a.c) := hA
  have HFa : Hid (FitsK a) := fa
  clear hA fa
  by_cases h8 : 8 < a.c.length
  · have i0 : (8 : Int) < a.c.length := by omega
    clear yc HN hX h8
    go_enter Try.func24, Try.ntmps24
    go_wp2
    go_ret
    exact HY.out _ _ rfl kA
  · have i0 : ¬ (8 : Int) < a.c.length := by omega
    by_cases h0 : kCheck a = 0
    · rw [h0] at yc
      have HR : Hid (Right a) := (right_iff a).1 h0
      clear h0
      go_enter Try.func24, Try.ntmps24
      go_wp2_with fail
      generalize (w.alloc (.cells #[.slice ao a.c.length ca, .bool a.d, .string a.x.a, .int .u64 (a.x.n : Int)] 27)) = W1 at *
      generalize w.heap.size = gA at *
      refine yc.mono ?_
      rintro e w1 ⟨rfl, k1⟩
      have K1 : Hid (Keep0 w w1) := kA.trans k1
      have HX : Hid (ClkAt w1 gA 0 a ao ca) := hX.keep0 k1
      clear yc k1 kA hX
      go_wp2_with fail
      go_loopw [3] (fun i wr => ∃ (k : Nat), i = .int .i64 (k : Int) ∧ k ≤ a.c.length ∧ Hid (∀ q (_ : q < a.c.length), q < k → a.c[q].n ≤ 40) ∧ Keep0 w1 wr) (fun i _ => a.c.length - (intOf i).toNat)
      case atStart => exact ⟨0, rfl, by omega, (fun q _ h => by omega), Keep.refl _ _⟩
      case round =>
        obtain ⟨k, rfl, hk, HQ, hK⟩ := hrel
        obtain ⟨x0, _, _, _⟩ := HX.out.keep0 hK
        by_cases hlt : k < a.c.length
        · have i1 : (k : Int) < a.c.length := by omega
          obtain ⟨eb, eoff, hao, p0, p1⟩ := HE.out k hlt
          have KK := K1.out.trans hK
          have y1 := KK.cell p1 (fun f => f)
          by_cases h40 : a.c[k].n ≤ 40
          · have i2 : ¬ (40 : Int) < (a.c[k].n : Int) := by omega
            have HQ2 : Hid (∀ q (_ : q < a.c.length), q < k + 1 → a.c[q].n ≤ 40) := by
              intro q hq hlt'
              by_cases e : q = k
              · subst e; exact h40
              · exact HQ.out q hq (by omega)
            clear HQ h40 p0 p1 KK
            generalize (a.c[k].n : Int) = N at *
            subst hao
            go_wp2
            go_roundw
            case rel => exact ⟨k + 1, by go_num, by omega, HQ2, hK⟩
            case measure => simp [intOf]; omega
          · have i2 : (40 : Int) < (a.c[k].n : Int) := by omega
            clear HQ h40 p0 p1
            generalize (a.c[k].n : Int) = N at *
            subst hao
            go_wp2
            go_ret
            exact HY.out _ _ rfl KK
        · have i1 : ¬ (k : Int) < a.c.length := by omega
          have hq : a.c.length ≤ 8 ∧ Right a ∧ ∀ y ∈ a.c, y.n ≤ 40 := ⟨by omega, HR.out, fun y hy => by
            obtain ⟨q, hq, rfl⟩ := List.mem_iff_getElem.1 hy
            exact HQ.out q hq (by omega)⟩
          have HQ2 : Hid (a.c.length ≤ 8 ∧ Right a ∧ ∀ y ∈ a.c, y.n ≤ 40) := hq
          have KK := K1.out.trans hK
          clear hq HQ
          go_wp2
          go_ret
          exact HN.out _ _ rfl HQ2.out KK
    · have e0 : (kCheck a != 0) = true := by simpa using h0
      clear h0
      generalize kCheck a = CK at *
      go_enter Try.func24, Try.ntmps24
      go_wp2_with fail
      generalize (w.alloc (.cells #[.slice ao a.c.length ca, .bool a.d, .string a.x.a, .int .u64 (a.x.n : Int)] 27)) = W1 at *
      generalize w.heap.size = gA at *
      refine yc.mono ?_
      rintro e w1 ⟨rfl, k1⟩
      have K1 := kA.trans k1
      clear yc k1 kA
      go_wp2
      go_ret
      exact HY.out _ _ rfl K1
set_option maxRecDepth 100000 in
set_option maxHeartbeats 8000000 in
theorem dottedCovers_law (V : DotCode) (w : World) (ao : Option Addr) (ca : Nat) (a : Ck) (fa : FitsK a) (hA : EnsAt w ao a.c) (bo : Option Addr) (cb : Nat) (b : Ck) (fb : FitsK b) (hB : EnsAt w bo b.c) (co : Option Addr) (cc : Nat) (c : Ck) (fc : FitsK c) (hC : EnsAt w co c.c) :
    Calls Try.prog 6 #[.agg #[.slice ao a.c.length ca, .bool a.d, .string a.x.a, .int .u64 (a.x.n : Int)], .agg #[.slice bo b.c.length cb, .bool b.d, .string b.x.a, .int .u64 (b.x.n : Int)], .agg #[.slice co c.c.length cc, .bool c.d, .string c.x.a, .int .u64 (c.x.n : Int)]] w fun e w' => e = .returned (.bool true) ∧ Keep0 w w' := by
  have k01 : Keep0 w (w.alloc (.cells #[.slice ao a.c.length ca, .bool a.d, .string a.x.a, .int .u64 (a.x.n : Int)] 27)) := (Keep.refl _ w).alloc _
  have k12 : Keep0 (w.alloc (.cells #[.slice ao a.c.length ca, .bool a.d, .string a.x.a, .int .u64 (a.x.n : Int)] 27)) ((w.alloc (.cells #[.slice ao a.c.length ca, .bool a.d, .string a.x.a, .int .u64 (a.x.n : Int)] 27)).alloc (.cells #[.slice bo b.c.length cb, .bool b.d, .string b.x.a, .int .u64 (b.x.n : Int)] 27)) := (Keep.refl _ _).alloc _
  have k23 : Keep0 ((w.alloc (.cells #[.slice ao a.c.length ca, .bool a.d, .string a.x.a, .int .u64 (a.x.n : Int)] 27)).alloc (.cells #[.slice bo b.c.length cb, .bool b.d, .string b.x.a, .int .u64 (b.x.n : Int)] 27)) (((w.alloc (.cells #[.slice ao a.c.length ca, .bool a.d, .string a.x.a, .int .u64 (a.x.n : Int)] 27)).alloc (.cells #[.slice bo b.c.length cb, .bool b.d, .string b.x.a, .int .u64 (b.x.n : Int)] 27)).alloc (.cells #[.slice co c.c.length cc, .bool c.d, .string c.x.a, .int .u64 (c.x.n : Int)] 27)) := (Keep.refl _ _).alloc _
  have z1 : (w.alloc (.cells #[.slice ao a.c.length ca, .bool a.d, .string a.x.a, .int .u64 (a.x.n : Int)] 27)).heap.size = w.heap.size + 1 := World.size_alloc _ _
  have z2 : ((w.alloc (.cells #[.slice ao a.c.length ca, .bool a.d, .string a.x.a, .int .u64 (a.x.n : Int)] 27)).alloc (.cells #[.slice bo b.c.length cb, .bool b.d, .string b.x.a, .int .u64 (b.x.n : Int)] 27)).heap.size = w.heap.size + 1 + 1 := by rw [World.size_alloc, z1]
  have hXA : ClkAt (((w.alloc (.cells #[.slice ao a.c.length ca, .bool a.d, .string a.x.a, .int .u64 (a.x.n : Int)] 27)).alloc (.cells #[.slice bo b.c.length cb, .bool b.d, .string b.x.a, .int .u64 (b.x.n : Int)] 27)).alloc (.cells #[.slice co c.c.length cc, .bool c.d, .string c.x.a, .int .u64 (c.x.n : Int)] 27)) w.heap.size 0 a ao ca := ((clk_new w 27 a ao ca).keep0 k12).keep0 k23
  have hXB : ClkAt (((w.alloc (.cells #[.slice ao a.c.length ca, .bool a.d, .string a.x.a, .int .u64 (a.x.n : Int)] 27)).alloc (.cells #[.slice bo b.c.length cb, .bool b.d, .string b.x.a, .int .u64 (b.x.n : Int)] 27)).alloc (.cells #[.slice co c.c.length cc, .bool c.d, .string c.x.a, .int .u64 (c.x.n : Int)] 27)) (w.heap.size + 1) 0 b bo cb := by
    have := (clk_new (w.alloc (.cells #[.slice ao a.c.length ca, .bool a.d, .string a.x.a, .int .u64 (a.x.n : Int)] 27)) 27 b bo cb).keep0 k23
    rw [z1] at this
    exact this
  have hXC : ClkAt (((w.alloc (.cells #[.slice ao a.c.length ca, .bool a.d, .string a.x.a, .int .u64 (a.x.n : Int)] 27)).alloc (.cells #[.slice bo b.c.length cb, .bool b.d, .string b.x.a, .int .u64 (b.x.n : Int)] 27)).alloc (.cells #[.slice co c.c.length cc, .bool c.d, .string c.x.a, .int .u64 (c.x.n : Int)] 27)) (w.heap.size + 1 + 1) 0 c co cc := by
    have := clk_new ((w.alloc (.cells #[.slice ao a.c.length ca, .bool a.d, .string a.x.a, .int .u64 (a.x.n : Int)] 27)).alloc (.cells #[.slice bo b.c.length cb, .bool b.d, .string b.x.a, .int .u64 (b.x.n : Int)] 27)) 27 c co cc
    rw [z2] at this
    exact this
  have KB := (k01.trans k12).trans k23
  have yw := awake12 V (((w.alloc (.cells #[.slice ao a.c.length ca, .bool a.d, .string a.x.a, .int .u64 (a.x.n : Int)] 27)).alloc (.cells #[.slice bo b.c.length cb, .bool b.d, .string b.x.a, .int .u64 (b.x.n : Int)] 27)).alloc (.cells #[.slice co c.c.length cc, .bool c.d, .string c.x.a, .int .u64 (c.x.n : Int)] 27))
  have hA := hA.keep0 KB
  have hB := hB.keep0 KB
  have hC := hC.keep0 KB
  clear k01 k12 k23 z1 z2
  go_enter Try.func6, Try.ntmps6
  go_wp2_with fail
  generalize (((w.alloc (.cells #[.slice ao a.c.length ca, .bool a.d, .string a.x.a, .int .u64 (a.x.n : Int)] 27)).alloc (.cells #[.slice bo b.c.length cb, .bool b.d, .string b.x.a, .int .u64 (b.x.n : Int)] 27)).alloc (.cells #[.slice co c.c.length cc, .bool c.d, .string c.x.a, .int .u64 (c.x.n : Int)] 27)) = WB at *
  generalize w.heap.size = gA at *
  refine yw.mono ?_
  rintro e w1 ⟨rfl, k1⟩
  have hXA := hXA.keep0 k1
  have hXB := hXB.keep0 k1
  have hXC := hXC.keep0 k1
  have hA := hA.keep0 k1
  have hB := hB.keep0 k1
  have hC := hC.keep0 k1
  have Kw1 := KB.trans k1
  clear yw k1 KB
  have yf := few12 w1 ao ca a fa hA
  have HXw2 : Hid (ClkAt w1 gA 0 a ao ca ∧ ClkAt w1 (gA + 1) 0 b bo cb ∧ ClkAt w1 (gA + 1 + 1) 0 c co cc) := ⟨hXA, hXB, hXC⟩
  obtain ⟨cA0, cA1, cA2, cA3⟩ := hXA
  obtain ⟨cB0, cB1, cB2, cB3⟩ := hXB
  obtain ⟨cC0, cC1, cC2, cC3⟩ := hXC
  go_wp2_with fail
  refine yf.mono ?_
  rintro e w2 ⟨qA, rfl, hqA, k⟩
  obtain ⟨hXA, hXB, hXC⟩ := HXw2.out
  have hXA := hXA.keep0 k
  have hXB := hXB.keep0 k
  have hXC := hXC.keep0 k
  have hA := hA.keep0 k
  have hB := hB.keep0 k
  have hC := hC.keep0 k
  have Kw2 := Kw1.trans k
  clear yf k HXw2 Kw1 cA0 cA1 cA2 cA3 cB0 cB1 cB2 cB3 cC0 cC1 cC2 cC3
  cases qA with
  | true =>
    go_wp2
    go_ret
    exact ⟨rfl, Kw2⟩
  | false =>
    have HQA := hqA rfl
    have HQA : Hid (a.c.length ≤ 8 ∧ Right a ∧ ∀ y ∈ a.c, y.n ≤ 40) := HQA
    clear hqA
    have yf := few12 w2 bo cb b fb hB
    have HXw3 : Hid (ClkAt w2 gA 0 a ao ca ∧ ClkAt w2 (gA + 1) 0 b bo cb ∧ ClkAt w2 (gA + 1 + 1) 0 c co cc) := ⟨hXA, hXB, hXC⟩
    obtain ⟨cA0, cA1, cA2, cA3⟩ := hXA
    obtain ⟨cB0, cB1, cB2, cB3⟩ := hXB
    obtain ⟨cC0, cC1, cC2, cC3⟩ := hXC
    go_wp2_with fail
    refine yf.mono ?_
    rintro e w3 ⟨qB, rfl, hqB, k⟩
    obtain ⟨hXA, hXB, hXC⟩ := HXw3.out
    have hXA := hXA.keep0 k
    have hXB := hXB.keep0 k
    have hXC := hXC.keep0 k
    have hA := hA.keep0 k
    have hB := hB.keep0 k
    have hC := hC.keep0 k
    have Kw3 := Kw2.trans k
    clear yf k HXw3 Kw2 cA0 cA1 cA2 cA3 cB0 cB1 cB2 cB3 cC0 cC1 cC2 cC3
    cases qB with
    | true =>
      go_wp2
      go_ret
      exact ⟨rfl, Kw3⟩
    | false =>
      have HQB := hqB rfl
      have HQB : Hid (b.c.length ≤ 8 ∧ Right b ∧ ∀ y ∈ b.c, y.n ≤ 40) := HQB
      clear hqB
      have yf := few12 w3 co cc c fc hC
      have HXw4 : Hid (ClkAt w3 gA 0 a ao ca ∧ ClkAt w3 (gA + 1) 0 b bo cb ∧ ClkAt w3 (gA + 1 + 1) 0 c co cc) := ⟨hXA, hXB, hXC⟩
      obtain ⟨cA0, cA1, cA2, cA3⟩ := hXA
      obtain ⟨cB0, cB1, cB2, cB3⟩ := hXB
      obtain ⟨cC0, cC1, cC2, cC3⟩ := hXC
      go_wp2_with fail
      refine yf.mono ?_
      rintro e w4 ⟨qC, rfl, hqC, k⟩
      obtain ⟨hXA, hXB, hXC⟩ := HXw4.out
      have hXA := hXA.keep0 k
      have hXB := hXB.keep0 k
      have hXC := hXC.keep0 k
      have hA := hA.keep0 k
      have hB := hB.keep0 k
      have hC := hC.keep0 k
      have Kw4 := Kw3.trans k
      clear yf k HXw4 Kw3 cA0 cA1 cA2 cA3 cB0 cB1 cB2 cB3 cC0 cC1 cC2 cC3
      cases qC with
      | true =>
        go_wp2
        go_ret
        exact ⟨rfl, Kw4⟩
      | false =>
        have HQC := hqC rfl
        have HQC : Hid (c.c.length ≤ 8 ∧ Right c ∧ ∀ y ∈ c.c, y.n ≤ 40) := HQC
        clear hqC
        have okA : Ok12 a := ⟨by have := HQA.out.1; omega, fa⟩
        have okB : Ok12 b := ⟨by have := HQB.out.1; omega, fb⟩
        have okC : Ok12 c := ⟨by have := HQC.out.1; omega, fc⟩
        have rA := HQA.out.2.1
        have rB := HQB.out.2.1
        have rC := HQC.out.2.1
        have eA : (kCheck a == 0) = true := by rw [(right_iff a).2 rA]; rfl
        have eB : (kCheck b == 0) = true := by rw [(right_iff b).2 rB]; rfl
        have eC : (kCheck c == 0) = true := by rw [(right_iff c).2 rC]; rfl
        have HKn : Hid (∀ W, Keep0 w4 W → ∀ (s : ByteArray) (n : Nat), s.size ≤ maxLen → n < 18446744073709551616 → Calls Try.prog 14 #[.agg #[.slice ao a.c.length ca, .bool a.d, .string a.x.a, .int .u64 (a.x.n : Int)], .string s, .int .u64 (n : Int)] W fun e w' => e = .returned (.bool (kKnows a s n)) ∧ Keep0 W w') := by
          intro W K s n hs hn
          have := V.knows W ao ca a okA (hA.keep0 K) s n hs hn
          rwa [eA, Bool.true_and] at this
        have yab := fun W (K : Keep0 w4 W) => V.covers W ao bo ca cb a b okA okB (hA.keep0 K) (hB.keep0 K)
        have yaa := fun W (K : Keep0 w4 W) => V.covers W ao ao ca ca a a okA okA (hA.keep0 K) (hA.keep0 K)
        have ybc := fun W (K : Keep0 w4 W) => V.covers W bo co cb cc b c okB okC (hB.keep0 K) (hC.keep0 K)
        have yac := fun W (K : Keep0 w4 W) => V.covers W ao co ca cc a c okA okC (hA.keep0 K) (hC.keep0 K)
        have eab : kRight a b = true := by unfold kRight; rw [eA, eB]; rfl
        have eaa : kRight a a = true := by unfold kRight; rw [eA]; rfl
        have ebc : kRight b c = true := by unfold kRight; rw [eB, eC]; rfl
        have eac : kRight a c = true := by unfold kRight; rw [eA, eC]; rfl
        rw [eab, Bool.true_and] at yab
        rw [eaa, Bool.true_and, covers_refl rA] at yaa
        rw [ebc, Bool.true_and] at ybc
        rw [eac, Bool.true_and] at yac
        have HT : Hid (kCovers a b = true → kCovers b c = true → kCovers a c = true) := fun h1 h2 => covers_trans rB rC h1 h2
        have HAll : Hid (kCovers a b = ((!b.d || kKnows a b.x.a b.x.n) && allTo a b.c)) := covers_all
        have HFB : Hid (FitsK b) := fb
        have HB0 : Hid (EnsAt w4 bo b.c) := hB
        have hb8 := HQB.out.1
        have hbl : (b.c.length : Int) ≤ 9223372036854775807 := by omega
        have HX : Hid (ClkAt w4 gA 0 a ao ca ∧ ClkAt w4 (gA + 1) 0 b bo cb ∧ ClkAt w4 (gA + 1 + 1) 0 c co cc) := ⟨hXA, hXB, hXC⟩
        have HK4 : Hid (Keep0 w w4) := Kw4
        have HY1 : Hid (∀ W, Keep0 w4 W → Calls Try.prog 16 #[.agg #[.slice ao a.c.length ca, .bool a.d, .string a.x.a, .int .u64 (a.x.n : Int)], .agg #[.slice bo b.c.length cb, .bool b.d, .string b.x.a, .int .u64 (b.x.n : Int)]] W fun e w' => e = .returned (.bool (kCovers a b)) ∧ Keep0 W w') := yab
        have HY2 : Hid (∀ W, Keep0 w4 W → Calls Try.prog 16 #[.agg #[.slice ao a.c.length ca, .bool a.d, .string a.x.a, .int .u64 (a.x.n : Int)], .agg #[.slice ao a.c.length ca, .bool a.d, .string a.x.a, .int .u64 (a.x.n : Int)]] W fun e w' => e = .returned (.bool true) ∧ Keep0 W w') := yaa
        have HY3 : Hid (∀ W, Keep0 w4 W → Calls Try.prog 16 #[.agg #[.slice bo b.c.length cb, .bool b.d, .string b.x.a, .int .u64 (b.x.n : Int)], .agg #[.slice co c.c.length cc, .bool c.d, .string c.x.a, .int .u64 (c.x.n : Int)]] W fun e w' => e = .returned (.bool (kCovers b c)) ∧ Keep0 W w') := ybc
        have HY4 : Hid (∀ W, Keep0 w4 W → Calls Try.prog 16 #[.agg #[.slice ao a.c.length ca, .bool a.d, .string a.x.a, .int .u64 (a.x.n : Int)], .agg #[.slice co c.c.length cc, .bool c.d, .string c.x.a, .int .u64 (c.x.n : Int)]] W fun e w' => e = .returned (.bool (kCovers a c)) ∧ Keep0 W w') := yac
        clear eA eB eC eab eaa ebc eac rA rB rC okA okB okC fa fb fc hA hB hC hXA hXB hXC Kw4 yab yaa ybc yac
        go_wp2_with fail
        go_loopw [7, 8] (fun u i wr => ∃ (k : Nat) (p : Bool), i = .int .i64 (k : Int) ∧ u = .bool p ∧ k ≤ b.c.length ∧ Hid (allTo a (b.c.take k) = p) ∧ Keep0 w4 wr) (fun _ i _ => b.c.length - (intOf i).toNat)
        case atStart => exact ⟨0, true, rfl, rfl, by omega, rfl, Keep.refl _ _⟩
        case round =>
          obtain ⟨k, p, rfl, rfl, hk, HP, hK⟩ := hrel
          obtain ⟨hXA, hXB, hXC⟩ := HX.out
          obtain ⟨cA0, cA1, cA2, cA3⟩ := hXA.keep0 hK
          obtain ⟨cB0, cB1, cB2, cB3⟩ := hXB.keep0 hK
          obtain ⟨cC0, cC1, cC2, cC3⟩ := hXC.keep0 hK
          clear hXA hXB hXC
          by_cases hlt : k < b.c.length
          · have i1 : (k : Int) < b.c.length := by omega
            obtain ⟨eb, eoff, hbo, p0, p1⟩ := HB0.out k hlt
            subst hbo
            have h40 := HQB.out.2.2 b.c[k] (List.getElem_mem hlt)
            have hsz := (HFB.out.vec.2 b.c[k] (List.getElem_mem hlt)).1
            have HT1 : Hid (allTo a (b.c.take (k + 1)) = (allTo a (b.c.take k) && kAll a b.c[k].a b.c[k].n)) := allTo_take hlt
            have HE0 : Hid (w4.cell? ⟨eb, eoff + k * 2, none⟩ = some (.string b.c[k].a) ∧ w4.cell? ⟨eb, eoff + k * 2 + 1, none⟩ = some (.int .u64 (b.c[k].n : Int))) := ⟨p0, p1⟩
            have HKp : Hid (Keep0 w4 wr) := hK
            generalize b.c[k] = y at *
            clear p0 p1 hK
            go_wp2_with fail
            generalize hw5 : wr = w5 at *
            clear hw5
            go_loopw [7, 9] (fun u i wr => ∃ (m m1 : Nat) (q : Bool), i = .int .u64 (m1 : Int) ∧ Hid (m + 1 = m1) ∧ u = .bool q ∧ m ≤ y.n ∧ Hid ((p && kAll a y.a m) = q) ∧ Keep0 w4 wr) (fun _ i _ => y.n + 1 - (intOf i).toNat)
            case atStart => exact ⟨0, 1, p, rfl, rfl, rfl, by omega, by show (p && true) = p; rw [Bool.and_true], HKp.out⟩
            case round =>
              obtain ⟨m, m1, q, rfl, Hm1, rfl, hm, HM, hK⟩ := hrel
              have hm1 := Hm1.out
              clear cA0 cA1 cA2 cA3 cB0 cB1 cB2 cB3 cC0 cC1 cC2 cC3 HKp
              obtain ⟨hXA, hXB, hXC⟩ := HX.out
              obtain ⟨cA0, cA1, cA2, cA3⟩ := hXA.keep0 hK
              obtain ⟨cB0, cB1, cB2, cB3⟩ := hXB.keep0 hK
              have e0 := hK.cell HE0.out.1 (fun f => f)
              have e1 := hK.cell HE0.out.2 (fun f => f)
              clear hXA hXB hXC
              by_cases hmt : m1 ≤ y.n
              · have i2 : (m1 : Int) ≤ (y.n : Int) := by omega
                have yk := fun W (K : Keep0 wr W) => HKn.out W (hK.trans K) y.a m1 hsz (by omega)
                have HM2 : Hid ((p && kAll a y.a m1) = (q && kKnows a y.a m1)) := by
                  show _ = _
                  rw [← hm1, kAll_succ, ← Bool.and_assoc, HM.out]
                obtain ⟨m2, hm2⟩ : ∃ m2, m1 + 1 = m2 := ⟨_, rfl⟩
                have i4 : (m1 : Int) + 1 = (m2 : Int) := by omega
                have i5 : IntKind.u64.wrap (m2 : Int) = (m2 : Int) := by rw [IntKind.wrap_u64]; omega
                have Hm2 : Hid (m1 + 1 = m2) := hm2
                have hm1y : m1 ≤ y.n := by omega
                have hlt2 : Hid (y.n + 1 - m2 < y.n + 1 - m1) := by show _ < _; omega
                clear hm1 hm2 hmt Hm1 h40
                generalize (y.n : Int) = YN at *
                generalize kKnows a y.a m1 = KN at *
                cases q with
                | true =>
                  have HM3 : Hid ((p && kAll a y.a m1) = KN) := by have := HM2.out; rwa [Bool.true_and] at this
                  clear HM HM2
                  go_wp2_with fail
                  refine wp_region_held_drew (S := (fun W => W.cell? ⟨gA, 0, none⟩ = some (.slice ao a.c.length ca) ∧ W.cell? ⟨gA, 0 + 1, none⟩ = some (.bool a.d) ∧ W.cell? ⟨gA, 0 + 2, none⟩ = some (.string a.x.a) ∧ W.cell? ⟨gA, 0 + 3, none⟩ = some (.int .u64 (a.x.n : Int)) ∧ W.cell? ⟨gA + 1, 0, none⟩ = some (.slice (some ⟨eb, eoff, none⟩) b.c.length cb) ∧ W.cell? ⟨eb, eoff + k * 2, none⟩ = some (.string y.a) ∧ W.cell? ⟨eb, eoff + k * 2 + 1, none⟩ = some (.int .u64 YN))) (by kernel_rfl) ⟨cA0, cA1, cA2, cA3, cB0, e0, e1⟩ (fun hHeld => ?_)
                  refine wpAnyH_take (i := 0) (v := ?ra0v) (by simp only [List.getElem?_toArray, List.getElem?_cons_zero] <;> rfl) (by kernel_rfl) (by kernel_rfl) (by kernel_rfl) (by exact fun _ _ _ h => h) (Or.inl ⟨by rfl, ?ra0y⟩) hHeld ?ra0r
                  case ra0y => intro w hSw; (try dsimp only at hSw); go_simp <;> rfl
                  simp only [Act.put, List.setIfInBounds_toArray, List.set_cons_zero, List.set_cons_succ]
                  refine wpAnyH_take (i := 1) (v := ?ra1v) (by simp only [List.getElem?_toArray, List.getElem?_cons_succ, List.getElem?_cons_zero] <;> rfl) (by kernel_rfl) (by kernel_rfl) (by kernel_rfl) (by exact fun _ _ _ h => h) (Or.inl ⟨by rfl, ?ra1y⟩) hHeld ?ra1r
                  case ra1y => intro w hSw; (try dsimp only at hSw); go_simp <;> rfl
                  simp only [Act.put, List.setIfInBounds_toArray, List.set_cons_zero, List.set_cons_succ]
                  refine wpAnyH_take (i := 2) (v := ?ra2v) (by simp only [List.getElem?_toArray, List.getElem?_cons_succ, List.getElem?_cons_zero] <;> rfl) (by kernel_rfl) (by kernel_rfl) (by kernel_rfl) (by exact fun _ _ _ h => h) (Or.inl ⟨by rfl, ?ra2y⟩) hHeld ?ra2r
                  case ra2y => intro w hSw; (try dsimp only at hSw); go_simp <;> rfl
                  simp only [Act.put, List.setIfInBounds_toArray, List.set_cons_zero, List.set_cons_succ]
                  refine wpAnyH_take (i := 3) (v := ?ra3v) (by simp only [List.getElem?_toArray, List.getElem?_cons_succ, List.getElem?_cons_zero] <;> rfl) (by kernel_rfl) (by kernel_rfl) (by kernel_rfl) (by exact fun _ _ _ h => h) (Or.inl ⟨by rfl, ?ra3y⟩) hHeld ?ra3r
                  case ra3y => intro w hSw; (try dsimp only at hSw); go_simp <;> rfl
                  simp only [Act.put, List.setIfInBounds_toArray, List.set_cons_zero, List.set_cons_succ]
                  refine wpAnyH_take (i := 4) (v := ?ra4v) (by simp only [List.getElem?_toArray, List.getElem?_cons_succ, List.getElem?_cons_zero] <;> rfl) (by kernel_rfl) (by kernel_rfl) (by kernel_rfl) (by exact fun _ _ _ h => h) (Or.inl ⟨by rfl, ?ra4y⟩) hHeld ?ra4r
                  case ra4y => intro w hSw; (try dsimp only at hSw); go_simp <;> rfl
                  simp only [Act.put, List.setIfInBounds_toArray, List.set_cons_zero, List.set_cons_succ]
                  refine wpAnyH_take (i := 5) (v := ?ra5v) (by simp only [List.getElem?_toArray, List.getElem?_cons_succ, List.getElem?_cons_zero] <;> rfl) (by kernel_rfl) (by kernel_rfl) (by kernel_rfl) (by exact fun _ _ _ h => h) (Or.inl ⟨by rfl, ?ra5y⟩) hHeld ?ra5r
                  case ra5y => intro w hSw; (try dsimp only at hSw); go_simp <;> rfl
                  simp only [Act.put, List.setIfInBounds_toArray, List.set_cons_zero, List.set_cons_succ]
                  refine wpAnyH_take (i := 6) (v := ?ra6v) (by simp only [List.getElem?_toArray, List.getElem?_cons_succ, List.getElem?_cons_zero] <;> rfl) (by kernel_rfl) (by kernel_rfl) (by kernel_rfl) (by exact fun _ _ _ h => h) (Or.inl ⟨by rfl, ?ra6y⟩) hHeld ?ra6r
                  case ra6y => intro w hSw; (try dsimp only at hSw); go_simp <;> rfl
                  simp only [Act.put, List.setIfInBounds_toArray, List.set_cons_zero, List.set_cons_succ]
                  refine wpAnyH_take (i := 7) (v := ?ra7v) (by simp only [List.getElem?_toArray, List.getElem?_cons_succ, List.getElem?_cons_zero] <;> rfl) (by kernel_rfl) (by kernel_rfl) (by kernel_rfl) (by exact fun _ _ _ h => h) (Or.inl ⟨by rfl, ?ra7y⟩) hHeld ?ra7r
                  case ra7y => intro w hSw; (try dsimp only at hSw); go_simp <;> rfl
                  simp only [Act.put, List.setIfInBounds_toArray, List.set_cons_zero, List.set_cons_succ]
                  refine wpAnyH_take (i := 8) (v := ?ra8v) (by simp only [List.getElem?_toArray, List.getElem?_cons_succ, List.getElem?_cons_zero] <;> rfl) (by kernel_rfl) (by kernel_rfl) (by kernel_rfl) (by exact fun _ _ _ h => h) (Or.inl ⟨by rfl, ?ra8y⟩) hHeld ?ra8r
                  case ra8y => intro w hSw; (try dsimp only at hSw); go_simp <;> rfl
                  simp only [Act.put, List.setIfInBounds_toArray, List.set_cons_zero, List.set_cons_succ]
                  refine wpAnyH_take (i := 9) (v := ?ra9v) (by simp only [List.getElem?_toArray, List.getElem?_cons_succ, List.getElem?_cons_zero] <;> rfl) (by kernel_rfl) (by kernel_rfl) (by kernel_rfl) (by exact fun _ _ _ h => h) (Or.inl ⟨by rfl, ?ra9y⟩) hHeld ?ra9r
                  case ra9y => intro w hSw; (try dsimp only at hSw); go_simp <;> rfl
                  simp only [Act.put, List.setIfInBounds_toArray, List.set_cons_zero, List.set_cons_succ]
                  refine wpAnyH_ready (rs := [10]) (by kernel_rfl) (by simp) ?_
                  refine AllReadyH.cons (by simp only [List.getElem?_toArray, List.getElem?_cons_succ, List.getElem?_cons_zero] <;> rfl) (fun K hK => ?_) AllReadyH.nil
                  go_simp
                  refine (yk _ (Keep.refl _ _).drew).mono ?_
                  rintro e w8 ⟨rfl, kx⟩
                  have k8 : Keep0 wr w8 := ((Keep.refl _ wr).drew).trans kx
                  clear kx
                  go_wp2_with fail
                  refine hK.out _ _ ⟨k8.cell cA0 (fun f => f), k8.cell cA1 (fun f => f), k8.cell cA2 (fun f => f), k8.cell cA3 (fun f => f), k8.cell cB0 (fun f => f), k8.cell e0 (fun f => f), k8.cell e1 (fun f => f)⟩ (fun hHeld => ?_)
                  clear hK K
                  refine wpAnyH_take (i := 11) (v := ?ra10v) (by simp only [List.getElem?_toArray, List.getElem?_cons_succ, List.getElem?_cons_zero] <;> rfl) (by kernel_rfl) (by kernel_rfl) (by kernel_rfl) (by exact fun _ _ _ h => h) (Or.inl ⟨by rfl, ?ra10y⟩) hHeld ?ra10r
                  case ra10y => intro w hSw; (try dsimp only at hSw); go_simp <;> rfl
                  simp only [Act.put, List.setIfInBounds_toArray, List.set_cons_zero, List.set_cons_succ]
                  refine wpAnyH_take (i := 12) (v := ?ra11v) (by simp only [List.getElem?_toArray, List.getElem?_cons_succ, List.getElem?_cons_zero] <;> rfl) (by kernel_rfl) (by kernel_rfl) (by kernel_rfl) (by exact fun _ _ _ h => h) (Or.inl ⟨by rfl, ?ra11y⟩) hHeld ?ra11r
                  case ra11y => intro w hSw; (try dsimp only at hSw); go_simp <;> rfl
                  simp only [Act.put, List.setIfInBounds_toArray, List.set_cons_zero, List.set_cons_succ]
                  refine wpAnyH_done (by kernel_rfl) ?_ _
                  have KD := hK.trans k8
                  clear hHeld hK k8 yk cA0 cA1 cA2 cA3 cB0 cB1 cB2 cB3 e0 e1
                  go_wp2
                  go_roundw
                  case rel => exact ⟨m1, m2, KN, by first | rfl | simp [i4, i5], Hm2, rfl, hm1y, HM3, KD⟩
                  case measure => first | exact hlt2.out | (simp [intOf]; have := hlt2.out; omega)
                | false =>
                  have HM3 : Hid ((p && kAll a y.a m1) = false) := by have := HM2.out; rwa [Bool.false_and] at this
                  clear HM HM2 yk
                  go_wp2_with fail
                  refine wp_region_held_drew (S := (fun _ => True)) (by kernel_rfl) trivial (fun hHeld => ?_)
                  refine wpAnyH_take (i := 0) (v := ?rb0v) (by simp only [List.getElem?_toArray, List.getElem?_cons_zero] <;> rfl) (by kernel_rfl) (by kernel_rfl) (by kernel_rfl) (by exact fun _ _ _ h => h) (Or.inl ⟨by rfl, ?rb0y⟩) hHeld ?rb0r
                  case rb0y => intro w hSw; (try dsimp only at hSw); go_simp <;> rfl
                  simp only [Act.put, List.setIfInBounds_toArray, List.set_cons_zero, List.set_cons_succ]
                  refine wpAnyH_take (i := 1) (v := ?rb1v) (by simp only [List.getElem?_toArray, List.getElem?_cons_succ, List.getElem?_cons_zero] <;> rfl) (by kernel_rfl) (by kernel_rfl) (by kernel_rfl) (by exact fun _ _ _ h => h) (Or.inl ⟨by rfl, ?rb1y⟩) hHeld ?rb1r
                  case rb1y => intro w hSw; (try dsimp only at hSw); go_simp <;> rfl
                  simp only [Act.put, List.setIfInBounds_toArray, List.set_cons_zero, List.set_cons_succ]
                  refine wpAnyH_take (i := 2) (v := undef) (by simp only [List.getElem?_toArray, List.getElem?_cons_succ, List.getElem?_cons_zero] <;> rfl) (by kernel_rfl) (by kernel_rfl) (by kernel_rfl) (by exact fun _ _ _ h => h) (Or.inr ⟨by rfl, rfl⟩) hHeld ?rb2r
                  simp only [Act.put, List.setIfInBounds_toArray, List.set_cons_zero, List.set_cons_succ]
                  refine wpAnyH_take (i := 3) (v := undef) (by simp only [List.getElem?_toArray, List.getElem?_cons_succ, List.getElem?_cons_zero] <;> rfl) (by kernel_rfl) (by kernel_rfl) (by kernel_rfl) (by exact fun _ _ _ h => h) (Or.inr ⟨by rfl, rfl⟩) hHeld ?rb3r
                  simp only [Act.put, List.setIfInBounds_toArray, List.set_cons_zero, List.set_cons_succ]
                  refine wpAnyH_take (i := 4) (v := undef) (by simp only [List.getElem?_toArray, List.getElem?_cons_succ, List.getElem?_cons_zero] <;> rfl) (by kernel_rfl) (by kernel_rfl) (by kernel_rfl) (by exact fun _ _ _ h => h) (Or.inr ⟨by rfl, rfl⟩) hHeld ?rb4r
                  simp only [Act.put, List.setIfInBounds_toArray, List.set_cons_zero, List.set_cons_succ]
                  refine wpAnyH_take (i := 5) (v := undef) (by simp only [List.getElem?_toArray, List.getElem?_cons_succ, List.getElem?_cons_zero] <;> rfl) (by kernel_rfl) (by kernel_rfl) (by kernel_rfl) (by exact fun _ _ _ h => h) (Or.inr ⟨by rfl, rfl⟩) hHeld ?rb5r
                  simp only [Act.put, List.setIfInBounds_toArray, List.set_cons_zero, List.set_cons_succ]
                  refine wpAnyH_take (i := 6) (v := undef) (by simp only [List.getElem?_toArray, List.getElem?_cons_succ, List.getElem?_cons_zero] <;> rfl) (by kernel_rfl) (by kernel_rfl) (by kernel_rfl) (by exact fun _ _ _ h => h) (Or.inr ⟨by rfl, rfl⟩) hHeld ?rb6r
                  simp only [Act.put, List.setIfInBounds_toArray, List.set_cons_zero, List.set_cons_succ]
                  refine wpAnyH_take (i := 7) (v := undef) (by simp only [List.getElem?_toArray, List.getElem?_cons_succ, List.getElem?_cons_zero] <;> rfl) (by kernel_rfl) (by kernel_rfl) (by kernel_rfl) (by exact fun _ _ _ h => h) (Or.inr ⟨by rfl, rfl⟩) hHeld ?rb7r
                  simp only [Act.put, List.setIfInBounds_toArray, List.set_cons_zero, List.set_cons_succ]
                  refine wpAnyH_take (i := 8) (v := undef) (by simp only [List.getElem?_toArray, List.getElem?_cons_succ, List.getElem?_cons_zero] <;> rfl) (by kernel_rfl) (by kernel_rfl) (by kernel_rfl) (by exact fun _ _ _ h => h) (Or.inr ⟨by rfl, rfl⟩) hHeld ?rb8r
                  simp only [Act.put, List.setIfInBounds_toArray, List.set_cons_zero, List.set_cons_succ]
                  refine wpAnyH_take (i := 9) (v := undef) (by simp only [List.getElem?_toArray, List.getElem?_cons_succ, List.getElem?_cons_zero] <;> rfl) (by kernel_rfl) (by kernel_rfl) (by kernel_rfl) (by exact fun _ _ _ h => h) (Or.inr ⟨by rfl, rfl⟩) hHeld ?rb9r
                  simp only [Act.put, List.setIfInBounds_toArray, List.set_cons_zero, List.set_cons_succ]
                  refine wpAnyH_take (i := 10) (v := undef) (by simp only [List.getElem?_toArray, List.getElem?_cons_succ, List.getElem?_cons_zero] <;> rfl) (by kernel_rfl) (by kernel_rfl) (by kernel_rfl) (by exact fun _ _ _ h => h) (Or.inr ⟨by rfl, rfl⟩) hHeld ?rb10r
                  simp only [Act.put, List.setIfInBounds_toArray, List.set_cons_zero, List.set_cons_succ]
                  refine wpAnyH_take (i := 11) (v := ?rb11v) (by simp only [List.getElem?_toArray, List.getElem?_cons_succ, List.getElem?_cons_zero] <;> rfl) (by kernel_rfl) (by kernel_rfl) (by kernel_rfl) (by exact fun _ _ _ h => h) (Or.inl ⟨by rfl, ?rb11y⟩) hHeld ?rb11r
                  case rb11y => intro w hSw; (try dsimp only at hSw); go_simp <;> rfl
                  simp only [Act.put, List.setIfInBounds_toArray, List.set_cons_zero, List.set_cons_succ]
                  refine wpAnyH_take (i := 12) (v := ?rb12v) (by simp only [List.getElem?_toArray, List.getElem?_cons_succ, List.getElem?_cons_zero] <;> rfl) (by kernel_rfl) (by kernel_rfl) (by kernel_rfl) (by exact fun _ _ _ h => h) (Or.inl ⟨by rfl, ?rb12y⟩) hHeld ?rb12r
                  case rb12y => intro w hSw; (try dsimp only at hSw); go_simp <;> rfl
                  simp only [Act.put, List.setIfInBounds_toArray, List.set_cons_zero, List.set_cons_succ]
                  refine wpAnyH_done (by kernel_rfl) ?_ _
                  have KD : Keep0 w4 wr.drew := hK.drew
                  clear hHeld hK cA0 cA1 cA2 cA3 cB0 cB1 cB2 cB3 e0 e1
                  go_wp2
                  go_roundw
                  case rel => exact ⟨m1, m2, false, by first | rfl | simp [i4, i5], Hm2, rfl, hm1y, HM3, KD⟩
                  case measure => first | exact hlt2.out | (simp [intOf]; have := hlt2.out; omega)
              · have i2 : ¬ (m1 : Int) ≤ (y.n : Int) := by omega
                have em : m = y.n := by omega
                have HP2 : Hid (allTo a (b.c.take (k + 1)) = q) := by
                  show _ = q
                  rw [HT1.out, HP.out, ← em]
                  exact HM.out
                clear HM em e0 hm1 Hm1
                generalize (y.n : Int) = YN at *
                generalize (m1 : Int) = MM at *
                go_wp2
                go_roundw
                case rel => exact ⟨k + 1, q, by go_num, rfl, by omega, HP2, hK⟩
                case measure => simp [intOf]; omega
          · have i1 : ¬ (k : Int) < b.c.length := by omega
            have hp := HP.out
            rw [List.take_of_length_le (by omega)] at hp
            have hall := HAll.out
            rw [hp] at hall
            have HA2 : Hid (kCovers a b = ((!b.d || kKnows a b.x.a b.x.n) && p)) := hall
            have yk := HKn.out wr hK b.x.a b.x.n HFB.out.dot HFB.out.num
            clear HP hp hall HAll
            cases hd : b.d with
            | false =>
              have ha2 := HA2.out
              rw [hd] at ha2
              rw [hd] at cB1
              have HA2 : Hid (kCovers a b = p) := by show _ = p; rw [ha2]; simp
              clear ha2 yk
              cases p with
              | false =>
                have hab : kCovers a b = false := HA2.out
                clear HT HA2
                have yv1 := HY1.out
                have yv2 := HY2.out
                have yv3 := HY3.out
                have yv4 := HY4.out
                rw [hab, hd] at yv1
                rw [hd] at yv3
                clear HY1 HY2 HY3 HY4 hab hd
                go_wp2_with fail
                refine (yv1 wr hK).mono ?_
                rintro e v1 ⟨rfl, k⟩
                replace cA0 := k.cell cA0 (fun f => f)
                replace cA1 := k.cell cA1 (fun f => f)
                replace cA2 := k.cell cA2 (fun f => f)
                replace cA3 := k.cell cA3 (fun f => f)
                replace cB0 := k.cell cB0 (fun f => f)
                replace cB1 := k.cell cB1 (fun f => f)
                replace cB2 := k.cell cB2 (fun f => f)
                replace cB3 := k.cell cB3 (fun f => f)
                replace cC0 := k.cell cC0 (fun f => f)
                replace cC1 := k.cell cC1 (fun f => f)
                replace cC2 := k.cell cC2 (fun f => f)
                replace cC3 := k.cell cC3 (fun f => f)
                have Kv1 := (hK).trans k
                clear k hK
                go_wp2_with fail
                refine (yv2 v1 Kv1).mono ?_
                rintro e v2 ⟨rfl, k⟩
                replace cA0 := k.cell cA0 (fun f => f)
                replace cA1 := k.cell cA1 (fun f => f)
                replace cA2 := k.cell cA2 (fun f => f)
                replace cA3 := k.cell cA3 (fun f => f)
                replace cB0 := k.cell cB0 (fun f => f)
                replace cB1 := k.cell cB1 (fun f => f)
                replace cB2 := k.cell cB2 (fun f => f)
                replace cB3 := k.cell cB3 (fun f => f)
                replace cC0 := k.cell cC0 (fun f => f)
                replace cC1 := k.cell cC1 (fun f => f)
                replace cC2 := k.cell cC2 (fun f => f)
                replace cC3 := k.cell cC3 (fun f => f)
                have Kv2 := (Kv1).trans k
                clear k Kv1
                go_wp2_with fail
                refine (yv1 v2 Kv2).mono ?_
                rintro e v3 ⟨rfl, k⟩
                replace cA0 := k.cell cA0 (fun f => f)
                replace cA1 := k.cell cA1 (fun f => f)
                replace cA2 := k.cell cA2 (fun f => f)
                replace cA3 := k.cell cA3 (fun f => f)
                replace cB0 := k.cell cB0 (fun f => f)
                replace cB1 := k.cell cB1 (fun f => f)
                replace cB2 := k.cell cB2 (fun f => f)
                replace cB3 := k.cell cB3 (fun f => f)
                replace cC0 := k.cell cC0 (fun f => f)
                replace cC1 := k.cell cC1 (fun f => f)
                replace cC2 := k.cell cC2 (fun f => f)
                replace cC3 := k.cell cC3 (fun f => f)
                have Kv3 := (Kv2).trans k
                clear k Kv2
                have KF := HK4.out.trans Kv3
                go_wp2
                go_ret
                exact ⟨rfl, KF⟩
              | true =>
                have hab : kCovers a b = true := HA2.out
                have HT2 : Hid (kCovers b c = true → kCovers a c = true) := fun h => HT.out hab h
                clear HT HA2
                have yv1 := HY1.out
                have yv2 := HY2.out
                have yv3 := HY3.out
                have yv4 := HY4.out
                rw [hab, hd] at yv1
                rw [hd] at yv3
                clear HY1 HY2 HY3 HY4 hab hd
                cases hbc : kCovers b c with
                | false =>
                  rw [hbc] at yv3
                  clear hbc
                  go_wp2_with fail
                  refine (yv1 wr hK).mono ?_
                  rintro e v1 ⟨rfl, k⟩
                  replace cA0 := k.cell cA0 (fun f => f)
                  replace cA1 := k.cell cA1 (fun f => f)
                  replace cA2 := k.cell cA2 (fun f => f)
                  replace cA3 := k.cell cA3 (fun f => f)
                  replace cB0 := k.cell cB0 (fun f => f)
                  replace cB1 := k.cell cB1 (fun f => f)
                  replace cB2 := k.cell cB2 (fun f => f)
                  replace cB3 := k.cell cB3 (fun f => f)
                  replace cC0 := k.cell cC0 (fun f => f)
                  replace cC1 := k.cell cC1 (fun f => f)
                  replace cC2 := k.cell cC2 (fun f => f)
                  replace cC3 := k.cell cC3 (fun f => f)
                  have Kv1 := (hK).trans k
                  clear k hK
                  go_wp2_with fail
                  refine (yv2 v1 Kv1).mono ?_
                  rintro e v2 ⟨rfl, k⟩
                  replace cA0 := k.cell cA0 (fun f => f)
                  replace cA1 := k.cell cA1 (fun f => f)
                  replace cA2 := k.cell cA2 (fun f => f)
                  replace cA3 := k.cell cA3 (fun f => f)
                  replace cB0 := k.cell cB0 (fun f => f)
                  replace cB1 := k.cell cB1 (fun f => f)
                  replace cB2 := k.cell cB2 (fun f => f)
                  replace cB3 := k.cell cB3 (fun f => f)
                  replace cC0 := k.cell cC0 (fun f => f)
                  replace cC1 := k.cell cC1 (fun f => f)
                  replace cC2 := k.cell cC2 (fun f => f)
                  replace cC3 := k.cell cC3 (fun f => f)
                  have Kv2 := (Kv1).trans k
                  clear k Kv1
                  go_wp2_with fail
                  refine (yv1 v2 Kv2).mono ?_
                  rintro e v3 ⟨rfl, k⟩
                  replace cA0 := k.cell cA0 (fun f => f)
                  replace cA1 := k.cell cA1 (fun f => f)
                  replace cA2 := k.cell cA2 (fun f => f)
                  replace cA3 := k.cell cA3 (fun f => f)
                  replace cB0 := k.cell cB0 (fun f => f)
                  replace cB1 := k.cell cB1 (fun f => f)
                  replace cB2 := k.cell cB2 (fun f => f)
                  replace cB3 := k.cell cB3 (fun f => f)
                  replace cC0 := k.cell cC0 (fun f => f)
                  replace cC1 := k.cell cC1 (fun f => f)
                  replace cC2 := k.cell cC2 (fun f => f)
                  replace cC3 := k.cell cC3 (fun f => f)
                  have Kv3 := (Kv2).trans k
                  clear k Kv2
                  go_wp2_with fail
                  refine (yv3 v3 Kv3).mono ?_
                  rintro e v4 ⟨rfl, k⟩
                  replace cA0 := k.cell cA0 (fun f => f)
                  replace cA1 := k.cell cA1 (fun f => f)
                  replace cA2 := k.cell cA2 (fun f => f)
                  replace cA3 := k.cell cA3 (fun f => f)
                  replace cB0 := k.cell cB0 (fun f => f)
                  replace cB1 := k.cell cB1 (fun f => f)
                  replace cB2 := k.cell cB2 (fun f => f)
                  replace cB3 := k.cell cB3 (fun f => f)
                  replace cC0 := k.cell cC0 (fun f => f)
                  replace cC1 := k.cell cC1 (fun f => f)
                  replace cC2 := k.cell cC2 (fun f => f)
                  replace cC3 := k.cell cC3 (fun f => f)
                  have Kv4 := (Kv3).trans k
                  clear k Kv3
                  have KF := HK4.out.trans Kv4
                  go_wp2
                  go_ret
                  exact ⟨rfl, KF⟩
                | true =>
                  rw [hbc] at yv3
                  rw [HT2.out hbc] at yv4
                  clear hbc
                  go_wp2_with fail
                  refine (yv1 wr hK).mono ?_
                  rintro e v1 ⟨rfl, k⟩
                  replace cA0 := k.cell cA0 (fun f => f)
                  replace cA1 := k.cell cA1 (fun f => f)
                  replace cA2 := k.cell cA2 (fun f => f)
                  replace cA3 := k.cell cA3 (fun f => f)
                  replace cB0 := k.cell cB0 (fun f => f)
                  replace cB1 := k.cell cB1 (fun f => f)
                  replace cB2 := k.cell cB2 (fun f => f)
                  replace cB3 := k.cell cB3 (fun f => f)
                  replace cC0 := k.cell cC0 (fun f => f)
                  replace cC1 := k.cell cC1 (fun f => f)
                  replace cC2 := k.cell cC2 (fun f => f)
                  replace cC3 := k.cell cC3 (fun f => f)
                  have Kv1 := (hK).trans k
                  clear k hK
                  go_wp2_with fail
                  refine (yv2 v1 Kv1).mono ?_
                  rintro e v2 ⟨rfl, k⟩
                  replace cA0 := k.cell cA0 (fun f => f)
                  replace cA1 := k.cell cA1 (fun f => f)
                  replace cA2 := k.cell cA2 (fun f => f)
                  replace cA3 := k.cell cA3 (fun f => f)
                  replace cB0 := k.cell cB0 (fun f => f)
                  replace cB1 := k.cell cB1 (fun f => f)
                  replace cB2 := k.cell cB2 (fun f => f)
                  replace cB3 := k.cell cB3 (fun f => f)
                  replace cC0 := k.cell cC0 (fun f => f)
                  replace cC1 := k.cell cC1 (fun f => f)
                  replace cC2 := k.cell cC2 (fun f => f)
                  replace cC3 := k.cell cC3 (fun f => f)
                  have Kv2 := (Kv1).trans k
                  clear k Kv1
                  go_wp2_with fail
                  refine (yv1 v2 Kv2).mono ?_
                  rintro e v3 ⟨rfl, k⟩
                  replace cA0 := k.cell cA0 (fun f => f)
                  replace cA1 := k.cell cA1 (fun f => f)
                  replace cA2 := k.cell cA2 (fun f => f)
                  replace cA3 := k.cell cA3 (fun f => f)
                  replace cB0 := k.cell cB0 (fun f => f)
                  replace cB1 := k.cell cB1 (fun f => f)
                  replace cB2 := k.cell cB2 (fun f => f)
                  replace cB3 := k.cell cB3 (fun f => f)
                  replace cC0 := k.cell cC0 (fun f => f)
                  replace cC1 := k.cell cC1 (fun f => f)
                  replace cC2 := k.cell cC2 (fun f => f)
                  replace cC3 := k.cell cC3 (fun f => f)
                  have Kv3 := (Kv2).trans k
                  clear k Kv2
                  go_wp2_with fail
                  refine (yv3 v3 Kv3).mono ?_
                  rintro e v4 ⟨rfl, k⟩
                  replace cA0 := k.cell cA0 (fun f => f)
                  replace cA1 := k.cell cA1 (fun f => f)
                  replace cA2 := k.cell cA2 (fun f => f)
                  replace cA3 := k.cell cA3 (fun f => f)
                  replace cB0 := k.cell cB0 (fun f => f)
                  replace cB1 := k.cell cB1 (fun f => f)
                  replace cB2 := k.cell cB2 (fun f => f)
                  replace cB3 := k.cell cB3 (fun f => f)
                  replace cC0 := k.cell cC0 (fun f => f)
                  replace cC1 := k.cell cC1 (fun f => f)
                  replace cC2 := k.cell cC2 (fun f => f)
                  replace cC3 := k.cell cC3 (fun f => f)
                  have Kv4 := (Kv3).trans k
                  clear k Kv3
                  go_wp2_with fail
                  refine (yv4 v4 Kv4).mono ?_
                  rintro e v5 ⟨rfl, k⟩
                  replace cA0 := k.cell cA0 (fun f => f)
                  replace cA1 := k.cell cA1 (fun f => f)
                  replace cA2 := k.cell cA2 (fun f => f)
                  replace cA3 := k.cell cA3 (fun f => f)
                  replace cB0 := k.cell cB0 (fun f => f)
                  replace cB1 := k.cell cB1 (fun f => f)
                  replace cB2 := k.cell cB2 (fun f => f)
                  replace cB3 := k.cell cB3 (fun f => f)
                  replace cC0 := k.cell cC0 (fun f => f)
                  replace cC1 := k.cell cC1 (fun f => f)
                  replace cC2 := k.cell cC2 (fun f => f)
                  replace cC3 := k.cell cC3 (fun f => f)
                  have Kv5 := (Kv4).trans k
                  clear k Kv4
                  have KF := HK4.out.trans Kv5
                  go_wp2
                  go_ret
                  exact ⟨rfl, KF⟩
            | true =>
              have ha2 := HA2.out
              rw [hd] at ha2
              rw [hd] at cB1
              cases p with
              | false =>
                have HA2 : Hid (kCovers a b = false) := by show _ = false; rw [ha2]; simp
                clear ha2 yk
                have hab : kCovers a b = false := HA2.out
                clear HT HA2
                have yv1 := HY1.out
                have yv2 := HY2.out
                have yv3 := HY3.out
                have yv4 := HY4.out
                rw [hab, hd] at yv1
                rw [hd] at yv3
                clear HY1 HY2 HY3 HY4 hab hd
                go_wp2_with fail
                refine (yv1 wr hK).mono ?_
                rintro e v1 ⟨rfl, k⟩
                replace cA0 := k.cell cA0 (fun f => f)
                replace cA1 := k.cell cA1 (fun f => f)
                replace cA2 := k.cell cA2 (fun f => f)
                replace cA3 := k.cell cA3 (fun f => f)
                replace cB0 := k.cell cB0 (fun f => f)
                replace cB1 := k.cell cB1 (fun f => f)
                replace cB2 := k.cell cB2 (fun f => f)
                replace cB3 := k.cell cB3 (fun f => f)
                replace cC0 := k.cell cC0 (fun f => f)
                replace cC1 := k.cell cC1 (fun f => f)
                replace cC2 := k.cell cC2 (fun f => f)
                replace cC3 := k.cell cC3 (fun f => f)
                have Kv1 := (hK).trans k
                clear k hK
                go_wp2_with fail
                refine (yv2 v1 Kv1).mono ?_
                rintro e v2 ⟨rfl, k⟩
                replace cA0 := k.cell cA0 (fun f => f)
                replace cA1 := k.cell cA1 (fun f => f)
                replace cA2 := k.cell cA2 (fun f => f)
                replace cA3 := k.cell cA3 (fun f => f)
                replace cB0 := k.cell cB0 (fun f => f)
                replace cB1 := k.cell cB1 (fun f => f)
                replace cB2 := k.cell cB2 (fun f => f)
                replace cB3 := k.cell cB3 (fun f => f)
                replace cC0 := k.cell cC0 (fun f => f)
                replace cC1 := k.cell cC1 (fun f => f)
                replace cC2 := k.cell cC2 (fun f => f)
                replace cC3 := k.cell cC3 (fun f => f)
                have Kv2 := (Kv1).trans k
                clear k Kv1
                go_wp2_with fail
                refine (yv1 v2 Kv2).mono ?_
                rintro e v3 ⟨rfl, k⟩
                replace cA0 := k.cell cA0 (fun f => f)
                replace cA1 := k.cell cA1 (fun f => f)
                replace cA2 := k.cell cA2 (fun f => f)
                replace cA3 := k.cell cA3 (fun f => f)
                replace cB0 := k.cell cB0 (fun f => f)
                replace cB1 := k.cell cB1 (fun f => f)
                replace cB2 := k.cell cB2 (fun f => f)
                replace cB3 := k.cell cB3 (fun f => f)
                replace cC0 := k.cell cC0 (fun f => f)
                replace cC1 := k.cell cC1 (fun f => f)
                replace cC2 := k.cell cC2 (fun f => f)
                replace cC3 := k.cell cC3 (fun f => f)
                have Kv3 := (Kv2).trans k
                clear k Kv2
                have KF := HK4.out.trans Kv3
                go_wp2
                go_ret
                exact ⟨rfl, KF⟩
              | true =>
                cases hkn : kKnows a b.x.a b.x.n with
                | false =>
                  rw [hkn] at yk
                  have HA2 : Hid (kCovers a b = false) := by show _ = false; rw [ha2, hkn]; rfl
                  clear ha2 hkn
                  go_wp2_with fail
                  refine yk.mono ?_
                  rintro e v0 ⟨rfl, k⟩
                  replace cA0 := k.cell cA0 (fun f => f)
                  replace cA1 := k.cell cA1 (fun f => f)
                  replace cA2 := k.cell cA2 (fun f => f)
                  replace cA3 := k.cell cA3 (fun f => f)
                  replace cB0 := k.cell cB0 (fun f => f)
                  replace cB1 := k.cell cB1 (fun f => f)
                  replace cB2 := k.cell cB2 (fun f => f)
                  replace cB3 := k.cell cB3 (fun f => f)
                  replace cC0 := k.cell cC0 (fun f => f)
                  replace cC1 := k.cell cC1 (fun f => f)
                  replace cC2 := k.cell cC2 (fun f => f)
                  replace cC3 := k.cell cC3 (fun f => f)
                  have Kv0 := hK.trans k
                  clear k hK yk
                  have hab : kCovers a b = false := HA2.out
                  clear HT HA2
                  have yv1 := HY1.out
                  have yv2 := HY2.out
                  have yv3 := HY3.out
                  have yv4 := HY4.out
                  rw [hab, hd] at yv1
                  rw [hd] at yv3
                  clear HY1 HY2 HY3 HY4 hab hd
                  go_wp2_with fail
                  refine (yv1 v0 Kv0).mono ?_
                  rintro e v1 ⟨rfl, k⟩
                  replace cA0 := k.cell cA0 (fun f => f)
                  replace cA1 := k.cell cA1 (fun f => f)
                  replace cA2 := k.cell cA2 (fun f => f)
                  replace cA3 := k.cell cA3 (fun f => f)
                  replace cB0 := k.cell cB0 (fun f => f)
                  replace cB1 := k.cell cB1 (fun f => f)
                  replace cB2 := k.cell cB2 (fun f => f)
                  replace cB3 := k.cell cB3 (fun f => f)
                  replace cC0 := k.cell cC0 (fun f => f)
                  replace cC1 := k.cell cC1 (fun f => f)
                  replace cC2 := k.cell cC2 (fun f => f)
                  replace cC3 := k.cell cC3 (fun f => f)
                  have Kv1 := (Kv0).trans k
                  clear k Kv0
                  go_wp2_with fail
                  refine (yv2 v1 Kv1).mono ?_
                  rintro e v2 ⟨rfl, k⟩
                  replace cA0 := k.cell cA0 (fun f => f)
                  replace cA1 := k.cell cA1 (fun f => f)
                  replace cA2 := k.cell cA2 (fun f => f)
                  replace cA3 := k.cell cA3 (fun f => f)
                  replace cB0 := k.cell cB0 (fun f => f)
                  replace cB1 := k.cell cB1 (fun f => f)
                  replace cB2 := k.cell cB2 (fun f => f)
                  replace cB3 := k.cell cB3 (fun f => f)
                  replace cC0 := k.cell cC0 (fun f => f)
                  replace cC1 := k.cell cC1 (fun f => f)
                  replace cC2 := k.cell cC2 (fun f => f)
                  replace cC3 := k.cell cC3 (fun f => f)
                  have Kv2 := (Kv1).trans k
                  clear k Kv1
                  go_wp2_with fail
                  refine (yv1 v2 Kv2).mono ?_
                  rintro e v3 ⟨rfl, k⟩
                  replace cA0 := k.cell cA0 (fun f => f)
                  replace cA1 := k.cell cA1 (fun f => f)
                  replace cA2 := k.cell cA2 (fun f => f)
                  replace cA3 := k.cell cA3 (fun f => f)
                  replace cB0 := k.cell cB0 (fun f => f)
                  replace cB1 := k.cell cB1 (fun f => f)
                  replace cB2 := k.cell cB2 (fun f => f)
                  replace cB3 := k.cell cB3 (fun f => f)
                  replace cC0 := k.cell cC0 (fun f => f)
                  replace cC1 := k.cell cC1 (fun f => f)
                  replace cC2 := k.cell cC2 (fun f => f)
                  replace cC3 := k.cell cC3 (fun f => f)
                  have Kv3 := (Kv2).trans k
                  clear k Kv2
                  have KF := HK4.out.trans Kv3
                  go_wp2
                  go_ret
                  exact ⟨rfl, KF⟩
                | true =>
                  rw [hkn] at yk
                  have HA2 : Hid (kCovers a b = true) := by show _ = true; rw [ha2, hkn]; rfl
                  clear ha2 hkn
                  go_wp2_with fail
                  refine yk.mono ?_
                  rintro e v0 ⟨rfl, k⟩
                  replace cA0 := k.cell cA0 (fun f => f)
                  replace cA1 := k.cell cA1 (fun f => f)
                  replace cA2 := k.cell cA2 (fun f => f)
                  replace cA3 := k.cell cA3 (fun f => f)
                  replace cB0 := k.cell cB0 (fun f => f)
                  replace cB1 := k.cell cB1 (fun f => f)
                  replace cB2 := k.cell cB2 (fun f => f)
                  replace cB3 := k.cell cB3 (fun f => f)
                  replace cC0 := k.cell cC0 (fun f => f)
                  replace cC1 := k.cell cC1 (fun f => f)
                  replace cC2 := k.cell cC2 (fun f => f)
                  replace cC3 := k.cell cC3 (fun f => f)
                  have Kv0 := hK.trans k
                  clear k hK yk
                  have hab : kCovers a b = true := HA2.out
                  have HT2 : Hid (kCovers b c = true → kCovers a c = true) := fun h => HT.out hab h
                  clear HT HA2
                  have yv1 := HY1.out
                  have yv2 := HY2.out
                  have yv3 := HY3.out
                  have yv4 := HY4.out
                  rw [hab, hd] at yv1
                  rw [hd] at yv3
                  clear HY1 HY2 HY3 HY4 hab hd
                  cases hbc : kCovers b c with
                  | false =>
                    rw [hbc] at yv3
                    clear hbc
                    go_wp2_with fail
                    refine (yv1 v0 Kv0).mono ?_
                    rintro e v1 ⟨rfl, k⟩
                    replace cA0 := k.cell cA0 (fun f => f)
                    replace cA1 := k.cell cA1 (fun f => f)
                    replace cA2 := k.cell cA2 (fun f => f)
                    replace cA3 := k.cell cA3 (fun f => f)
                    replace cB0 := k.cell cB0 (fun f => f)
                    replace cB1 := k.cell cB1 (fun f => f)
                    replace cB2 := k.cell cB2 (fun f => f)
                    replace cB3 := k.cell cB3 (fun f => f)
                    replace cC0 := k.cell cC0 (fun f => f)
                    replace cC1 := k.cell cC1 (fun f => f)
                    replace cC2 := k.cell cC2 (fun f => f)
                    replace cC3 := k.cell cC3 (fun f => f)
                    have Kv1 := (Kv0).trans k
                    clear k Kv0
                    go_wp2_with fail
                    refine (yv2 v1 Kv1).mono ?_
                    rintro e v2 ⟨rfl, k⟩
                    replace cA0 := k.cell cA0 (fun f => f)
                    replace cA1 := k.cell cA1 (fun f => f)
                    replace cA2 := k.cell cA2 (fun f => f)
                    replace cA3 := k.cell cA3 (fun f => f)
                    replace cB0 := k.cell cB0 (fun f => f)
                    replace cB1 := k.cell cB1 (fun f => f)
                    replace cB2 := k.cell cB2 (fun f => f)
                    replace cB3 := k.cell cB3 (fun f => f)
                    replace cC0 := k.cell cC0 (fun f => f)
                    replace cC1 := k.cell cC1 (fun f => f)
                    replace cC2 := k.cell cC2 (fun f => f)
                    replace cC3 := k.cell cC3 (fun f => f)
                    have Kv2 := (Kv1).trans k
                    clear k Kv1
                    go_wp2_with fail
                    refine (yv1 v2 Kv2).mono ?_
                    rintro e v3 ⟨rfl, k⟩
                    replace cA0 := k.cell cA0 (fun f => f)
                    replace cA1 := k.cell cA1 (fun f => f)
                    replace cA2 := k.cell cA2 (fun f => f)
                    replace cA3 := k.cell cA3 (fun f => f)
                    replace cB0 := k.cell cB0 (fun f => f)
                    replace cB1 := k.cell cB1 (fun f => f)
                    replace cB2 := k.cell cB2 (fun f => f)
                    replace cB3 := k.cell cB3 (fun f => f)
                    replace cC0 := k.cell cC0 (fun f => f)
                    replace cC1 := k.cell cC1 (fun f => f)
                    replace cC2 := k.cell cC2 (fun f => f)
                    replace cC3 := k.cell cC3 (fun f => f)
                    have Kv3 := (Kv2).trans k
                    clear k Kv2
                    go_wp2_with fail
                    refine (yv3 v3 Kv3).mono ?_
                    rintro e v4 ⟨rfl, k⟩
                    replace cA0 := k.cell cA0 (fun f => f)
                    replace cA1 := k.cell cA1 (fun f => f)
                    replace cA2 := k.cell cA2 (fun f => f)
                    replace cA3 := k.cell cA3 (fun f => f)
                    replace cB0 := k.cell cB0 (fun f => f)
                    replace cB1 := k.cell cB1 (fun f => f)
                    replace cB2 := k.cell cB2 (fun f => f)
                    replace cB3 := k.cell cB3 (fun f => f)
                    replace cC0 := k.cell cC0 (fun f => f)
                    replace cC1 := k.cell cC1 (fun f => f)
                    replace cC2 := k.cell cC2 (fun f => f)
                    replace cC3 := k.cell cC3 (fun f => f)
                    have Kv4 := (Kv3).trans k
                    clear k Kv3
                    have KF := HK4.out.trans Kv4
                    go_wp2
                    go_ret
                    exact ⟨rfl, KF⟩
                  | true =>
                    rw [hbc] at yv3
                    rw [HT2.out hbc] at yv4
                    clear hbc
                    go_wp2_with fail
                    refine (yv1 v0 Kv0).mono ?_
                    rintro e v1 ⟨rfl, k⟩
                    replace cA0 := k.cell cA0 (fun f => f)
                    replace cA1 := k.cell cA1 (fun f => f)
                    replace cA2 := k.cell cA2 (fun f => f)
                    replace cA3 := k.cell cA3 (fun f => f)
                    replace cB0 := k.cell cB0 (fun f => f)
                    replace cB1 := k.cell cB1 (fun f => f)
                    replace cB2 := k.cell cB2 (fun f => f)
                    replace cB3 := k.cell cB3 (fun f => f)
                    replace cC0 := k.cell cC0 (fun f => f)
                    replace cC1 := k.cell cC1 (fun f => f)
                    replace cC2 := k.cell cC2 (fun f => f)
                    replace cC3 := k.cell cC3 (fun f => f)
                    have Kv1 := (Kv0).trans k
                    clear k Kv0
                    go_wp2_with fail
                    refine (yv2 v1 Kv1).mono ?_
                    rintro e v2 ⟨rfl, k⟩
                    replace cA0 := k.cell cA0 (fun f => f)
                    replace cA1 := k.cell cA1 (fun f => f)
                    replace cA2 := k.cell cA2 (fun f => f)
                    replace cA3 := k.cell cA3 (fun f => f)
                    replace cB0 := k.cell cB0 (fun f => f)
                    replace cB1 := k.cell cB1 (fun f => f)
                    replace cB2 := k.cell cB2 (fun f => f)
                    replace cB3 := k.cell cB3 (fun f => f)
                    replace cC0 := k.cell cC0 (fun f => f)
                    replace cC1 := k.cell cC1 (fun f => f)
                    replace cC2 := k.cell cC2 (fun f => f)
                    replace cC3 := k.cell cC3 (fun f => f)
                    have Kv2 := (Kv1).trans k
                    clear k Kv1
                    go_wp2_with fail
                    refine (yv1 v2 Kv2).mono ?_
                    rintro e v3 ⟨rfl, k⟩
                    replace cA0 := k.cell cA0 (fun f => f)
                    replace cA1 := k.cell cA1 (fun f => f)
                    replace cA2 := k.cell cA2 (fun f => f)
                    replace cA3 := k.cell cA3 (fun f => f)
                    replace cB0 := k.cell cB0 (fun f => f)
                    replace cB1 := k.cell cB1 (fun f => f)
                    replace cB2 := k.cell cB2 (fun f => f)
                    replace cB3 := k.cell cB3 (fun f => f)
                    replace cC0 := k.cell cC0 (fun f => f)
                    replace cC1 := k.cell cC1 (fun f => f)
                    replace cC2 := k.cell cC2 (fun f => f)
                    replace cC3 := k.cell cC3 (fun f => f)
                    have Kv3 := (Kv2).trans k
                    clear k Kv2
                    go_wp2_with fail
                    refine (yv3 v3 Kv3).mono ?_
                    rintro e v4 ⟨rfl, k⟩
                    replace cA0 := k.cell cA0 (fun f => f)
                    replace cA1 := k.cell cA1 (fun f => f)
                    replace cA2 := k.cell cA2 (fun f => f)
                    replace cA3 := k.cell cA3 (fun f => f)
                    replace cB0 := k.cell cB0 (fun f => f)
                    replace cB1 := k.cell cB1 (fun f => f)
                    replace cB2 := k.cell cB2 (fun f => f)
                    replace cB3 := k.cell cB3 (fun f => f)
                    replace cC0 := k.cell cC0 (fun f => f)
                    replace cC1 := k.cell cC1 (fun f => f)
                    replace cC2 := k.cell cC2 (fun f => f)
                    replace cC3 := k.cell cC3 (fun f => f)
                    have Kv4 := (Kv3).trans k
                    clear k Kv3
                    go_wp2_with fail
                    refine (yv4 v4 Kv4).mono ?_
                    rintro e v5 ⟨rfl, k⟩
                    replace cA0 := k.cell cA0 (fun f => f)
                    replace cA1 := k.cell cA1 (fun f => f)
                    replace cA2 := k.cell cA2 (fun f => f)
                    replace cA3 := k.cell cA3 (fun f => f)
                    replace cB0 := k.cell cB0 (fun f => f)
                    replace cB1 := k.cell cB1 (fun f => f)
                    replace cB2 := k.cell cB2 (fun f => f)
                    replace cB3 := k.cell cB3 (fun f => f)
                    replace cC0 := k.cell cC0 (fun f => f)
                    replace cC1 := k.cell cC1 (fun f => f)
                    replace cC2 := k.cell cC2 (fun f => f)
                    replace cC3 := k.cell cC3 (fun f => f)
                    have Kv5 := (Kv4).trans k
                    clear k Kv4
                    have KF := HK4.out.trans Kv5
                    go_wp2
                    go_ret
                    exact ⟨rfl, KF⟩
end Go.Proofs.Ytkbihpdfafapeaa
