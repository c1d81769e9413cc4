/-
  Contract of the document's own Covers of dotted clocks, proved over this seat's translation.
  Conditions: a vector has at most the greatest length that a slice may have, an actor that of a text; a dot's count is not 0.
-/
import Derived.Test.YtkbihpdfafapeaaRefDot2
import Derived.Test.YtkbihpdfafapeaaRefVec4
namespace Go.Proofs.Ytkbihpdfafapeaa
open Go.RowKit

def cAll (k : Ck) (l : List En) : Bool := l.all (fun y => decide (y.n ≤ hav k y.a))
theorem cAll_drop {k : Ck} {l : List En} {i : Nat} (hi : i < l.length) : cAll k (l.drop i) = (decide (l[i].n ≤ hav k l[i].a) && cAll k (l.drop (i + 1))) := by
  rw [List.drop_eq_getElem_cons hi]
  rfl
theorem covers_a {a b : Ck} (h : b.d = false) : kCovers a b = cAll a b.c := by
  unfold kCovers
  rw [h]
  rfl
theorem covers_b {a b : Ck} (h : b.d = true) (h1 : kKnows a b.x.a b.x.n = false) : kCovers a b = false := by
  unfold kCovers
  rw [h, h1]
  rfl
theorem covers_c {a b : Ck} (h : b.d = true) (h1 : kKnows a b.x.a b.x.n = true) : kCovers a b = cAll a b.c := by
  unfold kCovers
  rw [h, h1]
  rfl
set_option maxRecDepth 100000 in
set_option maxHeartbeats 8000000 in
theorem rcovers12_any (w : World) (ao bo : Option Addr) (ca cb : Nat) (c c' : List En) (d d' : Bool) (x x' : ByteArray) (n n' : Nat) (hv : Fits c) (hv' : Fits c') (hn : n < 18446744073709551616) (hz : d = true → n ≠ 0) (hc : EnsAt w ao c) (hc' : EnsAt w bo c') :
    Calls Try.prog 17 #[.agg #[.slice ao c.length ca, .bool d, .string x, .int .u64 (n : Int)], .agg #[.slice bo c'.length cb, .bool d', .string x', .int .u64 (n' : Int)]] w fun e w' => e = .returned (.bool (kCovers ⟨c, d, ⟨x, n⟩⟩ ⟨c', d', ⟨x', n'⟩⟩)) ∧ Keep0 w w' := by
  have kA : Keep0 w ((w.alloc (.cells #[.slice ao c.length ca, .bool d, .string x, .int .u64 (n : Int)] 27)).alloc (.cells #[.slice bo c'.length cb, .bool d', .string x', .int .u64 (n' : Int)] 27)) := ((Keep.refl _ w).alloc _).alloc _
  have k0 : Keep0 (w.alloc (.cells #[.slice ao c.length ca, .bool d, .string x, .int .u64 (n : Int)] 27)) ((w.alloc (.cells #[.slice ao c.length ca, .bool d, .string x, .int .u64 (n : Int)] 27)).alloc (.cells #[.slice bo c'.length cb, .bool d', .string x', .int .u64 (n' : Int)] 27)) := (Keep.refl _ _).alloc _
  have hX : ClkAt _ w.heap.size 0 ⟨c, d, ⟨x, n⟩⟩ ao ca := (clk_new w 27 ⟨c, d, ⟨x, n⟩⟩ ao ca).keep0 k0
  have hZ := clk_new (w.alloc (.cells #[.slice ao c.length ca, .bool d, .string x, .int .u64 (n : Int)] 27)) 27 ⟨c', d', ⟨x', n'⟩⟩ bo cb
  rw [World.size_alloc] at hZ
  have yk := rknows12_any _ ao ca c d x n hv (hc.keep0 kA) x' n'
  have yn := fun (W : World) (K : Keep0 w W) (s : ByteArray) => rcount10 W ao ca c hv.1 (hc.keep0 K) s
  have HL : Hid (∀ s, vCount c s < 18446744073709551616) := fun s => count_lt (fun y hy => (hv.2 y hy).2) s
  have HC' : Hid (EnsAt w bo c') := hc'
  have HZ : Hid (d = true → n ≠ 0) := hz
  have hl' : (c'.length : Int) ≤ 9223372036854775807 := by have := hv'.1; unfold maxLen at this; omega
  clear hc hc' k0 hv hv' hz
  cases d' with
  | false =>
    rw [covers_a rfl]
    show Calls Try.prog _ _ _ fun e w' => e = .returned (.bool (cAll ⟨c, d, ⟨x, n⟩⟩ c')) ∧ Keep0 w w'
    obtain ⟨r, hr⟩ : ∃ r, cAll ⟨c, d, ⟨x, n⟩⟩ c' = r := ⟨_, rfl⟩
    rw [hr]
    have HR : Hid (cAll ⟨c, d, ⟨x, n⟩⟩ (c'.drop 0) = r) := hr
    clear hr yk
    obtain ⟨x0, x1, x2, x3⟩ := hX
    obtain ⟨z0, z1, z2, z3⟩ := hZ
    have KS : Hid (Keep0 w ((w.alloc (.cells #[.slice ao c.length ca, .bool d, .string x, .int .u64 (n : Int)] 27)).alloc (.cells #[.slice bo c'.length cb, .bool false, .string x', .int .u64 (n' : Int)] 27))) := kA
    go_enter Try.func17, Try.ntmps17
    go_wp2_with fail
    generalize ((w.alloc (.cells #[.slice ao c.length ca, .bool d, .string x, .int .u64 (n : Int)] 27)).alloc (.cells #[.slice bo c'.length cb, .bool false, .string x', .int .u64 (n' : Int)] 27)) = WS at *
    generalize w.heap.size = B at *
    clear kA
    have x0 : Hid (WS.cell? ⟨B, 0, none⟩ = some (.slice ao c.length ca)) := x0
    have x1 : Hid (WS.cell? ⟨B, 0 + 1, none⟩ = some (.bool d)) := x1
    have x2 : Hid (WS.cell? ⟨B, 0 + 2, none⟩ = some (.string x)) := x2
    have x3 : Hid (WS.cell? ⟨B, 0 + 3, none⟩ = some (.int .u64 (n : Int))) := x3
    have z0 : Hid (WS.cell? ⟨B + 1, 0, none⟩ = some (.slice bo c'.length cb)) := z0
    go_loopw [5] (fun i wr => ∃ (k : Nat), i = .int .i64 (k : Int) ∧ k ≤ c'.length ∧ Hid (cAll ⟨c, d, ⟨x, n⟩⟩ (c'.drop k) = r) ∧ Keep0 WS wr) (fun i _ => c'.length - (intOf i).toNat)
    case atStart => exact ⟨0, rfl, by omega, HR, Keep.refl _ _⟩
    case round =>
      obtain ⟨k, rfl, hk, HK, hK⟩ := hrel
      have u0 := hK.cell x0.out (fun f => f)
      have u1 := hK.cell x1.out (fun f => f)
      have u2 := hK.cell x2.out (fun f => f)
      have u3 := hK.cell x3.out (fun f => f)
      have v0 := hK.cell z0.out (fun f => f)
      have KW := KS.out.trans hK
      by_cases hlt : k < c'.length
      · have i1 : (k : Int) < c'.length := by omega
        obtain ⟨g, off, rfl, p0, p1⟩ := HC'.out k hlt
        have y0 := KW.cell p0 (fun f => f)
        have y1 := KW.cell p1 (fun f => f)
        have kN : Keep0 WS (wr.alloc (.cells #[.string c'[k].a, .int .u64 (c'[k].n : Int)] 25)) := hK.alloc _
        have kN0 : Keep0 wr (wr.alloc (.cells #[.string c'[k].a, .int .u64 (c'[k].n : Int)] 25)) := (Keep.refl _ wr).alloc _
        have u0 := kN0.cell u0 (fun f => f)
        have u1 := kN0.cell u1 (fun f => f)
        have u2 := kN0.cell u2 (fun f => f)
        have u3 := kN0.cell u3 (fun f => f)
        have yc := yn _ (KS.out.trans kN) c'[k].a
        clear kN0
        have hd := HK.out
        rw [cAll_drop hlt] at hd
        have hL := HL.out c'[k].a
        clear p0 p1
        cases d with
        | false =>
          have hh : hav ⟨c, false, ⟨x, n⟩⟩ c'[k].a = vCount c c'[k].a := hav_no (fun e => by cases e.1)
          by_cases h1 : c'[k].n ≤ hav ⟨c, false, ⟨x, n⟩⟩ c'[k].a
          · rw [decide_eq_true h1, Bool.true_and] at hd
            have HE : Hid (cAll ⟨c, false, ⟨x, n⟩⟩ (c'.drop (k + 1)) = r) := hd
            rw [hh] at h1
            have i9 : decide ((vCount c c'[k].a : Int) < (c'[k].n : Int)) = false := decide_eq_false (by omega)
            have i10 : ¬ (vCount c c'[k].a : Int) < (c'[k].n : Int) := by omega
            clear hd HK h1 hL hh
            generalize hVC : vCount c c'[k].a = VC at *
            clear hVC
            generalize (c'[k].n : Int) = N at *
            generalize c'[k].a = A at *
            go_wp2_with fail
            refine yc.mono ?_
            rintro e w3 ⟨rfl, rfl⟩
            clear yc
            go_wp2
            go_roundw
            case rel => exact ⟨k + 1, by go_num, by omega, HE, kN⟩
            case measure => simp [intOf]; omega
          · rw [decide_eq_false h1, Bool.false_and] at hd
            have HE : Hid (false = r) := hd
            rw [hh] at h1
            have i9 : decide ((vCount c c'[k].a : Int) < (c'[k].n : Int)) = true := decide_eq_true (by omega)
            have i10 : (vCount c c'[k].a : Int) < (c'[k].n : Int) := by omega
            clear hd HK h1 hL hh
            generalize hVC : vCount c c'[k].a = VC at *
            clear hVC
            generalize (c'[k].n : Int) = N at *
            generalize c'[k].a = A at *
            go_wp2_with fail
            refine yc.mono ?_
            rintro e w3 ⟨rfl, rfl⟩
            clear yc
            go_wp2
            go_ret
            exact ⟨by rw [← HE.out]; rfl, KS.out.trans kN⟩
        | true =>
          by_cases hx : x = c'[k].a
          · by_cases hn1 : n = vCount c c'[k].a + 1
            · have hh : hav ⟨c, true, ⟨x, n⟩⟩ c'[k].a = vCount c c'[k].a + 1 := hav_yes ⟨rfl, hx, hn1⟩
              have i5 : IntKind.u64.wrap ((vCount c c'[k].a : Int) + 1) = (vCount c c'[k].a : Int) + 1 := by rw [IntKind.wrap_u64]; omega
              have i6 : (n : Int) = (vCount c c'[k].a : Int) + 1 := by omega
              rw [i6] at u3
              rw [hx] at u2
              clear hn1 i6 hx
              by_cases h1 : c'[k].n ≤ hav ⟨c, true, ⟨x, n⟩⟩ c'[k].a
              · rw [decide_eq_true h1, Bool.true_and] at hd
                have HE : Hid (cAll ⟨c, true, ⟨x, n⟩⟩ (c'.drop (k + 1)) = r) := hd
                rw [hh] at h1
                have i9 : decide ((vCount c c'[k].a : Int) + 1 < (c'[k].n : Int)) = false := decide_eq_false (by omega)
                have i10 : ¬ (vCount c c'[k].a : Int) + 1 < (c'[k].n : Int) := by omega
                clear hd HK h1 hL hh
                generalize hVC : vCount c c'[k].a = VC at *
                clear hVC
                generalize (c'[k].n : Int) = N at *
                generalize c'[k].a = A at *
                go_wp2_with fail
                refine yc.mono ?_
                rintro e w3 ⟨rfl, rfl⟩
                clear yc
                go_wp2
                go_roundw
                case rel => exact ⟨k + 1, by go_num, by omega, HE, kN⟩
                case measure => simp [intOf]; omega
              · rw [decide_eq_false h1, Bool.false_and] at hd
                have HE : Hid (false = r) := hd
                rw [hh] at h1
                have i9 : decide ((vCount c c'[k].a : Int) + 1 < (c'[k].n : Int)) = true := decide_eq_true (by omega)
                have i10 : (vCount c c'[k].a : Int) + 1 < (c'[k].n : Int) := by omega
                clear hd HK h1 hL hh
                generalize hVC : vCount c c'[k].a = VC at *
                clear hVC
                generalize (c'[k].n : Int) = N at *
                generalize c'[k].a = A at *
                go_wp2_with fail
                refine yc.mono ?_
                rintro e w3 ⟨rfl, rfl⟩
                clear yc
                go_wp2
                go_ret
                exact ⟨by rw [← HE.out]; rfl, KS.out.trans kN⟩
            · have hh : hav ⟨c, true, ⟨x, n⟩⟩ c'[k].a = vCount c c'[k].a := hav_no (fun e => hn1 e.2.2)
              have hz := HZ.out rfl
              have i5 : ((n : Int) == IntKind.u64.wrap ((vCount c c'[k].a : Int) + 1)) = false := beq_eq_false_iff_ne.2 (by rw [IntKind.wrap_u64]; omega)
              have i6 : ¬ (n : Int) = IntKind.u64.wrap ((vCount c c'[k].a : Int) + 1) := by rw [IntKind.wrap_u64]; omega
              rw [hx] at u2
              clear hn1 hx hz
              by_cases h1 : c'[k].n ≤ hav ⟨c, true, ⟨x, n⟩⟩ c'[k].a
              · rw [decide_eq_true h1, Bool.true_and] at hd
                have HE : Hid (cAll ⟨c, true, ⟨x, n⟩⟩ (c'.drop (k + 1)) = r) := hd
                rw [hh] at h1
                have i9 : decide ((vCount c c'[k].a : Int) < (c'[k].n : Int)) = false := decide_eq_false (by omega)
                have i10 : ¬ (vCount c c'[k].a : Int) < (c'[k].n : Int) := by omega
                clear hd HK h1 hL hh
                generalize hVC : vCount c c'[k].a = VC at *
                clear hVC
                generalize (c'[k].n : Int) = N at *
                generalize c'[k].a = A at *
                go_wp2_with fail
                refine yc.mono ?_
                rintro e w3 ⟨rfl, rfl⟩
                clear yc
                go_wp2
                go_roundw
                case rel => exact ⟨k + 1, by go_num, by omega, HE, kN⟩
                case measure => simp [intOf]; omega
              · rw [decide_eq_false h1, Bool.false_and] at hd
                have HE : Hid (false = r) := hd
                rw [hh] at h1
                have i9 : decide ((vCount c c'[k].a : Int) < (c'[k].n : Int)) = true := decide_eq_true (by omega)
                have i10 : (vCount c c'[k].a : Int) < (c'[k].n : Int) := by omega
                clear hd HK h1 hL hh
                generalize hVC : vCount c c'[k].a = VC at *
                clear hVC
                generalize (c'[k].n : Int) = N at *
                generalize c'[k].a = A at *
                go_wp2_with fail
                refine yc.mono ?_
                rintro e w3 ⟨rfl, rfl⟩
                clear yc
                go_wp2
                go_ret
                exact ⟨by rw [← HE.out]; rfl, KS.out.trans kN⟩
          · have hh : hav ⟨c, true, ⟨x, n⟩⟩ c'[k].a = vCount c c'[k].a := hav_no (fun e => hx e.2.1)
            obtain ⟨e1, e2, e3⟩ := txt_ne hx
            clear hx
            by_cases h1 : c'[k].n ≤ hav ⟨c, true, ⟨x, n⟩⟩ c'[k].a
            · rw [decide_eq_true h1, Bool.true_and] at hd
              have HE : Hid (cAll ⟨c, true, ⟨x, n⟩⟩ (c'.drop (k + 1)) = r) := hd
              rw [hh] at h1
              have i9 : decide ((vCount c c'[k].a : Int) < (c'[k].n : Int)) = false := decide_eq_false (by omega)
              have i10 : ¬ (vCount c c'[k].a : Int) < (c'[k].n : Int) := by omega
              clear hd HK h1 hL hh
              generalize hVC : vCount c c'[k].a = VC at *
              clear hVC
              generalize (c'[k].n : Int) = N at *
              generalize c'[k].a = A at *
              go_wp2_with fail
              refine yc.mono ?_
              rintro e w3 ⟨rfl, rfl⟩
              clear yc
              go_wp2
              go_roundw
              case rel => exact ⟨k + 1, by go_num, by omega, HE, kN⟩
              case measure => simp [intOf]; omega
            · rw [decide_eq_false h1, Bool.false_and] at hd
              have HE : Hid (false = r) := hd
              rw [hh] at h1
              have i9 : decide ((vCount c c'[k].a : Int) < (c'[k].n : Int)) = true := decide_eq_true (by omega)
              have i10 : (vCount c c'[k].a : Int) < (c'[k].n : Int) := by omega
              clear hd HK h1 hL hh
              generalize hVC : vCount c c'[k].a = VC at *
              clear hVC
              generalize (c'[k].n : Int) = N at *
              generalize c'[k].a = A at *
              go_wp2_with fail
              refine yc.mono ?_
              rintro e w3 ⟨rfl, rfl⟩
              clear yc
              go_wp2
              go_ret
              exact ⟨by rw [← HE.out]; rfl, KS.out.trans kN⟩
      · have i1 : ¬ (k : Int) < c'.length := by omega
        have hd := HK.out
        rw [List.drop_eq_nil_of_le (by omega)] at hd
        have HE : Hid (true = r) := hd
        clear hd HK
        go_wp2
        go_ret
        exact ⟨by rw [← HE.out]; rfl, KW⟩
  | true =>
    have hkk : kKnows ⟨c, d, ⟨x, n⟩⟩ x' n' = kKnows ⟨c, d, ⟨x, n⟩⟩ x' n' := rfl
    cases hk : kKnows ⟨c, d, ⟨x, n⟩⟩ x' n' with
    | false =>
      rw [covers_b rfl hk]
      rw [hk] at yk
      clear hkk hk
      obtain ⟨x0, x1, x2, x3⟩ := hX
      obtain ⟨z0, z1, z2, z3⟩ := hZ
      go_enter Try.func17, Try.ntmps17
      go_wp2_with fail
      generalize ((w.alloc (.cells #[.slice ao c.length ca, .bool d, .string x, .int .u64 (n : Int)] 27)).alloc (.cells #[.slice bo c'.length cb, .bool true, .string x', .int .u64 (n' : Int)] 27)) = W1 at *
      generalize w.heap.size = B at *
      refine yk.mono ?_
      rintro e w2 ⟨rfl, k2⟩
      have K2 := kA.trans k2
      clear yk k2 kA
      go_wp2
      go_ret
      exact ⟨rfl, K2⟩
    | true =>
      rw [covers_c rfl hk]
      rw [hk] at yk
      clear hkk hk
      show Calls Try.prog _ _ _ fun e w' => e = .returned (.bool (cAll ⟨c, d, ⟨x, n⟩⟩ c')) ∧ Keep0 w w'
      obtain ⟨r, hr⟩ : ∃ r, cAll ⟨c, d, ⟨x, n⟩⟩ c' = r := ⟨_, rfl⟩
      rw [hr]
      have HR : Hid (cAll ⟨c, d, ⟨x, n⟩⟩ (c'.drop 0) = r) := hr
      clear hr
      obtain ⟨s0, s1, s2, s3⟩ := hX
      obtain ⟨t0, t1, t2, t3⟩ := hZ
      go_enter Try.func17, Try.ntmps17
      go_wp2_with fail
      generalize ((w.alloc (.cells #[.slice ao c.length ca, .bool d, .string x, .int .u64 (n : Int)] 27)).alloc (.cells #[.slice bo c'.length cb, .bool true, .string x', .int .u64 (n' : Int)] 27)) = W1 at *
      generalize w.heap.size = B at *
      refine yk.mono ?_
      rintro e WS ⟨rfl, k2⟩
      have KS : Hid (Keep0 w WS) := kA.trans k2
      have x0 : Hid (WS.cell? ⟨B, 0, none⟩ = some (.slice ao c.length ca)) := k2.cell s0 (fun f => f)
      have x1 : Hid (WS.cell? ⟨B, 0 + 1, none⟩ = some (.bool d)) := k2.cell s1 (fun f => f)
      have x2 : Hid (WS.cell? ⟨B, 0 + 2, none⟩ = some (.string x)) := k2.cell s2 (fun f => f)
      have x3 : Hid (WS.cell? ⟨B, 0 + 3, none⟩ = some (.int .u64 (n : Int))) := k2.cell s3 (fun f => f)
      have z0 : Hid (WS.cell? ⟨B + 1, 0, none⟩ = some (.slice bo c'.length cb)) := k2.cell t0 (fun f => f)
      clear yk k2 kA s0 s1 s2 s3 t0 t1 t2 t3 W1
      go_wp2_with fail
      go_loopw [5] (fun i wr => ∃ (k : Nat), i = .int .i64 (k : Int) ∧ k ≤ c'.length ∧ Hid (cAll ⟨c, d, ⟨x, n⟩⟩ (c'.drop k) = r) ∧ Keep0 WS wr) (fun i _ => c'.length - (intOf i).toNat)
      case atStart => exact ⟨0, rfl, by omega, HR, Keep.refl _ _⟩
      case round =>
        obtain ⟨k, rfl, hk, HK, hK⟩ := hrel
        have u0 := hK.cell x0.out (fun f => f)
        have u1 := hK.cell x1.out (fun f => f)
        have u2 := hK.cell x2.out (fun f => f)
        have u3 := hK.cell x3.out (fun f => f)
        have v0 := hK.cell z0.out (fun f => f)
        have KW := KS.out.trans hK
        by_cases hlt : k < c'.length
        · have i1 : (k : Int) < c'.length := by omega
          obtain ⟨g, off, rfl, p0, p1⟩ := HC'.out k hlt
          have y0 := KW.cell p0 (fun f => f)
          have y1 := KW.cell p1 (fun f => f)
          have kN : Keep0 WS (wr.alloc (.cells #[.string c'[k].a, .int .u64 (c'[k].n : Int)] 25)) := hK.alloc _
          have kN0 : Keep0 wr (wr.alloc (.cells #[.string c'[k].a, .int .u64 (c'[k].n : Int)] 25)) := (Keep.refl _ wr).alloc _
          have u0 := kN0.cell u0 (fun f => f)
          have u1 := kN0.cell u1 (fun f => f)
          have u2 := kN0.cell u2 (fun f => f)
          have u3 := kN0.cell u3 (fun f => f)
          have yc := yn _ (KS.out.trans kN) c'[k].a
          clear kN0
          have hd := HK.out
          rw [cAll_drop hlt] at hd
          have hL := HL.out c'[k].a
          clear p0 p1
          cases d with
          | false =>
            have hh : hav ⟨c, false, ⟨x, n⟩⟩ c'[k].a = vCount c c'[k].a := hav_no (fun e => by cases e.1)
            by_cases h1 : c'[k].n ≤ hav ⟨c, false, ⟨x, n⟩⟩ c'[k].a
            · rw [decide_eq_true h1, Bool.true_and] at hd
              have HE : Hid (cAll ⟨c, false, ⟨x, n⟩⟩ (c'.drop (k + 1)) = r) := hd
              rw [hh] at h1
              have i9 : decide ((vCount c c'[k].a : Int) < (c'[k].n : Int)) = false := decide_eq_false (by omega)
              have i10 : ¬ (vCount c c'[k].a : Int) < (c'[k].n : Int) := by omega
              clear hd HK h1 hL hh
              generalize hVC : vCount c c'[k].a = VC at *
              clear hVC
              generalize (c'[k].n : Int) = N at *
              generalize c'[k].a = A at *
              go_wp2_with fail
              refine yc.mono ?_
              rintro e w3 ⟨rfl, rfl⟩
              clear yc
              go_wp2
              go_roundw
              case rel => exact ⟨k + 1, by go_num, by omega, HE, kN⟩
              case measure => simp [intOf]; omega
            · rw [decide_eq_false h1, Bool.false_and] at hd
              have HE : Hid (false = r) := hd
              rw [hh] at h1
              have i9 : decide ((vCount c c'[k].a : Int) < (c'[k].n : Int)) = true := decide_eq_true (by omega)
              have i10 : (vCount c c'[k].a : Int) < (c'[k].n : Int) := by omega
              clear hd HK h1 hL hh
              generalize hVC : vCount c c'[k].a = VC at *
              clear hVC
              generalize (c'[k].n : Int) = N at *
              generalize c'[k].a = A at *
              go_wp2_with fail
              refine yc.mono ?_
              rintro e w3 ⟨rfl, rfl⟩
              clear yc
              go_wp2
              go_ret
              exact ⟨by rw [← HE.out]; rfl, KS.out.trans kN⟩
          | true =>
            by_cases hx : x = c'[k].a
            · by_cases hn1 : n = vCount c c'[k].a + 1
              · have hh : hav ⟨c, true, ⟨x, n⟩⟩ c'[k].a = vCount c c'[k].a + 1 := hav_yes ⟨rfl, hx, hn1⟩
                have i5 : IntKind.u64.wrap ((vCount c c'[k].a : Int) + 1) = (vCount c c'[k].a : Int) + 1 := by rw [IntKind.wrap_u64]; omega
                have i6 : (n : Int) = (vCount c c'[k].a : Int) + 1 := by omega
                rw [i6] at u3
                rw [hx] at u2
                clear hn1 i6 hx
                by_cases h1 : c'[k].n ≤ hav ⟨c, true, ⟨x, n⟩⟩ c'[k].a
                · rw [decide_eq_true h1, Bool.true_and] at hd
                  have HE : Hid (cAll ⟨c, true, ⟨x, n⟩⟩ (c'.drop (k + 1)) = r) := hd
                  rw [hh] at h1
                  have i9 : decide ((vCount c c'[k].a : Int) + 1 < (c'[k].n : Int)) = false := decide_eq_false (by omega)
                  have i10 : ¬ (vCount c c'[k].a : Int) + 1 < (c'[k].n : Int) := by omega
                  clear hd HK h1 hL hh
                  generalize hVC : vCount c c'[k].a = VC at *
                  clear hVC
                  generalize (c'[k].n : Int) = N at *
                  generalize c'[k].a = A at *
                  go_wp2_with fail
                  refine yc.mono ?_
                  rintro e w3 ⟨rfl, rfl⟩
                  clear yc
                  go_wp2
                  go_roundw
                  case rel => exact ⟨k + 1, by go_num, by omega, HE, kN⟩
                  case measure => simp [intOf]; omega
                · rw [decide_eq_false h1, Bool.false_and] at hd
                  have HE : Hid (false = r) := hd
                  rw [hh] at h1
                  have i9 : decide ((vCount c c'[k].a : Int) + 1 < (c'[k].n : Int)) = true := decide_eq_true (by omega)
                  have i10 : (vCount c c'[k].a : Int) + 1 < (c'[k].n : Int) := by omega
                  clear hd HK h1 hL hh
                  generalize hVC : vCount c c'[k].a = VC at *
                  clear hVC
                  generalize (c'[k].n : Int) = N at *
                  generalize c'[k].a = A at *
                  go_wp2_with fail
                  refine yc.mono ?_
                  rintro e w3 ⟨rfl, rfl⟩
                  clear yc
                  go_wp2
                  go_ret
                  exact ⟨by rw [← HE.out]; rfl, KS.out.trans kN⟩
              · have hh : hav ⟨c, true, ⟨x, n⟩⟩ c'[k].a = vCount c c'[k].a := hav_no (fun e => hn1 e.2.2)
                have hz := HZ.out rfl
                have i5 : ((n : Int) == IntKind.u64.wrap ((vCount c c'[k].a : Int) + 1)) = false := beq_eq_false_iff_ne.2 (by rw [IntKind.wrap_u64]; omega)
                have i6 : ¬ (n : Int) = IntKind.u64.wrap ((vCount c c'[k].a : Int) + 1) := by rw [IntKind.wrap_u64]; omega
                rw [hx] at u2
                clear hn1 hx hz
                by_cases h1 : c'[k].n ≤ hav ⟨c, true, ⟨x, n⟩⟩ c'[k].a
                · rw [decide_eq_true h1, Bool.true_and] at hd
                  have HE : Hid (cAll ⟨c, true, ⟨x, n⟩⟩ (c'.drop (k + 1)) = r) := hd
                  rw [hh] at h1
                  have i9 : decide ((vCount c c'[k].a : Int) < (c'[k].n : Int)) = false := decide_eq_false (by omega)
                  have i10 : ¬ (vCount c c'[k].a : Int) < (c'[k].n : Int) := by omega
                  clear hd HK h1 hL hh
                  generalize hVC : vCount c c'[k].a = VC at *
                  clear hVC
                  generalize (c'[k].n : Int) = N at *
                  generalize c'[k].a = A at *
                  go_wp2_with fail
                  refine yc.mono ?_
                  rintro e w3 ⟨rfl, rfl⟩
                  clear yc
                  go_wp2
                  go_roundw
                  case rel => exact ⟨k + 1, by go_num, by omega, HE, kN⟩
                  case measure => simp [intOf]; omega
                · rw [decide_eq_false h1, Bool.false_and] at hd
                  have HE : Hid (false = r) := hd
                  rw [hh] at h1
                  have i9 : decide ((vCount c c'[k].a : Int) < (c'[k].n : Int)) = true := decide_eq_true (by omega)
                  have i10 : (vCount c c'[k].a : Int) < (c'[k].n : Int) := by omega
                  clear hd HK h1 hL hh
                  generalize hVC : vCount c c'[k].a = VC at *
                  clear hVC
                  generalize (c'[k].n : Int) = N at *
                  generalize c'[k].a = A at *
                  go_wp2_with fail
                  refine yc.mono ?_
                  rintro e w3 ⟨rfl, rfl⟩
                  clear yc
                  go_wp2
                  go_ret
                  exact ⟨by rw [← HE.out]; rfl, KS.out.trans kN⟩
            · have hh : hav ⟨c, true, ⟨x, n⟩⟩ c'[k].a = vCount c c'[k].a := hav_no (fun e => hx e.2.1)
              obtain ⟨e1, e2, e3⟩ := txt_ne hx
              clear hx
              by_cases h1 : c'[k].n ≤ hav ⟨c, true, ⟨x, n⟩⟩ c'[k].a
              · rw [decide_eq_true h1, Bool.true_and] at hd
                have HE : Hid (cAll ⟨c, true, ⟨x, n⟩⟩ (c'.drop (k + 1)) = r) := hd
                rw [hh] at h1
                have i9 : decide ((vCount c c'[k].a : Int) < (c'[k].n : Int)) = false := decide_eq_false (by omega)
                have i10 : ¬ (vCount c c'[k].a : Int) < (c'[k].n : Int) := by omega
                clear hd HK h1 hL hh
                generalize hVC : vCount c c'[k].a = VC at *
                clear hVC
                generalize (c'[k].n : Int) = N at *
                generalize c'[k].a = A at *
                go_wp2_with fail
                refine yc.mono ?_
                rintro e w3 ⟨rfl, rfl⟩
                clear yc
                go_wp2
                go_roundw
                case rel => exact ⟨k + 1, by go_num, by omega, HE, kN⟩
                case measure => simp [intOf]; omega
              · rw [decide_eq_false h1, Bool.false_and] at hd
                have HE : Hid (false = r) := hd
                rw [hh] at h1
                have i9 : decide ((vCount c c'[k].a : Int) < (c'[k].n : Int)) = true := decide_eq_true (by omega)
                have i10 : (vCount c c'[k].a : Int) < (c'[k].n : Int) := by omega
                clear hd HK h1 hL hh
                generalize hVC : vCount c c'[k].a = VC at *
                clear hVC
                generalize (c'[k].n : Int) = N at *
                generalize c'[k].a = A at *
                go_wp2_with fail
                refine yc.mono ?_
                rintro e w3 ⟨rfl, rfl⟩
                clear yc
                go_wp2
                go_ret
                exact ⟨by rw [← HE.out]; rfl, KS.out.trans kN⟩
        · have i1 : ¬ (k : Int) < c'.length := by omega
          have hd := HK.out
          rw [List.drop_eq_nil_of_le (by omega)] at hd
          have HE : Hid (true = r) := hd
          clear hd HK
          go_wp2
          go_ret
          exact ⟨by rw [← HE.out]; rfl, KW⟩
theorem rcovers12 (w : World) (ao bo : Option Addr) (ca cb : Nat) (a b : Ck) (hf : FitsK a) (hg : FitsK b) (ha : Right a) (hc : EnsAt w ao a.c) (hc' : EnsAt w bo b.c) :
    Calls Try.prog 17 #[.agg #[.slice ao a.c.length ca, .bool a.d, .string a.x.a, .int .u64 (a.x.n : Int)], .agg #[.slice bo b.c.length cb, .bool b.d, .string b.x.a, .int .u64 (b.x.n : Int)]] w fun e w' => e = .returned (.bool (kCovers a b)) ∧ Keep0 w w' :=
  rcovers12_any w ao bo ca cb a.c b.c a.d b.d a.x.a b.x.a a.x.n b.x.n hf.vec hg.vec hf.num (fun e => (ha.dot e).1.2.2) hc hc'
end Go.Proofs.Ytkbihpdfafapeaa
