/-
  Contracts of package vector's Descends and Order, each proved over this seat's translation.
  Conditions: at most 10,000 entries a list; each actor takes at most the greatest length that a text may have.
-/
import Derived.Test.YtkfilkbmdnneoaaVecG
namespace Go.Proofs.Ytkfilkbmdnneoaa
open Go.RowKit Go.Maps

theorem vecs_one {w : World} {ao : Option Addr} {ca : Nat} {l : List En} (t : TypeId) (ha : EnsAt w ao l) :
    VecsAt (w.alloc (.cells #[.slice ao l.length ca] t)) (some ⟨w.heap.size, 0, none⟩) [l] := by
  have k : Keep0 w (w.alloc (.cells #[.slice ao l.length ca] t)) := (Keep.refl _ w).alloc _
  intro i hi
  obtain rfl : i = 0 := by simpa using hi
  exact ⟨w.heap.size, 0, ao, ca, rfl, cell_alloc w t rfl, ha.keep0 k⟩
theorem rights_two (l m : List En) : rights [l, m] = vRight l m := by
  show ((vCheck l == 0) && ((vCheck m == 0) && true)) = _
  rw [Bool.and_true]
  rfl
theorem rights_one (l : List En) : rights [l] = (vCheck l == 0) := by
  show ((vCheck l == 0) && true) = _
  rw [Bool.and_true]
theorem two_ok {l m : List En} (hl : Ok10 l) (hm : Ok10 m) : ∀ u ∈ [l, m], Ok10 u := by
  intro u hu
  simp at hu
  rcases hu with rfl | rfl <;> assumption
theorem one_ok {l : List En} (hl : Ok10 l) : ∀ u ∈ [l], Ok10 u := by
  intro u hu
  simp at hu
  subst hu
  exact hl
set_option maxRecDepth 100000 in
set_option maxHeartbeats 4000000 in
theorem descends10 (w : World) (ao bo : Option Addr) (ca cb : Nat) (l m : List En) (hl : Ok10 l) (hm : Ok10 m) (hA : EnsAt w ao l) (hB : EnsAt w bo m) :
    Calls Try.prog 17 #[.slice ao l.length ca, .slice bo m.length cb] w fun e w' => e = .returned (.bool (vRight l m && vAbove l m)) ∧ Keep0 w w' := by
  have kL : Keep0 w (w.alloc (.cells #[.slice ao l.length ca, .slice bo m.length cb] 22)) := (Keep.refl _ w).alloc _
  have yr := right10 _ _ 2 [l, m] (by show 2 ≤ 100; omega) (two_ok hl hm) (vecs_two (ca := ca) (cb := cb) 22 hA hB)
  have e2 : ([l, m] : List (List En)).length = 2 := rfl
  rw [rights_two, e2] at yr
  clear e2
  cases hR : vRight l m with
  | false =>
    rw [hR] at yr
    rw [Bool.false_and]
    go_enter Try.func17, Try.ntmps17
    go_wp2_with fail
    refine yr.mono ?_
    rintro e w1 ⟨rfl, k1⟩
    have K1 := kL.trans k1
    clear yr k1 kL hA hB
    go_wp2
    go_ret
    exact ⟨rfl, K1⟩
  | true =>
    rw [hR] at yr
    rw [Bool.true_and]
    have hg : Good l := by
      unfold vRight at hR
      rw [Bool.and_eq_true] at hR
      exact ((check_zero l).1 (by simpa using hR.1)).2
    obtain ⟨r, hr⟩ : ∃ r, vAbove l m = r := ⟨_, rfl⟩
    rw [hr]
    have HR : Hid (vAbove l (m.drop 0) = r) := hr
    have HB : Hid (EnsAt w bo m) := hB
    have HG : Hid (∀ z, gMax ([l] : List (List En)).flatten z = vCount l z) := by
      intro z
      have : ([l] : List (List En)).flatten = l := by simp
      rw [this, gMax_good hg z]
    have HMo : Hid (∀ x ∈ m, x.a.size ≤ maxLen ∧ x.n < 18446744073709551616) := hm.2
    have hm1 := hm.1
    have hm' : (m.length : Int) ≤ 9223372036854775807 := by omega
    have yg := fun W (K : Keep0 w W) => gather10 _ _ 1 [l] (by show 1 ≤ 100; omega) (one_ok hl) (vecs_one (ca := ca) 22 (hA.keep0 K))
    clear hr hR hB hg
    have e1 : ([l] : List (List En)).length = 1 := rfl
    rw [e1] at yg
    clear e1
    go_enter Try.func17, Try.ntmps17
    go_wp2_with fail
    refine yr.mono ?_
    rintro e w1 ⟨rfl, k1⟩
    have K1 := kL.trans k1
    have yg := yg w1 K1
    have K2 : Keep0 w (w1.alloc (.cells #[.slice ao l.length ca] 22)) := K1.alloc _
    clear yr k1 kL K1
    go_wp2_with fail
    generalize (w1.alloc (.cells #[.slice ao l.length ca] 22)) = W2 at *
    refine yg.mono ?_
    rintro e w3 ⟨b, n, D, rfl, hb, hM, hn, hD, k3⟩
    have HM : Hid (MapAt w3 b n D) := hM
    have HD : Hid (∀ (A : ByteArray) (c : Int), D.atKey (.string A.data.toList) (.lit (.int .u64 0)) = .lit (.int .u64 c) → c = (vCount l A : Int)) := by
      intro A c h
      rw [gat_num hD h, HG.out A]
    have K3 := K2.trans k3
    clear yg k3 K2 W2 hM hD HG hb
    have HK3 : Hid (Keep0 w w3) := K3
    clear K3
    go_wp2_with fail
    go_loopw [18] (fun i wr => ∃ (k : Nat), i = .int .i64 (k : Int) ∧ k ≤ m.length ∧ Hid (vAbove l (m.drop k) = r) ∧ Hid (MapAt wr b n D) ∧ Keep0 w wr) (fun i _ => m.length - (intOf i).toNat)
    case atStart => exact ⟨0, rfl, by omega, HR, HM, HK3.out⟩
    case round =>
      obtain ⟨k, rfl, hk, HK, HW, hK⟩ := hrel
      clear HM HK3 w3
      by_cases hlt : k < m.length
      · have i1 : (k : Int) < m.length := by omega
        obtain ⟨g, off, rfl, p0, p1⟩ := HB.out k hlt
        have x0 := hK.cell p0 (fun f => f)
        have x1 := hK.cell p1 (fun f => f)
        have hA2 := HMo.out m[k] (List.getElem_mem hlt)
        have hkey := WideMaps.keyOf_string_mk (P := Try.prog) Try.underlying9 hA2.1
        have hd := HK.out
        rw [above_drop hlt] at hd
        have hown : ∀ o, MapAt (wr.alloc o) b n D := fun o => HW.out.keep0 ((Keep.refl _ wr).alloc o)
        have kA : ∀ o, Keep0 w (wr.alloc o) := fun o => hK.alloc o
        have HC : Hid (∀ c : Int, D.atKey (.string m[k].a.data.toList) (.lit (.int .u64 0)) = .lit (.int .u64 c) → c = (vCount l m[k].a : Int)) := fun c h => HD.out _ c h
        by_cases h1 : m[k].n ≤ vCount l m[k].a
        · rw [decide_eq_true h1, Bool.true_and] at hd
          have HE : Hid (vAbove l (m.drop (k + 1)) = r) := hd
          have i2 : decide ((vCount l m[k].a : Int) < (m[k].n : Int)) = false := decide_eq_false (by omega)
          have i3 : ¬ (vCount l m[k].a : Int) < (m[k].n : Int) := by omega
          clear hd HK h1 p0 p1 hA2
          generalize (vCount l m[k].a : Int) = C at *
          generalize (m[k].n : Int) = N at *
          generalize m[k].a = A at *
          go_wp2_with (at_lookup; refine wpList_lookup_own_int _ rfl _ _ 49 rfl 9 28 .u64 keyed10 Try.underlying49 Try.underlying28 (zero10 _) b n D rfl (hown _) _ _ rfl hkey ?_; intro c hat hwc; obtain rfl := HC.out c hat; clear hat hwc)
          go_roundw
          case rel => exact ⟨k + 1, by go_num, by omega, HE, hown _, kA _⟩
          case measure => simp [intOf]; omega
        · rw [decide_eq_false h1, Bool.false_and] at hd
          have HE : Hid (false = r) := hd
          have i2 : decide ((vCount l m[k].a : Int) < (m[k].n : Int)) = true := decide_eq_true (by omega)
          have i3 : (vCount l m[k].a : Int) < (m[k].n : Int) := by omega
          clear hd HK h1 p0 p1 hA2
          generalize (vCount l m[k].a : Int) = C at *
          generalize (m[k].n : Int) = N at *
          generalize m[k].a = A at *
          go_wp2_with (at_lookup; refine wpList_lookup_own_int _ rfl _ _ 49 rfl 9 28 .u64 keyed10 Try.underlying49 Try.underlying28 (zero10 _) b n D rfl (hown _) _ _ rfl hkey ?_; intro c hat hwc; obtain rfl := HC.out c hat; clear hat hwc)
          go_ret
          exact ⟨by rw [← HE.out]; rfl, kA _⟩
      · have i1 : ¬ (k : Int) < m.length := by omega
        have hd := HK.out
        rw [List.drop_eq_nil_of_le (by omega)] at hd
        have HE : Hid (true = r) := hd
        clear hd HK
        go_wp2
        go_ret
        exact ⟨by rw [← HE.out]; rfl, hK⟩

/-! ### Order -/
set_option maxRecDepth 100000 in
set_option maxHeartbeats 4000000 in
theorem order10 (w : World) (ao bo : Option Addr) (ca cb : Nat) (l m : List En) (hl : Ok10 l) (hm : Ok10 m) (hA : EnsAt w ao l) (hB : EnsAt w bo m) :
    Calls Try.prog 16 #[.slice ao l.length ca, .slice bo m.length cb] w fun e w' => e = .returned (.tuple #[.int .i64 (if vRight l m = true then vOrder l m else 0), .bool (vRight l m)]) ∧ Keep0 w w' := by
  have kL : Keep0 w (w.alloc (.cells #[.slice ao l.length ca, .slice bo m.length cb] 22)) := (Keep.refl _ w).alloc _
  have yr := right10 _ _ 2 [l, m] (by show 2 ≤ 100; omega) (two_ok hl hm) (vecs_two (ca := ca) (cb := cb) 22 hA hB)
  have e2 : ([l, m] : List (List En)).length = 2 := rfl
  rw [rights_two, e2] at yr
  clear e2
  cases hR : vRight l m with
  | false =>
    rw [hR] at yr
    rw [if_neg (by decide)]
    go_enter Try.func16, Try.ntmps16
    go_wp2_with fail
    refine yr.mono ?_
    rintro e w1 ⟨rfl, k1⟩
    have K1 := kL.trans k1
    clear yr k1 kL hA hB
    go_wp2
    go_ret2
    exact ⟨rfl, K1⟩
  | true =>
    rw [hR] at yr
    rw [if_pos rfl]
    have hR' : vRight m l = true := by
      unfold vRight at hR ⊢
      rw [Bool.and_comm]
      exact hR
    have y1 := fun W (K : Keep0 w W) => descends10 W ao bo ca cb l m hl hm (hA.keep0 K) (hB.keep0 K)
    have y2 := fun W (K : Keep0 w W) => descends10 W bo ao cb ca m l hm hl (hB.keep0 K) (hA.keep0 K)
    rw [hR, Bool.true_and] at y1
    rw [hR', Bool.true_and] at y2
    have HO : Hid (∀ p q, vAbove l m = p → vAbove m l = q → vOrder l m = if p = true then (if q = true then 0 else 1) else (if q = true then -1 else 2)) := by
      intro p q hp hq
      unfold vOrder
      rw [hp, hq]
    clear hR hR' hA hB
    cases hp : vAbove l m with
    | false =>
      cases hq : vAbove m l with
      | false =>
        have hv := HO.out _ _ hp hq
        rw [if_neg (by decide), if_neg (by decide)] at hv
        rw [hv]
        rw [hp] at y1
        rw [hq] at y2
        clear hv hp hq HO
        go_enter Try.func16, Try.ntmps16
        go_wp2_with fail
        refine yr.mono ?_
        rintro e w1 ⟨rfl, k1⟩
        have K1 := kL.trans k1
        have y1 := y1 w1 K1
        clear yr k1 kL
        go_wp2_with fail
        refine y1.mono ?_
        rintro e w2 ⟨rfl, k2⟩
        have K2 := K1.trans k2
        have y2 := y2 w2 K2
        clear y1 k2 K1
        go_wp2_with fail
        refine y2.mono ?_
        rintro e w3 ⟨rfl, k3⟩
        have K3 := K2.trans k3
        clear y2 k3 K2
        go_wp2
        go_ret2
        exact ⟨rfl, K3⟩
      | true =>
        have hv := HO.out _ _ hp hq
        rw [if_neg (by decide), if_pos rfl] at hv
        rw [hv]
        rw [hp] at y1
        rw [hq] at y2
        clear hv hp hq HO
        go_enter Try.func16, Try.ntmps16
        go_wp2_with fail
        refine yr.mono ?_
        rintro e w1 ⟨rfl, k1⟩
        have K1 := kL.trans k1
        have y1 := y1 w1 K1
        clear yr k1 kL
        go_wp2_with fail
        refine y1.mono ?_
        rintro e w2 ⟨rfl, k2⟩
        have K2 := K1.trans k2
        have y2 := y2 w2 K2
        clear y1 k2 K1
        go_wp2_with fail
        refine y2.mono ?_
        rintro e w3 ⟨rfl, k3⟩
        have K3 := K2.trans k3
        clear y2 k3 K2
        go_wp2
        go_ret2
        exact ⟨rfl, K3⟩
    | true =>
      cases hq : vAbove m l with
      | false =>
        have hv := HO.out _ _ hp hq
        rw [if_pos rfl, if_neg (by decide)] at hv
        rw [hv]
        rw [hp] at y1
        rw [hq] at y2
        clear hv hp hq HO
        go_enter Try.func16, Try.ntmps16
        go_wp2_with fail
        refine yr.mono ?_
        rintro e w1 ⟨rfl, k1⟩
        have K1 := kL.trans k1
        have y1 := y1 w1 K1
        clear yr k1 kL
        go_wp2_with fail
        refine y1.mono ?_
        rintro e w2 ⟨rfl, k2⟩
        have K2 := K1.trans k2
        have y2 := y2 w2 K2
        clear y1 k2 K1
        go_wp2_with fail
        refine y2.mono ?_
        rintro e w3 ⟨rfl, k3⟩
        have K3 := K2.trans k3
        clear y2 k3 K2
        go_wp2
        go_ret2
        exact ⟨rfl, K3⟩
      | true =>
        have hv := HO.out _ _ hp hq
        rw [if_pos rfl, if_pos rfl] at hv
        rw [hv]
        rw [hp] at y1
        rw [hq] at y2
        clear hv hp hq HO
        go_enter Try.func16, Try.ntmps16
        go_wp2_with fail
        refine yr.mono ?_
        rintro e w1 ⟨rfl, k1⟩
        have K1 := kL.trans k1
        have y1 := y1 w1 K1
        clear yr k1 kL
        go_wp2_with fail
        refine y1.mono ?_
        rintro e w2 ⟨rfl, k2⟩
        have K2 := K1.trans k2
        have y2 := y2 w2 K2
        clear y1 k2 K1
        go_wp2_with fail
        refine y2.mono ?_
        rintro e w3 ⟨rfl, k3⟩
        have K3 := K2.trans k3
        clear y2 k3 K2
        go_wp2
        go_ret2
        exact ⟨rfl, K3⟩
end Go.Proofs.Ytkfilkbmdnneoaa
