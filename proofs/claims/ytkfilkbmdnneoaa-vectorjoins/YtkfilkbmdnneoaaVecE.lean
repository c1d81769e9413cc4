/-
  Contract of package vector's Event, proved over this seat's translation; and all its functions in one structure.
  Conditions: at most 10,000 entries a list; each actor takes at most the greatest length that a text may have.
-/
import Derived.Test.YtkfilkbmdnneoaaVecJ
namespace Go.Proofs.Ytkfilkbmdnneoaa
open Go.RowKit Go.Maps

theorem puts_self {l : List En} (h : Good l) : vPuts [] l = l := by
  refine vec_ext (puts_good Good.nil h.1) h (fun z => ?_)
  rw [puts_count Good.nil h z, count_nil]
  omega
theorem one_check {s : ByteArray} {n : Nat} (h1 : 0 < s.size) (h2 : s.size ≤ 32) (h3 : n ≠ 0) : vCheck [⟨s, n⟩] = 0 := (check_zero _).2 ⟨by show 1 ≤ 64; omega, Good.cons ⟨h1, h2, h3⟩ Good.nil (fun _ h => by cases h)⟩
/-- An event more is the vector joined with one of that event alone. -/
theorem event_join {l : List En} {s : ByteArray} (h : vCheck l = 0) (h1 : vCount l s ≠ 18446744073709551615) : vJoin [l, [⟨s, vCount l s + 1⟩]] = vEvent l s := by
  have hg := ((check_zero l).1 h).2
  by_cases h2 : 0 < s.size ∧ s.size ≤ 32
  · have hr : rights [l, [⟨s, vCount l s + 1⟩]] = true := rights_iff.2 (by
      intro v hv
      simp at hv
      rcases hv with rfl | rfl
      · exact h
      · exact one_check h2.1 h2.2 (by omega))
    have ev : vAll [] [l, [⟨s, vCount l s + 1⟩]] = vPut l ⟨s, vCount l s + 1⟩ := by
      show vPut (vPuts [] l) ⟨s, vCount l s + 1⟩ = _
      rw [puts_self hg]
    by_cases h3 : 64 < (vPut l ⟨s, vCount l s + 1⟩).length
    · rw [join_many hr (by rw [ev]; exact h3), event_many ⟨h, h2⟩ h1 h3]
    · rw [join_yes hr (by rw [ev]; exact h3), event_yes ⟨h, h2⟩ h1 h3, ev]
  · rw [event_no (fun e => h2 e.2)]
    unfold vJoin
    rw [if_neg]
    intro hr
    have hc := rights_iff.1 hr [⟨s, vCount l s + 1⟩] (by simp)
    have ho := ((check_zero _).1 hc).2.head
    exact h2 ⟨ho.1, ho.2.1⟩
theorem bad_count {l : List En} {s : ByteArray} (h : vCheck l = 0) (h1 : vCount l s = 18446744073709551615) : vCheck l = 0 ∧ 0 < s.size ∧ s.size ≤ 32 := by
  have hg := ((check_zero l).1 h).2
  obtain ⟨x, hx, rfl, _⟩ := count_pos (v := l) (a := s) (by rw [h1]; decide)
  exact ⟨h, (hg.1 x hx).1, (hg.1 x hx).2.1⟩
theorem vecs_event {w : World} {ao : Option Addr} {ca : Nat} {l : List En} (t u : TypeId) (x : En) (ha : EnsAt w ao l) :
    VecsAt ((w.alloc (.cells #[.string x.a, .int .u64 (x.n : Int)] t)).alloc (.cells #[.slice ao l.length ca, .slice (some ⟨w.heap.size, 0, none⟩) 1 1] u)) (some ⟨w.heap.size + 1, 0, none⟩) [l, [x]] := by
  have k : Keep0 w (w.alloc (.cells #[.string x.a, .int .u64 (x.n : Int)] t)) := (Keep.refl _ w).alloc _
  have := vecs_two (ca := ca) (cb := 1) u (ha.keep0 k) (en_new w t x)
  rw [World.size_alloc] at this
  exact this
set_option maxRecDepth 100000 in
set_option maxHeartbeats 8000000 in
theorem event10 (w : World) (ao : Option Addr) (cap : Nat) (l : List En) (ok : Ok10 l) (hc : EnsAt w ao l) (s : ByteArray) (hs : s.size ≤ maxLen) :
    Calls Try.prog 18 #[.slice ao l.length cap, .string s] w (REnsE (vEvent l s) w) := by
  have kL : Keep0 w (w.alloc (.cells #[.slice ao l.length cap] 22)) := (Keep.refl _ w).alloc _
  have yr := right10 _ _ 1 [l] (by show 1 ≤ 100; omega) (one_ok ok) (vecs_one (ca := cap) 22 hc)
  have e1 : ([l] : List (List En)).length = 1 := rfl
  rw [rights_one, e1] at yr
  clear e1
  have HE : Hid (∀ (W : World) (e : Ending) (E : Int), vEvent l s = ([], E) → e = .returned (.tuple #[.slice none 0 0, .int .i64 E]) → Keep0 w W → REnsE (vEvent l s) w e W) := fun _ _ _ h1 h2 h3 => REnsE.bare h1 h2 h3
  by_cases h0 : vCheck l = 0
  · have e0 : (vCheck l == 0) = true := by rw [h0]; rfl
    rw [e0] at yr
    have yn := fun W (K : Keep0 w W) => count10 W ao cap l ok (hc.keep0 K) s
    by_cases h1 : vCount l s = 18446744073709551615
    · have HV : Hid (vEvent l s = ([], 5)) := event_over (bad_count h0 h1) h1
      rw [h1] at yn
      clear e0 h0 h1 hc
      go_enter Try.func18, Try.ntmps18
      go_wp2_with fail
      refine yr.mono ?_
      rintro e w1 ⟨rfl, k1⟩
      have K1 := kL.trans k1
      have yn := yn w1 K1
      clear yr k1 kL
      go_wp2_with fail
      refine yn.mono ?_
      rintro e w2 ⟨rfl, k2⟩
      have K2 := K1.trans k2
      clear yn k2 K1
      go_wp2
      go_ret2
      exact HE.out _ _ _ HV.out rfl K2
    · have i3 : ((vCount l s : Int) == 18446744073709551615) = false := beq_eq_false_iff_ne.2 (by omega)
      have i3' : ¬ (vCount l s : Int) = 18446744073709551615 := by omega
      have hlt := count_lt (fun x hx => (ok.2 x hx).2) s
      have yj := fun W (K : Keep0 w W) => join10 _ _ 2 [l, [⟨s, vCount l s + 1⟩]] (by show 2 ≤ 100; omega) (two_ok ok (by
        refine ⟨by show 1 ≤ 10000; omega, ?_⟩
        intro x hx
        simp at hx
        subst hx
        exact ⟨hs, by show vCount l s + 1 < _; omega⟩)) (vecs_event (ca := cap) 45 22 ⟨s, vCount l s + 1⟩ (hc.keep0 K))
      rw [event_join h0 h1] at yj
      have HM : Hid (∀ (W0 W : World) (e : Ending), Keep0 w W0 → REnsE (vEvent l s) W0 e W → REnsE (vEvent l s) w e W) := by
        rintro W0 W e K ⟨bo, c, h1, h2, h3, h4⟩
        exact ⟨bo, c, h1, h2, (fun g off m e => Nat.le_trans K.size (h3 g off m e)), K.trans h4⟩
      have i4 : IntKind.u64.wrap ((vCount l s : Int) + 1) = ((vCount l s + 1 : Nat) : Int) := by rw [IntKind.wrap_u64]; omega
      have e2 : ∀ x : En, ([l, [x]] : List (List En)).length = 2 := fun _ => rfl
      rw [e2] at yj
      clear e0 h0 h1 hc HE e2
      obtain ⟨N, hN⟩ : ∃ N, vCount l s = N := ⟨_, rfl⟩
      obtain ⟨N1, hN1⟩ : ∃ N1, N + 1 = N1 := ⟨_, rfl⟩
      rw [hN] at yn yj i3 i3' i4
      rw [hN1] at yj i4
      have i5 : (N : Int) + 1 = (N1 : Int) := by omega
      have i6 : IntKind.u64.wrap (N1 : Int) = (N1 : Int) := by rw [i5] at i4; exact i4
      clear hN hN1 hlt i4
      go_enter Try.func18, Try.ntmps18
      go_wp2_with fail
      refine yr.mono ?_
      rintro e w1 ⟨rfl, k1⟩
      have K1 := kL.trans k1
      have yn := yn w1 K1
      clear yr k1 kL
      go_wp2_with fail
      refine yn.mono ?_
      rintro e w2 ⟨rfl, k2⟩
      have K2 := K1.trans k2
      have yj := yj w2 K2
      have K3 : Keep0 w ((w2.alloc (.cells #[.string s, .int .u64 (N1 : Int)] 45)).alloc (.cells #[.slice ao l.length cap, .slice (some ⟨w2.heap.size, 0, none⟩) 1 1] 22)) := (K2.alloc _).alloc _
      clear yn k2 K1
      go_wp2_with fail
      generalize ((w2.alloc (.cells #[.string s, .int .u64 (N1 : Int)] 45)).alloc (.cells #[.slice ao l.length cap, .slice (some ⟨w2.heap.size, 0, none⟩) 1 1] 22)) = W3 at *
      refine yj.mono ?_
      rintro e w4 h4
      have h5 := HM.out _ _ _ K3 h4
      obtain ⟨bo, c, rfl, _⟩ := h4
      have H5 : Hid (REnsE (vEvent l s) w (.returned (.tuple #[.slice bo (vEvent l s).1.length c, .int .i64 (vEvent l s).2])) w4) := h5
      clear h5 yj HM K3 K2
      generalize (vEvent l s).1.length = VL at *
      generalize (vEvent l s).2 = VE at *
      go_wp2
      go_ret2
      exact H5.out
  · have e0 : (vCheck l == 0) = false := beq_eq_false_iff_ne.2 h0
    rw [e0] at yr
    have HV : Hid (vEvent l s = ([], 1)) := event_no (fun h => h0 h.1)
    clear e0 h0 hc
    go_enter Try.func18, Try.ntmps18
    go_wp2_with fail
    refine yr.mono ?_
    rintro e w1 ⟨rfl, k1⟩
    have K1 := kL.trans k1
    clear yr k1 kL
    go_wp2
    go_ret2
    exact HE.out _ _ _ HV.out rfl K1

/-- What package vector's functions answer. -/
theorem vecCode : VecCode := {
  check := check10
  count := fun w ao cap l ok hc s _ => count10 w ao cap l ok hc s
  same := same10
  descends := descends10
  order := order10
  join := join10
  event := event10 }
end Go.Proofs.Ytkfilkbmdnneoaa
