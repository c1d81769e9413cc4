/-
  Contract of package vector's Event, proved over this seat's translation; and all its functions in one structure.
  Conditions: at most 10,000 entries a list; each actor takes at most the greatest length that a text may have.
-/
import Derived.Test.YtkbihpdfafapeaaVecJ
namespace Go.Proofs.Ytkbihpdfafapeaa
open Go.RowKit Go.Maps

theorem puts_self {l : List En} (h : Good l) : vPuts [] l = l := by
  refine vec_ext (puts_good Good.nil h.1) h (fun z => ?_)
  rw [puts_count Good.nil h z, count_nil]
  omega
theorem one_check {s : ByteArray} {n : Nat} (h1 : 0 < s.size) (h2 : s.size ≤ 32) (h3 : n ≠ 0) : vCheck [⟨s, n⟩] = 0 := (check_zero _).2 ⟨by show 1 ≤ 64; omega, Good.cons ⟨h1, h2, h3⟩ Good.nil (fun _ h => by cases h)⟩
/-- An event more is the vector joined with one of that event alone. -/
theorem event_join {l : List En} {s : ByteArray} (h : vCheck l = 0) (h1 : vCount l s ≠ 18446744073709551615) : vJoin [l, [⟨s, vCount l s + 1⟩]] = vEvent l s := by
  have hg := ((check_zero l).1 h).2
  by_cases h2 : 0 < s.size ∧ s.size ≤ 32
  · have hr : rights [l, [⟨s, vCount l s + 1⟩]] = true := rights_iff.2 (by
      intro v hv
      simp at hv
      rcases hv with rfl | rfl
      · exact h
      · exact one_check h2.1 h2.2 (by omega))
    have ev : vAll [] [l, [⟨s, vCount l s + 1⟩]] = vPut l ⟨s, vCount l s + 1⟩ := by
      show vPut (vPuts [] l) ⟨s, vCount l s + 1⟩ = _
      rw [puts_self hg]
    by_cases h3 : 64 < (vPut l ⟨s, vCount l s + 1⟩).length
    · rw [join_many hr (by rw [ev]; exact h3), event_many ⟨h, h2⟩ h1 h3]
    · rw [join_yes hr (by rw [ev]; exact h3), event_yes ⟨h, h2⟩ h1 h3, ev]
  · rw [event_no (fun e => h2 e.2)]
    unfold vJoin
    rw [if_neg]
    intro hr
    have hc := rights_iff.1 hr [⟨s, vCount l s + 1⟩] (by simp)
    have ho := ((check_zero _).1 hc).2.head
    exact h2 ⟨ho.1, ho.2.1⟩
theorem bad_count {l : List En} {s : ByteArray} (h : vCheck l = 0) (h1 : vCount l s = 18446744073709551615) : vCheck l = 0 ∧ 0 < s.size ∧ s.size ≤ 32 := by
  have hg := ((check_zero l).1 h).2
  obtain ⟨x, hx, rfl, _⟩ := count_pos (v := l) (a := s) (by rw [h1]; decide)
  exact ⟨h, (hg.1 x hx).1, (hg.1 x hx).2.1⟩
theorem vecs_event {w : World} {ao : Option Addr} {ca : Nat} {l : List En} (t u : TypeId) (x : En) (ha : EnsAt w ao l) :
    VecsAt ((w.alloc (.cells #[.string x.a, .int .u64 (x.n : Int)] t)).alloc (.cells #[.slice ao l.length ca, .slice (some ⟨w.heap.size, 0, none⟩) 1 1] u)) (some ⟨w.heap.size + 1, 0, none⟩) [l, [x]] := by
  have k : Keep0 w (w.alloc (.cells #[.string x.a, .int .u64 (x.n : Int)] t)) := (Keep.refl _ w).alloc _
  have := vecs_two (ca := ca) (cb := 1) u (ha.keep0 k) (en_new w t x)
  rw [World.size_alloc] at this
  exact this
end Go.Proofs.Ytkbihpdfafapeaa
