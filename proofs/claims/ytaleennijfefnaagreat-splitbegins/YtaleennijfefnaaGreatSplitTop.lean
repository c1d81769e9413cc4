/-
  Contracts of package split's All, Starts and Begins, each proved over this seat's translation.
  Conditions: the text takes at most 1,000,000 bytes.
-/
import Derived.Test.YtaleennijfefnaaGreatSplitFns
namespace Go.Proofs.YtaleennijfefnaaGreat
open Go.RowKit

set_option maxRecDepth 100000 in
theorem all8_any (w : World) (s : ByteArray) (hs : s.size ≤ 1000000) :
    Calls Tryz.prog 7 #[.string s] w fun e w' => ∃ ao cap, e = .returned (.tuple #[.slice ao (frsOf (sAll s).1).length cap, .int .i64 ((sAll s).2.1 : Int), .int .i64 (sAll s).2.2]) ∧
      FramesAt w' ao (frsOf (sAll s).1) ∧ (∀ b off m, ao = some ⟨b, off, m⟩ → w.heap.size ≤ b) ∧ Keep0 w w' := by
  have k0 : Keep0 w (w.alloc (.cells #[.slice none 0 0] 23)) := (Keep.refl _ w).alloc _
  have hc : (w.alloc (.cells #[.slice none 0 0] 23)).heap[w.heap.size]? = some (.cells #[.slice none 0 0] 23 (0, 0)) := (MapKept.heap_alloc w _).1
  have hz : (w.alloc (.cells #[.slice none 0 0] 23)).heap.size = w.heap.size + 1 := World.size_alloc _ _
  have y := apartF hc s hs
  generalize (sAll s).1 = FS at *
  generalize (sAll s).2.1 = LT at *
  generalize (sAll s).2.2 = ER at *
  go_enter Tryz.func7, Tryz.ntmps7
  go_wp2_with fail
  generalize w.alloc (.cells #[.slice none 0 0] 23) = w0 at *
  generalize hg : w.heap.size = c at *
  refine y.mono ?_
  rintro e w1 ⟨rfl, ⟨hl, v, hv, ho⟩, k1⟩
  have K1 : Keep0 w w1 := k0.step k1 (fun i hi hh => by omega)
  obtain ⟨ao, cap, rfl, h1, h2⟩ := frames_of_row ho
  have x0 := cell_of_one hv
  clear y k0 hc ho hv k1
  go_wp2
  go_ret3
  exact ⟨ao, cap, rfl, h1, fun b off m e => by have := h2 b off m e; omega, K1⟩
set_option maxRecDepth 100000 in
theorem starts8_any (w : World) (s : ByteArray) (hs : s.size ≤ 1000000) :
    Calls Tryz.prog 12 #[.string s] w fun e w' => ∃ ao cap, e = .returned (.slice ao (natsOf (sAll s).1).length cap) ∧
      NatsAt w' ao (natsOf (sAll s).1) ∧ (∀ b off m, ao = some ⟨b, off, m⟩ → w.heap.size ≤ b) ∧ Keep0 w w' := by
  have k0 : Keep0 w (w.alloc (.cells #[.slice none 0 0] 27)) := (Keep.refl _ w).alloc _
  have hc : (w.alloc (.cells #[.slice none 0 0] 27)).heap[w.heap.size]? = some (.cells #[.slice none 0 0] 27 (0, 0)) := (MapKept.heap_alloc w _).1
  have hz : (w.alloc (.cells #[.slice none 0 0] 27)).heap.size = w.heap.size + 1 := World.size_alloc _ _
  have y := apartN hc s hs
  generalize (sAll s).1 = FS at *
  generalize (sAll s).2.1 = LT at *
  generalize (sAll s).2.2 = ER at *
  go_enter Tryz.func12, Tryz.ntmps12
  go_wp2_with fail
  generalize w.alloc (.cells #[.slice none 0 0] 27) = w0 at *
  generalize hg : w.heap.size = c at *
  refine y.mono ?_
  rintro e w1 ⟨rfl, ⟨hl, v, hv, ho⟩, k1⟩
  have K1 : Keep0 w w1 := k0.step k1 (fun i hi hh => by omega)
  obtain ⟨ao, cap, rfl, h1, h2⟩ := nats_of_row ho
  have x0 := cell_of_one hv
  clear y k0 hc ho hv k1
  go_wp2
  go_ret
  exact ⟨ao, cap, rfl, h1, fun b off m e => by have := h2 b off m e; omega, K1⟩
set_option maxRecDepth 100000 in
theorem begins8_any (w : World) (s : ByteArray) (hs : s.size ≤ maxLen) :
    Calls Tryz.prog 13 #[.string s] w fun e w' => e = .returned (.bool (qErr s 0 0 == 2)) ∧ Keep0 w w' := by
  have yd := fun W kb (h : CoderAt W kb) => decode7_any h s hs
  rw [sFr_val] at yd
  unfold Fr.val fr at yd
  generalize sFr s = f at *
  generalize qErr s 0 0 = E at *
  generalize qLen s = L at *
  go_enter Tryz.func13, Tryz.ntmps13
  go_wp2_with fail
  refine (newcoder_any _).mono ?_
  rintro e w1 ⟨rfl, c1, k1⟩
  have y := yd _ _ c1
  generalize kptr (some w.heap.size) = KV at *
  go_wp2_with fail
  refine y.mono ?_
  rintro e w2 ⟨rfl, c2, k2⟩
  have K2 : Keep0 w w2 := k1.step k2 (fun i hi hh => by cases hh; omega)
  clear y yd c1 k1 k2 c2
  go_wp2
  go_ret
  exact ⟨rfl, K2.alloc _⟩
end Go.Proofs.YtaleennijfefnaaGreat
