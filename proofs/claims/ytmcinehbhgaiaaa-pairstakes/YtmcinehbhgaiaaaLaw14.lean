/-
  What package pairs' functions are claimed to answer, as one structure (PairCode), and the example that every law of layer 14 begins with, out of it.
  Conditions: at most 10,000 pairs a list, within its room; 1,000 others; texts of at most 1,000,000 bytes.
-/
import Derived.Test.YtmcinehbhgaiaaaRefPairs2
import Derived.Test.YtmcinehbhgaiaaaRefPairs3
import Derived.Test.YtmcinehbhgaiaaaRefPairs4
import Derived.Test.YtmcinehbhgaiaaaOpen14
import Derived.Test.YtmcinehbhgaiaaaL2
namespace Go.Proofs.Ytmcinehbhgaiaaa
open Go.RowKit

def Ok14 (l : List Pr) (cap : Nat) : Prop := l.length ≤ 10000 ∧ (∀ x ∈ l, x.n.size ≤ maxLen ∧ x.v.size ≤ maxLen) ∧ CapP l cap
theorem Ok14.fits {l : List Pr} {cap : Nat} (h : Ok14 l cap) : FitsP l := ⟨by have := h.1; unfold maxLen; omega, h.2.1⟩
/-- The value of a name, and whether there is one. -/
def valT (l : List Pr) (s : ByteArray) : ByteArray := (qVal l s).getD ⟨#[]⟩
def valB (l : List Pr) (s : ByteArray) : Bool := (qVal l s).isSome
/-- What package pairs' functions answer. -/
structure PairCode : Prop where
  check : ∀ (w : World) (ao : Option Addr) (cap : Nat) (l : List Pr), Ok14 l cap → PrsAt w ao l → Calls Try.prog 14 #[.slice ao l.length cap] w fun e w' => e = .returned (.int .i64 (qCheck l)) ∧ Keep0 w w'
  take : ∀ {w : World} {b : Nat} {s : ByteArray} {a x : Int}, Cur w b s a x → s.size ≤ 1000000 → Calls Try.prog 18 #[ptr b] w (RTakeP (rX [] rPrs s a x) s b w)
  put : ∀ {w : World} {b r : Nat} {t : ByteArray} {M x : Int} (ao : Option Addr) (cap : Nat) (l : List Pr), Pen w b r t M x → t.size ≤ 1000000000 → Ok14 l cap → (∀ x ∈ l, x.n.size ≤ 1000000 ∧ x.v.size ≤ 1000000) → PrsAt w ao l → (0 < l.length → ApartE (two b r) ao) →
    Calls Try.prog 10 #[pptr b, .slice ao l.length cap] w fun e w' => e = .returned (.tuple #[]) ∧ PenAfter w w' b r M (pPrs M (t, x) l)
  value : ∀ (w : World) (ao : Option Addr) (cap : Nat) (l : List Pr) (s : ByteArray), Ok14 l cap → PrsAt w ao l → s.size ≤ maxLen → Calls Try.prog 27 #[.slice ao l.length cap, .string s] w fun e w' => e = .returned (.tuple #[.string (valT l s), .bool (valB l s)]) ∧ Keep0 w w'
  with' : ∀ (w : World) (ao : Option Addr) (cap : Nat) (l : List Pr) (mo : Option Addr) (mc : Nat) (more : List Pr), Ok14 l cap → PrsAt w ao l → Ok14 more mc → PrsAt w mo more → more.length ≤ 1000 →
    Calls Try.prog 24 #[.slice ao l.length cap, .slice mo more.length mc] w (RPrsE (qWith l more) w)
  same : ∀ (w : World) (ao : Option Addr) (ca : Nat) (l : List Pr) (bo : Option Addr) (cb : Nat) (m : List Pr), Ok14 l ca → PrsAt w ao l → Ok14 m cb → PrsAt w bo m →
    Calls Try.prog 26 #[.slice ao l.length ca, .slice bo m.length cb] w fun e w' => e = .returned (.bool (qSame l m)) ∧ Keep0 w w'
def x14 : List Pr := [⟨⟨#[97]⟩, ⟨#[49]⟩⟩, ⟨⟨#[98]⟩, ⟨#[50]⟩⟩]
def m14 : List Pr := [⟨⟨#[97]⟩, ⟨#[51]⟩⟩]
def y14 : List Pr := [⟨⟨#[97]⟩, ⟨#[51]⟩⟩, ⟨⟨#[98]⟩, ⟨#[50]⟩⟩]
theorem x14_with : qWith x14 m14 = (y14, 0) := by rfl
theorem x14_same : qSame y14 y14 = true := qSame_iff.2 rfl
theorem ok14_small {l : List Pr} {cap : Nat} (h1 : l.length = cap) (h2 : cap ≤ 2) (h : ∀ x ∈ l, x.n.size ≤ 1 ∧ x.v.size ≤ 1) : Ok14 l cap :=
  ⟨by omega, fun x hx => by have := h x hx; unfold maxLen; omega, by omega, by unfold maxLen; omega⟩
theorem x14_ok : Ok14 x14 2 := ok14_small rfl (by decide) (by
  intro x hx
  have hx : x = ⟨⟨#[97]⟩, ⟨#[49]⟩⟩ ∨ x = ⟨⟨#[98]⟩, ⟨#[50]⟩⟩ := by simpa [x14] using hx
  rcases hx with rfl | rfl <;> exact ⟨by decide, by decide⟩)
theorem m14_ok : Ok14 m14 1 := ok14_small rfl (by decide) (by
  intro x hx
  have hx : x = ⟨⟨#[97]⟩, ⟨#[51]⟩⟩ := by simpa [m14] using hx
  rw [hx]; exact ⟨by decide, by decide⟩)
theorem y14_sizes : ∀ x ∈ y14, x.n.size ≤ 1 ∧ x.v.size ≤ 1 := by
  intro x hx
  have hx : x = ⟨⟨#[97]⟩, ⟨#[51]⟩⟩ ∨ x = ⟨⟨#[98]⟩, ⟨#[50]⟩⟩ := by simpa [y14] using hx
  rcases hx with rfl | rfl <;> exact ⟨by decide, by decide⟩
theorem y14_ok : Ok14 y14 2 := ok14_small rfl (by decide) y14_sizes
theorem prs_new2 (w : World) (t : TypeId) (x y : Pr) : PrsAt (w.alloc (.cells #[.string x.n, .string x.v, .string y.n, .string y.v] t)) (some ⟨w.heap.size, 0, none⟩) [x, y] := by
  intro i hi
  have hi : i = 0 ∨ i = 1 := by simp at hi; omega
  rcases hi with rfl | rfl
  · exact ⟨w.heap.size, 0, rfl, cell_alloc w t rfl, cell_alloc w t rfl⟩
  · exact ⟨w.heap.size, 0, rfl, cell_alloc w t rfl, cell_alloc w t rfl⟩
set_option maxRecDepth 100000 in
theorem awake14 (V : PairCode) (w : World) : Calls Try.prog 6 #[] w fun e w' => e = .returned (.bool true) ∧ Keep0 w w' := by
  have kA : Keep0 w (w.alloc (.cells #[.string ⟨#[97]⟩, .string ⟨#[49]⟩, .string ⟨#[98]⟩, .string ⟨#[50]⟩] 59)) := (Keep.refl _ w).alloc _
  have hA : PrsAt (w.alloc (.cells #[.string ⟨#[97]⟩, .string ⟨#[49]⟩, .string ⟨#[98]⟩, .string ⟨#[50]⟩] 59)) (some ⟨w.heap.size, 0, none⟩) x14 := prs_new2 w 59 ⟨⟨#[97]⟩, ⟨#[49]⟩⟩ ⟨⟨#[98]⟩, ⟨#[50]⟩⟩
  have sA : (w.alloc (.cells #[.string ⟨#[97]⟩, .string ⟨#[49]⟩, .string ⟨#[98]⟩, .string ⟨#[50]⟩] 59)).heap.size = w.heap.size + 1 := World.size_alloc _ _
  have kB : Keep0 (w.alloc (.cells #[.string ⟨#[97]⟩, .string ⟨#[49]⟩, .string ⟨#[98]⟩, .string ⟨#[50]⟩] 59)) ((w.alloc (.cells #[.string ⟨#[97]⟩, .string ⟨#[49]⟩, .string ⟨#[98]⟩, .string ⟨#[50]⟩] 59)).alloc (.cells #[.string ⟨#[97]⟩, .string ⟨#[51]⟩] 59)) := (Keep.refl _ _).alloc _
  have hB := pr_new (w.alloc (.cells #[.string ⟨#[97]⟩, .string ⟨#[49]⟩, .string ⟨#[98]⟩, .string ⟨#[50]⟩] 59)) 59 ⟨⟨#[97]⟩, ⟨#[51]⟩⟩
  rw [sA] at hB
  have y := V.with' _ _ 2 x14 _ 1 m14 x14_ok (hA.keep0 kB) m14_ok hB (by decide)
  rw [x14_with] at y
  have e1 : x14.length = 2 := rfl
  have e2 : m14.length = 1 := rfl
  have e3 : y14.length = 2 := rfl
  rw [e1, e2] at y
  have KB := kA.trans kB
  have HS : Hid (∀ W bo c, PrsAt W bo y14 → CapP y14 c → Calls Try.prog 26 #[.slice bo 2 c, .slice (some ⟨W.heap.size, 0, none⟩) 2 2] (W.alloc (.cells #[.string ⟨#[97]⟩, .string ⟨#[51]⟩, .string ⟨#[98]⟩, .string ⟨#[50]⟩] 59)) fun e w' => e = .returned (.bool true) ∧ Keep0 W w') := by
    intro W bo c h1 h2
    have kC : Keep0 W (W.alloc (.cells #[.string ⟨#[97]⟩, .string ⟨#[51]⟩, .string ⟨#[98]⟩, .string ⟨#[50]⟩] 59)) := (Keep.refl _ W).alloc _
    have q := V.same _ bo c y14 _ 2 y14 ⟨by decide, fun x hx => by have := y14_sizes x hx; unfold maxLen; omega, h2⟩ (h1.keep0 kC) y14_ok (prs_new2 W 59 ⟨⟨#[97]⟩, ⟨#[51]⟩⟩ ⟨⟨#[98]⟩, ⟨#[50]⟩⟩)
    rw [x14_same, e3] at q
    refine q.mono ?_
    rintro e w' ⟨rfl, k⟩
    exact ⟨rfl, kC.trans k⟩
  clear hA sA kB hB e1 e2 kA
  go_enter Try.func6, Try.ntmps6
  go_wp2_with fail
  generalize (w.alloc (.cells #[.string ⟨#[97]⟩, .string ⟨#[49]⟩, .string ⟨#[98]⟩, .string ⟨#[50]⟩] 59)).alloc (.cells #[.string ⟨#[97]⟩, .string ⟨#[51]⟩] 59) = w0 at *
  refine y.mono ?_
  rintro e w1 ⟨bo, c, rfl, h1, h2, h3, k1⟩
  have K1 := KB.trans k1
  have ys := HS.out w1 bo c h1 h3
  clear y k1 KB h1 h2 h3 HS
  rw [e3]
  clear e3
  go_wp2_with fail
  refine ys.mono ?_
  rintro e w2 ⟨rfl, k2⟩
  have K2 := K1.trans k2
  clear ys k2 K1
  go_wp2
  go_ret
  exact ⟨rfl, K2⟩
end Go.Proofs.Ytmcinehbhgaiaaa
