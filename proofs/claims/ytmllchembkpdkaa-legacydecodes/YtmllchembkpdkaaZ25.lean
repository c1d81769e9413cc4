/-
  What this seat's claims lean on of the texts OldRead.
  Conditions: as each theorem states.
-/
import Derived.WalkKit
import Derived.ProofKit
import Derived.Below
import Derived.Deep.Draws
import Derived.Deep.RegionHeld
import Derived.Test.YtmllchembkpdkaaChecked
import Derived.OpenShut
import Derived.ShutString
import Derived.WalkSpells
import Derived.WalkLawsBesides
import Derived.Deep.QuietTactic
import Derived.BigQuiet
import Derived.Laws.Bits64b
import Derived.PlainAid
import Derived.Lib.AppendStr
import Derived.Deep.AppendLies
import Derived.Laws.IdiomStrings
import Derived.Laws.BytesArg
import Derived.Deep.RegionWith
import Derived.Laws.AppendOwn
import Derived.Deep.DeepAppendWide
import Derived.Deep.Upon
import Derived.Maps.AppendAt
import Derived.Deep.Slices
import Derived.Test.YtmllchembkpdkaaZ22
namespace Go.Proofs.Ytmllchembkpdkaa
open Go.RowKit
theorem flag_bad17 {s : ByteArray} {a x : Int} (h : x ≠ 0) : cAt s a x 1 = a ∧ gErr s a x = x := by
  refine ⟨cAt_bad 1 h, ?_⟩
  have h0 : cByte s a x = 0 := if_neg (fun e => h e.1)
  unfold gErr
  rw [h0, if_neg (by decide), cErr_bad 1 h]
theorem chain17 {s : ByteArray} {A A1 E1 A3 E3 : Int} {c : List En} (hV : rVec s A = (c, A1, E1)) (hA : bAt s (cAt s A1 E1 1) (gErr s A1 E1) 32768 = A3) (hE : bErr s (cAt s A1 E1 1) (gErr s A1 E1) 32768 = E3) :
    (rOs s A).2 = (A3, E3) ∧ (E3 = 0 → rOs s A = (⟨c, gSet s A1 E1, bTxt s (cAt s A1 E1 1) (gErr s A1 E1) 32768⟩, A3, 0)) := by
  by_cases h1 : E1 = 0
  · subst h1
    by_cases h2 : gErr s A1 0 = 0
    · rw [h2] at hA hE ⊢
      by_cases h3 : E3 = 0
      · subst h3
        have h := os_4 hV h2 hE
        rw [hA] at h
        exact ⟨by rw [h], fun _ => h⟩
      · have h := os_3 hV h2 (by rw [hE]; exact h3)
        rw [hA, hE] at h
        exact ⟨by rw [h], fun e => absurd e h3⟩
    · have h := os_2 hV h2
      obtain ⟨_, b2, b3⟩ := b_bad (s := s) (a := cAt s A1 0 1) 32768 h2
      rw [b2] at hA
      rw [b3] at hE
      rw [hA, hE] at h
      exact ⟨by rw [h], fun e => absurd (hE.trans e) h2⟩
  · have h := os_1 (s := s) (a := A) (by rw [hV]; exact h1)
    obtain ⟨f1, f2⟩ := flag_bad17 (s := s) (a := A1) h1
    rw [f1, f2] at hA hE
    obtain ⟨_, b2, b3⟩ := b_bad (s := s) (a := A1) 32768 h1
    rw [b2] at hA
    rw [b3] at hE
    rw [hV, hA, hE] at h
    exact ⟨by rw [h], fun e => absurd (hE.trans e) h1⟩
structure TAt (w : World) (g : Nat) (v0 v1 v2 : Value) : Prop where
  blk : ∃ ty, w.heap[g]? = some (.cells #[v0, v1, v2] ty)
section
variable {w : World} {g : Nat} {v0 v1 v2 : Value}
theorem TAt.lt (h : TAt w g v0 v1 v2) : g < w.heap.size := by
  obtain ⟨ty, hk⟩ := h.blk
  exact (Array.getElem?_eq_some_iff.mp hk).1
theorem TAt.cells (h : TAt w g v0 v1 v2) : w.cell? ⟨g, 0, none⟩ = some v0 ∧ w.cell? ⟨g, 1, none⟩ = some v1 ∧ w.cell? ⟨g, 2, none⟩ = some v2 ∧ w.frozen? ⟨g, 0, none⟩ = false ∧ w.frozen? ⟨g, 1, none⟩ = false ∧ w.frozen? ⟨g, 2, none⟩ = false := by
  obtain ⟨ty, hk⟩ := h.blk
  simp [World.cell?, World.frozen?, hk]
theorem TAt.keep {R : Nat → Prop} {w' : World} (h : TAt w g v0 v1 v2) (K : Keep R w w') (hn : ¬ R g) : TAt w' g v0 v1 v2 := by
  obtain ⟨ty, hk⟩ := h.blk
  exact ⟨ty, by rw [K.block g h.lt hn]; exact hk⟩
theorem TAt.keep0 {w' : World} (h : TAt w g v0 v1 v2) (K : Keep0 w w') : TAt w' g v0 v1 v2 := h.keep K (fun f => f)
theorem TAt.new (w : World) (ty : TypeId) (v0 v1 v2 : Value) : TAt (w.alloc (.cells #[v0, v1, v2] ty)) w.heap.size v0 v1 v2 := ⟨ty, (MapKept.heap_alloc w _).1⟩
theorem TAt.set0 (h : TAt w g v0 v1 v2) (u : Value) : TAt (w.setCell ⟨g, 0, none⟩ u) g u v1 v2 := by
  obtain ⟨ty, hk⟩ := h.blk
  exact ⟨ty, by rw [heap_setCell_at hk]; rfl⟩
theorem TAt.set1 (h : TAt w g v0 v1 v2) (u : Value) : TAt (w.setCell ⟨g, 1, none⟩ u) g v0 u v2 := by
  obtain ⟨ty, hk⟩ := h.blk
  exact ⟨ty, by rw [heap_setCell_at hk]; rfl⟩
theorem TAt.set2 (h : TAt w g v0 v1 v2) (u : Value) : TAt (w.setCell ⟨g, 2, none⟩ u) g v0 v1 u := by
  obtain ⟨ty, hk⟩ := h.blk
  exact ⟨ty, by rw [heap_setCell_at hk]; rfl⟩
end
def LoopL (s : ByteArray) (N k : Nat) (O : List Po) (A E : Int) (R : List Os × Int × Int) : Prop :=
  (E = 0 ∧ O.length = k ∧ R = liftM (O.map Po.x) (rOss (N - k) (O.map Po.x) s A) ∧ ∀ p ∈ O, FitsOs p.x) ∨ (E ≠ 0 ∧ R = ([], A, E))
def InL (O : List Po) (c : List En) (E3 : Int) (k : Nat) (E : Int) : Prop :=
  (E3 ≠ 0 ∧ E = E3) ∨ (E3 = 0 ∧ E = 0 ∧ ∀ q (_ : q < O.length), q < k → O[q].x.c ≠ c) ∨ (E3 = 0 ∧ E = 6 ∧ ∃ q, ∃ _ : q < O.length, O[q].x.c = c)
theorem InL.start (O : List Po) (c : List En) (E3 : Int) : InL O c E3 0 E3 := by
  by_cases h : E3 = 0
  · exact .inr (.inl ⟨h, h, fun q _ hq => absurd hq (Nat.not_lt_zero q)⟩)
  · exact .inl ⟨h, rfl⟩
theorem InL.skip {O : List Po} {c : List En} {E3 E : Int} {k : Nat} (h : InL O c E3 k E) (hE : E ≠ 0) : InL O c E3 (k + 1) E := by
  rcases h with h | ⟨_, h, _⟩ | h
  · exact .inl h
  · exact absurd h hE
  · exact .inr (.inr h)
theorem InL.no {O : List Po} {c : List En} {E3 : Int} {k : Nat} (h : InL O c E3 k 0) (hk : k < O.length) (hc : O[k].x.c ≠ c) : InL O c E3 (k + 1) 0 := by
  rcases h with ⟨h1, h2⟩ | ⟨h1, _, h3⟩ | ⟨_, h2, _⟩
  · exact absurd h2.symm h1
  · refine .inr (.inl ⟨h1, rfl, fun q hq h4 => ?_⟩)
    by_cases e : q = k
    · subst e; exact hc
    · exact h3 q hq (by omega)
  · exact absurd h2 (by decide)
theorem InL.yes {O : List Po} {c : List En} {E3 : Int} {k : Nat} (h : InL O c E3 k 0) (hk : k < O.length) (hc : O[k].x.c = c) : InL O c E3 (k + 1) 6 := by
  rcases h with ⟨h1, h2⟩ | ⟨h1, _, _⟩ | ⟨_, h2, _⟩
  · exact absurd h2.symm h1
  · exact .inr (.inr ⟨h1, rfl, k, hk, hc⟩)
  · exact absurd h2 (by decide)
theorem LoopL.next {s : ByteArray} {N k : Nat} {O : List Po} {A A3 E3 E : Int} {R : List Os × Int × Int} {p : Po} (hk : k < N) (h0 : O.length = k) (hR : R = liftM (O.map Po.x) (rOss (N - k) (O.map Po.x) s A)) (hf : ∀ p ∈ O, FitsOs p.x) (h2 : (rOs s A).2 = (A3, E3)) (h1 : E3 = 0 → rOs s A = (p.x, A3, 0)) (hp : E3 = 0 → FitsOs p.x) (hin : InL O p.x.c E3 k E) : LoopL s N (k + 1) (O ++ [p]) A3 E R := by
  obtain ⟨n, hn⟩ : ∃ n, N - k = n + 1 := ⟨N - k - 1, by omega⟩
  have hn2 : N - (k + 1) = n := by omega
  rw [hn] at hR
  rcases hin with ⟨h3, h4⟩ | ⟨h3, h4, h5⟩ | ⟨h3, h4, q, hq, h5⟩
  · subst h4
    refine .inr ⟨h3, ?_⟩
    rw [hR]
    have e : (rOs s A).2.2 ≠ 0 := by rw [h2]; exact h3
    have := liftM_err (z := zOs) (rd := rOs) (tst := osTest) (nxt := osNext) (n := n) (st := O.map Po.x) (O.map Po.x) e
    rw [h2] at this
    exact this
  · subst h4
    have hr := h1 h3
    have ht : osTest (O.map Po.x) p.x = 0 := osTest_zero.2 (fun y hy => by
      obtain ⟨z, hz, rfl⟩ := List.mem_map.1 hy
      obtain ⟨q, hq, rfl⟩ := List.mem_iff_getElem.1 hz
      exact h5 q hq (by omega))
    refine .inl ⟨rfl, by rw [List.length_append, h0]; rfl, ?_, fun z hz => ?_⟩
    · have := liftM_more (z := zOs) (rd := rOs) (tst := osTest) (nxt := osNext) (n := n) (st := O.map Po.x) (s := s) (a := A) (O.map Po.x) (by rw [hr]) (by rw [hr]; exact ht)
      rw [hr] at this
      rw [hR, hn2, List.map_append]
      exact this
    · rcases List.mem_append.1 hz with hz | hz
      · exact hf z hz
      · rw [List.mem_singleton.1 hz]; exact hp h3
  · subst h4
    have hr := h1 h3
    have ht : osTest (O.map Po.x) p.x = 6 := if_pos (seenIn_iff.2 ⟨O[q].x, List.mem_map.2 ⟨_, List.getElem_mem hq, rfl⟩, h5⟩)
    refine .inr ⟨by decide, ?_⟩
    rw [hR]
    have := liftM_bad (z := zOs) (rd := rOs) (tst := osTest) (nxt := osNext) (n := n) (st := O.map Po.x) (s := s) (a := A) (O.map Po.x) (by rw [hr]) (by rw [hr, ht]; decide)
    rw [hr, ht] at this
    exact this
end Go.Proofs.Ytmllchembkpdkaa
