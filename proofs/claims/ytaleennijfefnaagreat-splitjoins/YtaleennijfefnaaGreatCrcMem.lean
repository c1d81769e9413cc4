/-
  The sums of layer 5 in memory: a once, whether the table is made, and a table of 256 numbers; how they are carried through writes; new ones.
  Conditions: none beyond what each lemma states.
-/
import Derived.Test.YtaleennijfefnaaGreatCrc
import Derived.Test.YtaleennijfefnaaGreatOnce
namespace Go.Proofs.YtaleennijfefnaaGreat
open Go.RowKit

/-- The cells of new sums. -/
def zSums : Array Value := (Value.int .u32 0 :: Value.int .i32 0 :: Value.int .u32 0 :: Value.bool false :: List.replicate 256 (Value.int .u32 0)).toArray
theorem zSums_info : ((Tryz.prog.info? 93).bind (fun i => i.zero)) = some (.agg zSums) := by kernel_rfl
theorem zSums_size : zSums.size = 260 := by kernel_rfl
theorem zSums_0 : zSums[0]? = some (.int .u32 0) := by kernel_rfl
theorem zSums_1 : zSums[1]? = some (.int .i32 0) := by kernel_rfl
theorem zSums_3 : zSums[3]? = some (.bool false) := by kernel_rfl
theorem zeroSums (w : World) : (zeroValue 93).run Tryz.prog w = .ok (.agg zSums) w := by
  have h := zSums_info
  generalize zSums = Z at *
  cases h1 : Tryz.prog.info? 93 with
  | none => rw [h1] at h; cases h
  | some i =>
    rw [h1] at h
    cases h2 : i.zero with
    | none => simp [h2] at h
    | some v =>
      have h3 : v = .agg Z := by simpa [h2] using h
      simp [zeroValue, typeInfo, h1, h2, h3]
theorem newSums_any (w : World) : Calls Tryz.prog 84 #[] w fun e w' => e = .returned (.pointer (some ⟨w.heap.size, 0, none⟩)) ∧ w' = w.alloc (.cells zSums 93) := by
  have hn := zeroSums
  generalize zSums = Z at *
  go_enter Tryz.func84, Tryz.ntmps84
  go_wp2
  go_ret
  exact ⟨rfl, rfl⟩

/-- THE SUMS at block b: 'done' d and the lock l of their once, whether the table is made, and a table whose first k numbers are as they should be. -/
structure Sums (w : World) (b : Nat) (d l : Int) (m : Bool) (k : Nat) : Prop where
  blk : ∃ c ty, w.heap[b]? = some (.cells c ty) ∧ c.size = 260 ∧ c[0]? = some (.int .u32 d) ∧ c[1]? = some (.int .i32 l) ∧ c[3]? = some (.bool m) ∧
    ∀ i, i < 256 → ∃ n : Nat, c[4 + i]? = some (.int .u32 n) ∧ (i < k → n = cBits 8 i)
theorem Sums.lt {w : World} {b : Nat} {d l : Int} {m : Bool} {k : Nat} (h : Sums w b d l m k) : b < w.heap.size := by
  obtain ⟨c, t, ht, _⟩ := h.blk
  exact (Array.getElem?_eq_some_iff.mp ht).1
theorem Sums.keep {R : Nat → Prop} {w w' : World} {b : Nat} {d l : Int} {m : Bool} {k : Nat} (h : Sums w b d l m k) (K : Keep R w w') (hn : ¬ R b) : Sums w' b d l m k := by
  have hlt := h.lt
  obtain ⟨c, t, ht, hr⟩ := h.blk
  exact ⟨c, t, by rw [K.block b hlt hn]; exact ht, hr⟩
theorem Sums.keep0 {w w' : World} {b : Nat} {d l : Int} {m : Bool} {k : Nat} (h : Sums w b d l m k) (K : Keep0 w w') : Sums w' b d l m k := h.keep K (fun f => f)
theorem Sums.once {w : World} {b : Nat} {d l : Int} {m : Bool} {k : Nat} (h : Sums w b d l m k) : OnceAt w b 0 d l := by
  obtain ⟨c, t, ht, hs, h0, h1, _⟩ := h.blk
  refine ⟨?_, ?_, ?_, ?_⟩ <;> simp [World.cell?, World.frozen?, ht, h0, h1]
theorem Sums.made {w : World} {b : Nat} {d l : Int} {m : Bool} {k : Nat} (h : Sums w b d l m k) : w.cell? ⟨b, 3, none⟩ = some (.bool m) ∧ w.frozen? ⟨b, 3, none⟩ = false := by
  obtain ⟨c, t, ht, hs, h0, h1, h3, _⟩ := h.blk
  constructor <;> simp [World.cell?, World.frozen?, ht, h3]
theorem Sums.at {w : World} {b : Nat} {d l : Int} {m : Bool} {k : Nat} (h : Sums w b d l m k) (i : Nat) (hi : i < 256) : ∃ n : Nat, w.cell? ⟨b, 4 + i, none⟩ = some (.int .u32 n) ∧ w.frozen? ⟨b, 4 + i, none⟩ = false ∧ (i < k → n = cBits 8 i) := by
  obtain ⟨c, t, ht, hs, h0, h1, h3, h4⟩ := h.blk
  obtain ⟨n, hn, hk⟩ := h4 i hi
  refine ⟨n, ?_, ?_, hk⟩ <;> simp [World.cell?, World.frozen?, ht, hn]
theorem Sums.setDone {w : World} {b : Nat} {d l : Int} {m : Bool} {k : Nat} (h : Sums w b d l m k) (d' : Int) : Sums (w.setCell ⟨b, 0, none⟩ (.int .u32 d')) b d' l m k := by
  obtain ⟨c, t, ht, hs, h0, h1, h3, h4⟩ := h.blk
  refine ⟨_, t, heap_setCell_at ht _, by simp [hs], ?_, ?_, ?_, fun i hi => ?_⟩
  · simp [hs]
  · simp [h1]
  · simp [h3]
  · obtain ⟨n, hn, hk⟩ := h4 i hi
    exact ⟨n, by rw [Array.getElem?_setIfInBounds_ne (by omega)]; exact hn, hk⟩
theorem Sums.setLock {w : World} {b : Nat} {d l : Int} {m : Bool} {k : Nat} (h : Sums w b d l m k) (l' : Int) : Sums (w.setCell ⟨b, 1, none⟩ (.int .i32 l')) b d l' m k := by
  obtain ⟨c, t, ht, hs, h0, h1, h3, h4⟩ := h.blk
  refine ⟨_, t, heap_setCell_at ht _, by simp [hs], ?_, ?_, ?_, fun i hi => ?_⟩
  · simp [h0]
  · simp [hs]
  · simp [h3]
  · obtain ⟨n, hn, hk⟩ := h4 i hi
    exact ⟨n, by rw [Array.getElem?_setIfInBounds_ne (by omega)]; exact hn, hk⟩
theorem Sums.setMade {w : World} {b : Nat} {d l : Int} {m : Bool} {k : Nat} (h : Sums w b d l m k) (m' : Bool) : Sums (w.setCell ⟨b, 3, none⟩ (.bool m')) b d l m' k := by
  obtain ⟨c, t, ht, hs, h0, h1, h3, h4⟩ := h.blk
  refine ⟨_, t, heap_setCell_at ht _, by simp [hs], ?_, ?_, ?_, fun i hi => ?_⟩
  · simp [h0]
  · simp [h1]
  · simp [hs]
  · obtain ⟨n, hn, hk⟩ := h4 i hi
    exact ⟨n, by rw [Array.getElem?_setIfInBounds_ne (by omega)]; exact hn, hk⟩
/-- The next number of the table is stored. -/
theorem Sums.next {w : World} {b : Nat} {d l : Int} {m : Bool} {k : Nat} (h : Sums w b d l m k) (hk : k < 256) : Sums (w.setCell ⟨b, 4 + k, none⟩ (.int .u32 (cBits 8 k))) b d l m (k + 1) := by
  obtain ⟨c, t, ht, hs, h0, h1, h3, h4⟩ := h.blk
  refine ⟨_, t, heap_setCell_at ht _, by simp [hs], ?_, ?_, ?_, fun i hi => ?_⟩
  · rw [Array.getElem?_setIfInBounds_ne (by omega)]; exact h0
  · rw [Array.getElem?_setIfInBounds_ne (by omega)]; exact h1
  · rw [Array.getElem?_setIfInBounds_ne (by omega)]; exact h3
  · by_cases e : i = k
    · subst e
      exact ⟨cBits 8 i, by rw [Array.getElem?_setIfInBounds_self_of_lt (by omega)], fun _ => rfl⟩
    · obtain ⟨n, hn, hk⟩ := h4 i hi
      exact ⟨n, by rw [Array.getElem?_setIfInBounds_ne (by omega)]; exact hn, fun hlt => hk (by omega)⟩
theorem Sums.new (w : World) (t : TypeId) : Sums (w.alloc (.cells zSums t)) w.heap.size 0 0 false 0 := by
  refine ⟨zSums, t, (MapKept.heap_alloc w _).1, zSums_size, zSums_0, zSums_1, zSums_3, fun i hi => ⟨0, ?_, fun h => absurd h (by omega)⟩⟩
  unfold zSums
  rw [List.getElem?_toArray, show 4 + i = i + 1 + 1 + 1 + 1 from by omega]
  simp only [List.getElem?_cons_succ]
  rw [List.getElem?_replicate_of_lt hi]
  rfl
end Go.Proofs.YtaleennijfefnaaGreat
