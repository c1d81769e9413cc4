/-
  Contracts of package frame's small functions (Room, Sends, isVersion, New, sum), each proved over this seat's translation; a coder in memory, or nil.
  Conditions: a text takes at most the greatest length that a string may have.
-/
import Derived.Test.YtaleennijfefnaaGreatFrame
import Derived.Test.YtaleennijfefnaaGreatVarNum
import Derived.Test.YtaleennijfefnaaGreatCrcMore
namespace Go.Proofs.YtaleennijfefnaaGreat
open Go.RowKit

/-- How many bytes a frame has whose payload is so long. -/
def fRoom (n : Int) : Int := if 0 ≤ n ∧ n ≤ 65536 then 8 + ((vEnc n.toNat).length : Int) + n else 0
theorem fRoom_yes {k : Nat} (h : k ≤ 65536) : fRoom k = 8 + ((vEnc k).length : Int) + k := if_pos ⟨by omega, by omega⟩
theorem fRoom_no {n : Int} (h : ¬ (0 ≤ n ∧ n ≤ 65536)) : fRoom n = 0 := if_neg h
theorem vEnc_max : (vEnc 65536).length = 3 := by
  have h1 := vEnc_len_lt 2 65536 (by decide)
  have h2 := vEnc_len_ge 2 65536 (by decide)
  omega
theorem fRoom_max : fRoom 65536 = 65547 := by
  have h := fRoom_yes (k := 65536) (by omega)
  rw [vEnc_max] at h
  exact h
theorem room_any (w : World) (n : Int) : Calls Tryz.prog 67 #[.int .i64 n] w fun e w' => e = .returned (.int .i64 (fRoom n)) ∧ w = w' := by
  by_cases h0 : n < 0
  · rw [fRoom_no (by omega)]
    go_enter Tryz.func67, Tryz.ntmps67
    go_wp2
    go_ret
    exact ⟨rfl, rfl⟩
  · by_cases h1 : n ≤ 65536
    · obtain ⟨k, rfl⟩ : ∃ k : Nat, n = k := ⟨n.toNat, by omega⟩
      rw [fRoom_yes (by omega)]
      have hl := vEnc_len_lt 9 k (by omega)
      have hs := fun W => size_any W k (by omega)
      generalize (vEnc k).length = L at *
      go_enter Tryz.func67, Tryz.ntmps67
      go_wp2_with (go_at_call 78; refine (hs w).mono ?_; rintro e w' ⟨rfl, rfl⟩)
      go_ret
      exact ⟨rfl, rfl⟩
    · rw [fRoom_no (by omega)]
      go_enter Tryz.func67, Tryz.ntmps67
      go_wp2
      go_ret
      exact ⟨rfl, rfl⟩
theorem sends_any (w : World) : Calls Tryz.prog 41 #[] w fun e w' => e = .returned (.int .i64 65547) ∧ w = w' := by
  have h := room_any w 65536
  rw [fRoom_max] at h
  go_enter Tryz.func41, Tryz.ntmps41
  go_wp2_with (go_at_call 67; refine h.mono ?_; rintro e w' ⟨rfl, rfl⟩)
  go_ret
  exact ⟨rfl, rfl⟩
theorem isver_any (w : World) (v : Int) : Calls Tryz.prog 59 #[.int .u8 v] w fun e w' => e = .returned (.bool (qV v)) ∧ w = w' := by
  by_cases h1 : v = 1
  · subst h1
    have q : qV 1 = true := rfl
    rw [q]
    go_enter Tryz.func59, Tryz.ntmps59
    go_wp2
    go_ret
    exact ⟨rfl, rfl⟩
  · by_cases h2 : v = 2
    · subst h2
      have q : qV 2 = true := rfl
      rw [q]
      go_enter Tryz.func59, Tryz.ntmps59
      go_wp2
      go_ret
      exact ⟨rfl, rfl⟩
    · have q : qV v = false := by unfold qV; simp [h1, h2]
      rw [q]
      have e1 : (v == 1) = false := by simpa using h1
      have e2 : (v == 2) = false := by simpa using h2
      clear h1 h2
      go_enter Tryz.func59, Tryz.ntmps59
      go_wp2
      go_ret
      exact ⟨rfl, rfl⟩

/-! ### a coder -/
theorem zCoder_info : ((Tryz.prog.info? 95).bind (fun i => i.zero)) = some (.agg zSums) := by kernel_rfl
theorem zeroCoder (w : World) : (zeroValue 95).run Tryz.prog w = .ok (.agg zSums) w := by
  have h := zCoder_info
  generalize zSums = Z at *
  cases h1 : Tryz.prog.info? 95 with
  | none => rw [h1] at h; cases h
  | some i =>
    rw [h1] at h
    cases h2 : i.zero with
    | none => simp [h2] at h
    | some v =>
      have h3 : v = .agg Z := by simpa [h2] using h
      simp [zeroValue, typeInfo, h1, h2, h3]
/-- A coder: nil, or a block with sums of its own. -/
def kptr : Option Nat → Value
  | none => .pointer none
  | some b => .pointer (some ⟨b, 0, none⟩)
def CoderAt (w : World) : Option Nat → Prop
  | none => True
  | some b => ∃ m, SumsAny w b m
/-- No old block but the coder's has turned. -/
abbrev KeepK (kb : Option Nat) (w w' : World) : Prop := Keep (fun k => kb = some k) w w'
theorem CoderAt.keep {R : Nat → Prop} {w w' : World} {kb : Option Nat} (h : CoderAt w kb) (K : Keep R w w') (hn : ∀ b, kb = some b → ¬ R b) : CoderAt w' kb := by
  cases kb with
  | none => trivial
  | some b =>
    obtain ⟨m, hm⟩ := h
    exact ⟨m, hm.keep K (hn b rfl)⟩
theorem CoderAt.keep0 {w w' : World} {kb : Option Nat} (h : CoderAt w kb) (K : Keep0 w w') : CoderAt w' kb := h.keep K (fun _ _ f => f)
theorem CoderAt.lt {w : World} {b : Nat} (h : CoderAt w (some b)) : b < w.heap.size := by
  obtain ⟨m, hm⟩ := h
  exact hm.lt
/-- A block that is none of the coder's. -/
theorem CoderAt.ne {w : World} {kb : Option Nat} (h : CoderAt w kb) {g : Nat} (hg : w.heap.size ≤ g) : ¬ kb = some g := by
  rintro rfl
  have := h.lt
  omega
theorem newcoder_any (w : World) : Calls Tryz.prog 21 #[] w fun e w' => e = .returned (kptr (some w.heap.size)) ∧ CoderAt w' (some w.heap.size) ∧ Keep0 w w' := by
  have hn := zeroCoder
  have hs := SumsAny.new w 95
  have hk := (Keep.refl (fun _ => False) w).alloc (.cells zSums 95)
  generalize zSums = Z at *
  go_enter Tryz.func21, Tryz.ntmps21
  go_wp2
  go_ret
  exact ⟨rfl, ⟨_, hs⟩, hk⟩
theorem sum7_some {w : World} {b : Nat} (h : CoderAt w (some b)) (s : ByteArray) (hs : s.size ≤ maxLen) :
    Calls Tryz.prog 39 #[ptr b, .string s] w fun e w' => e = .returned (.int .u64 (cSum s.data.toList)) ∧ CoderAt w' (some b) ∧ KeepK (some b) w w' := by
  obtain ⟨m, hm⟩ := h
  have hlt : cSum s.data.toList < 4294967296 := cMore_lt 0 _
  have hc := sum5_any hm s hs
  generalize cSum s.data.toList = N at *
  go_enter Tryz.func39, Tryz.ntmps39
  go_wp2_with fail
  refine hc.mono ?_
  rintro e w1 ⟨rfl, h1, k1⟩
  go_wp2
  go_ret
  exact ⟨rfl, ⟨true, h1.any⟩, k1.mono (fun k _ e => by rw [e])⟩
theorem sum7_nil (w : World) (s : ByteArray) (hs : s.size ≤ maxLen) :
    Calls Tryz.prog 39 #[.pointer none, .string s] w fun e w' => e = .returned (.int .u64 (cSum s.data.toList)) ∧ Keep0 w w' := by
  have hlt : cSum s.data.toList < 4294967296 := cMore_lt 0 _
  have hc := fun W b m (hm : SumsAny W b m) => sum5_any hm s hs
  generalize cSum s.data.toList = N at *
  have hnew := newcoder_any w
  go_enter Tryz.func39, Tryz.ntmps39
  go_wp2_with fail
  refine hnew.mono ?_
  unfold kptr
  rintro e w1 ⟨rfl, ⟨m, h1⟩, k1⟩
  clear hnew
  have s1 := k1.size
  go_wp2_with fail
  refine (hc _ _ _ h1).mono ?_
  rintro e w2 ⟨rfl, h2, k2⟩
  go_wp2
  go_ret
  exact ⟨rfl, k1.step1 k2 (Nat.le_refl _)⟩
theorem sum7_any {w : World} {kb : Option Nat} (h : CoderAt w kb) (s : ByteArray) (hs : s.size ≤ maxLen) :
    Calls Tryz.prog 39 #[kptr kb, .string s] w fun e w' => e = .returned (.int .u64 (cSum s.data.toList)) ∧ CoderAt w' kb ∧ KeepK kb w w' := by
  cases kb with
  | none =>
    refine (sum7_nil w s hs).mono ?_
    rintro e w' ⟨rfl, k⟩
    exact ⟨rfl, trivial, k.any⟩
  | some b => exact sum7_some h s hs
end Go.Proofs.YtaleennijfefnaaGreat
