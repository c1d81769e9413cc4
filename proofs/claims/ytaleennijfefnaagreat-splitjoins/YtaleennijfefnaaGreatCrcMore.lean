/-
  Contracts of layer 5's exported calls: More, Sum, Made, of new, of made, of nil sums, each proved over this seat's translation.
  Conditions: a text takes at most the greatest length that a string may have; the list of texts lies elsewhere than the sums.
-/
import Derived.Test.YtaleennijfefnaaGreatCrcFns
import Derived.Conc.MuLone
namespace Go.Proofs.YtaleennijfefnaaGreat
open Go.RowKit

/-- Sums as a caller meets them: new ones, or ones whose table is made. -/
def SumsAny (w : World) (b : Nat) (m : Bool) : Prop := (m = false ∧ Sums w b 0 0 false 0) ∨ (m = true ∧ Sums w b 1 0 true 256)
theorem SumsAny.lt {w : World} {b : Nat} {m : Bool} (h : SumsAny w b m) : b < w.heap.size := by
  rcases h with ⟨_, h⟩ | ⟨_, h⟩ <;> exact h.lt
theorem SumsAny.made {w : World} {b : Nat} {m : Bool} (h : SumsAny w b m) : w.cell? ⟨b, 3, none⟩ = some (.bool m) := by
  rcases h with ⟨rfl, h⟩ | ⟨rfl, h⟩ <;> exact h.made.1
theorem SumsAny.keep {R : Nat → Prop} {w w' : World} {b : Nat} {m : Bool} (h : SumsAny w b m) (K : Keep R w w') (hn : ¬ R b) : SumsAny w' b m := by
  rcases h with ⟨hm, h⟩ | ⟨hm, h⟩
  · exact .inl ⟨hm, h.keep K hn⟩
  · exact .inr ⟨hm, h.keep K hn⟩
theorem SumsAny.keep0 {w w' : World} {b : Nat} {m : Bool} (h : SumsAny w b m) (K : Keep0 w w') : SumsAny w' b m := h.keep K (fun f => f)
theorem SumsAny.new (w : World) (t : TypeId) : SumsAny (w.alloc (.cells zSums t)) w.heap.size false := .inl ⟨rfl, Sums.new w t⟩
theorem Sums.any {w : World} {b : Nat} (h : Sums w b 1 0 true 256) : SumsAny w b true := .inr ⟨rfl, h⟩

theorem fill_in (args : Array Value) (w : World) : (callFunc 86 args).run Tryz.prog w = .ok (.enter 86 args) w :=
  Go.MuLone.run_callFunc_enter Tryz.func86 (by kernel_rfl) rfl args w

/-- The once of the sums: behind it the table is made. -/
theorem do5 {w : World} {b : Nat} {m : Bool} (h : SumsAny w b m) :
    Calls Tryz.prog 85 #[.pointer (some ⟨b, 0, none⟩), .func (.func 86) #[.pointer (some ⟨b, 0, none⟩)] #[]] w fun e w' => e = .returned (.tuple #[]) ∧ Sums w' b 1 0 true 256 ∧ Keep1 b w w' := by
  rcases h with ⟨_, h⟩ | ⟨_, h⟩
  · refine (onceDo h.once 86 (.pointer (some ⟨b, 0, none⟩)) (fun w2 => Sums w2 b 0 1 true 256 ∧ Keep1 b w w2) fill_in ?_).mono ?_
    · refine (fill_any (h.setLock 1)).mono ?_
      rintro e w' ⟨rfl, h1, k1⟩
      exact ⟨rfl, h1.once, h1, ((Keep.refl _ w).set1 1 _).trans k1⟩
    · rintro e w' ⟨rfl, w2, _, ⟨h2, k2⟩, rfl⟩
      exact ⟨rfl, ((h2.keep0 (Keep.refl _ _).drew).setDone 1).setLock 0, (k2.drew.set1 0 _).set1 1 _⟩
  · refine (onceDone h.once (by decide) _).mono ?_
    rintro e w' ⟨rfl, rfl⟩
    exact ⟨rfl, h, Keep.refl _ _⟩

/-- Texts, one behind the other. -/
def cJoin (l : List ByteArray) : List UInt8 := l.flatMap (fun s => s.data.toList)
theorem cJoin_append (l r : List ByteArray) : cJoin (l ++ r) = cJoin l ++ cJoin r := List.flatMap_append
theorem cJoin_one (s : ByteArray) : cJoin [s] = s.data.toList := by simp [cJoin]
/-- The slice ao holds the texts l in w, elsewhere than in block b. -/
def TextsAt (w : World) (b : Nat) (ao : Option Addr) (l : List ByteArray) : Prop := ∀ k (hk : k < l.length), ∃ bb off, ao = some ⟨bb, off, none⟩ ∧ bb ≠ b ∧ w.cell? ⟨bb, off + k, none⟩ = some (.string l[k])

theorem not_u32 (n : Nat) (hn : n < 4294967296) : bits .xor .u32 IntKind.u32.max (n : Int) = ((4294967295 - n : Nat) : Int) := by
  have h := xor_u32 4294967295 n (by decide) hn
  rw [Nat.xor_comm, xor_all hn] at h
  exact h

set_option maxRecDepth 100000 in
theorem more5_any {w : World} {b : Nat} {m : Bool} (h : SumsAny w b m) (n : Nat) (hn : n < 4294967296) (ao : Option Addr) (cap : Nat) (l : List ByteArray) (hl : l.length ≤ maxLen) (hls : ∀ s ∈ l, s.size ≤ maxLen) (hc : TextsAt w b ao l) :
    Calls Tryz.prog 77 #[.pointer (some ⟨b, 0, none⟩), .int .u32 n, .slice ao l.length cap] w fun e w' => e = .returned (.int .u32 (cMore n (cJoin l))) ∧ Sums w' b 1 0 true 256 ∧ Keep1 b w w' := by
  have hsz : (l.length : Int) ≤ 9223372036854775807 := by unfold maxLen at hl; omega
  have HS : Hid (∀ s ∈ l, s.size ≤ maxLen) := hls
  have hsg : IntKind.u32.signed = false := rfl
  have hx := not_u32 n hn
  obtain ⟨n', hn'e⟩ : ∃ n', n' = 4294967295 - n := ⟨_, rfl⟩
  have hn' : n' < 4294967296 := by omega
  rw [← hn'e] at hx
  have HNE : Hid (n' = 4294967295 - n) := hn'e
  clear hn'e
  have HC : Hid (TextsAt w b ao l) := hc
  clear hc hls
  go_enter Tryz.func77, Tryz.ntmps77
  go_wp2_with fail
  refine (do5 h).mono ?_
  rintro e W ⟨rfl, hW, kW⟩
  go_wp2_with fail
  go_loopw [1, 22] (fun v i wr => ∃ (k N : Nat), k ≤ l.length ∧ v = .int .u32 N ∧ N < 4294967296 ∧ N = cPuts n' (cJoin (l.take k)) ∧ i = .int .i64 k ∧ wr = W) (fun _ i _ => l.length - (intOf i).toNat)
  case atStart => exact ⟨0, n', by omega, rfl, hn', rfl, rfl, rfl⟩
  case round =>
    obtain ⟨k, N, hk, rfl, hN, hp, rfl, rfl⟩ := hrel
    by_cases hlt : k < l.length
    · obtain ⟨bb, off, rfl, hne, hcell⟩ := HC.out k hlt
      have hcl : wr.cell? ⟨bb, off + k, none⟩ = some (.string l[k]) := kW.cell hcell hne
      have hsk := HS.out l[k] (List.getElem_mem hlt)
      have hp' : cPuts n' (cJoin (l.take (k + 1))) = cPuts N l[k].data.toList := by
        rw [List.take_succ_eq_append_getElem hlt, cJoin_append, cPuts_append, ← hp, cJoin_one]
      generalize l[k] = s at *
      have HP : Hid (cPuts n' (cJoin (l.take (k + 1))) = cPuts N s.data.toList) := hp'
      have hl2 := cPuts_lt s.data.toList hN
      have hlt' : (k : Int) < l.length := by omega
      clear hp hp' hcell
      go_wp2_with (go_at_call 87; refine (put5_any hW N hN s hsk).mono ?_; rintro e w' ⟨rfl, rfl⟩)
      go_roundw
      case rel => exact ⟨k + 1, cPuts N s.data.toList, by omega, rfl, hl2, HP.out.symm, by go_num, trivial⟩
      case measure => simp [intOf]; omega
    · rw [List.take_of_length_le (by omega)] at hp
      have hx2 := not_u32 N hN
      have HE : Hid (cMore n (cJoin l) = 4294967295 - N) := by
        show cMore n (cJoin l) = _
        unfold cMore
        rw [hp, HNE.out]
      clear hp
      go_wp2
      go_ret
      refine ⟨?_, hW, kW⟩
      rw [HE.out]
      rfl

/-- Of nil sums. -/
def StrsIn (w : World) (ao : Option Addr) (l : List ByteArray) : Prop := ∀ k (hk : k < l.length), ∃ bb off, ao = some ⟨bb, off, none⟩ ∧ w.cell? ⟨bb, off + k, none⟩ = some (.string l[k])
set_option maxRecDepth 100000 in
theorem more5_nil (w : World) (n : Nat) (hn : n < 4294967296) (ao : Option Addr) (cap : Nat) (l : List ByteArray) (hl : l.length ≤ maxLen) (hls : ∀ s ∈ l, s.size ≤ maxLen) (hc : StrsIn w ao l) :
    Calls Tryz.prog 77 #[.pointer none, .int .u32 n, .slice ao l.length cap] w fun e w' => e = .returned (.int .u32 (cMore n (cJoin l))) ∧ Keep0 w w' := by
  have hsz : (l.length : Int) ≤ 9223372036854775807 := by unfold maxLen at hl; omega
  have HS : Hid (∀ s ∈ l, s.size ≤ maxLen) := hls
  have hsg : IntKind.u32.signed = false := rfl
  have hx := not_u32 n hn
  obtain ⟨n', hn'e⟩ : ∃ n', n' = 4294967295 - n := ⟨_, rfl⟩
  have hn' : n' < 4294967296 := by omega
  rw [← hn'e] at hx
  have HNE : Hid (n' = 4294967295 - n) := hn'e
  clear hn'e
  have HC : Hid (TextsAt (w.alloc (.cells zSums 93)) w.heap.size ao l) := by
    intro k hk
    obtain ⟨bb, off, h1, h2⟩ := hc k hk
    exact ⟨bb, off, h1, Nat.ne_of_lt (World.block_lt_of_cell? w _ h2), ((Keep.refl (fun _ => False) w).alloc (.cells zSums 93)).cell h2 (fun f => f)⟩
  have hnew := SumsAny.new w 93
  have k0 : Keep0 w (w.alloc (.cells zSums 93)) := (Keep.refl _ w).alloc _
  clear hc hls
  go_enter Tryz.func77, Tryz.ntmps77
  go_wp2_with (go_at_call 84; refine (newSums_any w).mono ?_; rintro e w' ⟨rfl, rfl⟩)
  refine (do5 hnew).mono ?_
  rintro e W ⟨rfl, hW, kW⟩
  have k1 : Keep0 w W := k0.step1 kW (Nat.le_refl _)
  go_wp2_with fail
  go_loopw [1, 22] (fun v i wr => ∃ (k N : Nat), k ≤ l.length ∧ v = .int .u32 N ∧ N < 4294967296 ∧ N = cPuts n' (cJoin (l.take k)) ∧ i = .int .i64 k ∧ wr = W) (fun _ i _ => l.length - (intOf i).toNat)
  case atStart => exact ⟨0, n', by omega, rfl, hn', rfl, rfl, rfl⟩
  case round =>
    obtain ⟨k, N, hk, rfl, hN, hp, rfl, rfl⟩ := hrel
    by_cases hlt : k < l.length
    · obtain ⟨bb, off, rfl, hne, hcell⟩ := HC.out k hlt
      have hcl : wr.cell? ⟨bb, off + k, none⟩ = some (.string l[k]) := kW.cell hcell hne
      have hsk := HS.out l[k] (List.getElem_mem hlt)
      have hp' : cPuts n' (cJoin (l.take (k + 1))) = cPuts N l[k].data.toList := by
        rw [List.take_succ_eq_append_getElem hlt, cJoin_append, cPuts_append, ← hp, cJoin_one]
      generalize l[k] = s at *
      have HP : Hid (cPuts n' (cJoin (l.take (k + 1))) = cPuts N s.data.toList) := hp'
      have hl2 := cPuts_lt s.data.toList hN
      have hlt' : (k : Int) < l.length := by omega
      clear hp hp' hcell
      go_wp2_with (go_at_call 87; refine (put5_any hW N hN s hsk).mono ?_; rintro e w' ⟨rfl, rfl⟩)
      go_roundw
      case rel => exact ⟨k + 1, cPuts N s.data.toList, by omega, rfl, hl2, HP.out.symm, by go_num, trivial⟩
      case measure => simp [intOf]; omega
    · rw [List.take_of_length_le (by omega)] at hp
      have hx2 := not_u32 N hN
      have HE : Hid (cMore n (cJoin l) = 4294967295 - N) := by
        show cMore n (cJoin l) = _
        unfold cMore
        rw [hp, HNE.out]
      clear hp
      go_wp2
      go_ret
      refine ⟨?_, k1⟩
      rw [HE.out]
      rfl

/-- With one text, whose list has just been made. -/
theorem more5_one {w : World} {b : Nat} {m : Bool} (h : SumsAny w b m) (n : Nat) (hn : n < 4294967296) (s : ByteArray) (hs : s.size ≤ maxLen) (t : TypeId) :
    Calls Tryz.prog 77 #[.pointer (some ⟨b, 0, none⟩), .int .u32 n, .slice (some ⟨w.heap.size, 0, none⟩) 1 1] (w.alloc (.cells #[.string s] t)) fun e w' => e = .returned (.int .u32 (cMore n s.data.toList)) ∧ Sums w' b 1 0 true 256 ∧ Keep1 b w w' := by
  have k0 : Keep0 w (w.alloc (.cells #[.string s] t)) := (Keep.refl _ w).alloc _
  have hlt := h.lt
  refine (more5_any (h.keep0 k0) n hn (some ⟨w.heap.size, 0, none⟩) 1 [s] (by unfold maxLen; simp) (by simpa using hs) ?_).mono ?_
  · intro k hk
    obtain rfl : k = 0 := by simpa using hk
    exact ⟨w.heap.size, 0, rfl, by omega, cell_alloc w t rfl⟩
  · rw [cJoin_one]
    rintro e w' ⟨rfl, h1, k1⟩
    exact ⟨rfl, h1, k0.any.trans k1⟩
theorem more5_none {w : World} {b : Nat} {m : Bool} (h : SumsAny w b m) (n : Nat) (hn : n < 4294967296) :
    Calls Tryz.prog 77 #[.pointer (some ⟨b, 0, none⟩), .int .u32 n, .slice none 0 0] w fun e w' => e = .returned (.int .u32 n) ∧ Sums w' b 1 0 true 256 ∧ Keep1 b w w' := by
  refine (more5_any h n hn none 0 [] (by unfold maxLen; decide) (by simp) (fun k hk => absurd hk (by simp))).mono ?_
  have q : cMore n (cJoin []) = n := cMore_nil hn
  rw [q]
  exact fun _ _ h => h
theorem sum5_any {w : World} {b : Nat} {m : Bool} (h : SumsAny w b m) (s : ByteArray) (hs : s.size ≤ maxLen) :
    Calls Tryz.prog 66 #[.pointer (some ⟨b, 0, none⟩), .string s] w fun e w' => e = .returned (.int .u32 (cSum s.data.toList)) ∧ Sums w' b 1 0 true 256 ∧ Keep1 b w w' := by
  go_enter Tryz.func66, Tryz.ntmps66
  go_wp2_with fail
  refine (more5_one h 0 (by decide) s hs _).mono ?_
  rw [cMore_zero]
  rintro e w1 ⟨rfl, h1, k1⟩
  go_wp2
  go_ret
  exact ⟨rfl, h1, k1⟩
theorem sum5_nil (w : World) (s : ByteArray) (hs : s.size ≤ maxLen) :
    Calls Tryz.prog 66 #[.pointer none, .string s] w fun e w' => e = .returned (.int .u32 (cSum s.data.toList)) ∧ Keep0 w w' := by
  have k0 : ∀ t, Keep0 w (w.alloc (.cells #[.string s] t)) := fun t => (Keep.refl _ w).alloc _
  go_enter Tryz.func66, Tryz.ntmps66
  go_wp2_with fail
  refine (more5_nil _ 0 (by decide) (some ⟨w.heap.size, 0, none⟩) 1 [s] (by unfold maxLen; simp) (by simpa using hs) ?_).mono ?_
  · intro k hk
    obtain rfl : k = 0 := by simpa using hk
    exact ⟨w.heap.size, 0, rfl, cell_alloc w _ rfl⟩
  rw [cJoin_one, cMore_zero]
  rintro e w1 ⟨rfl, k1⟩
  go_wp2
  go_ret
  exact ⟨rfl, (k0 _).trans k1⟩
end Go.Proofs.YtaleennijfefnaaGreat
