/-
  The texts FrameA, FrameEnc, FrameTake, FrameDec of this seat, one behind the other.
  Conditions: as each says.
-/
import Derived.Test.YtmgfalkelembkaaL7a
import Derived.Test.YtmgfalkelembkaaL3b
import Derived.Test.YtmgfalkelembkaaL5
import Derived.Test.YtmgfalkelembkaaL6
import Derived.Deep.RegionWith
/-
  Contracts of package frame's small functions (Room, Sends, isVersion, New, sum), each proved over this seat's translation; a coder in memory, or nil.
  Conditions: a text takes at most the greatest length that a string may have.
-/
namespace Go.Proofs.Ytmgfalkelembkaa
open Go.RowKit

/-- How many bytes a frame has whose payload is so long. -/
def fRoom (n : Int) : Int := if 0 ≤ n ∧ n ≤ 65536 then 8 + ((vEnc n.toNat).length : Int) + n else 0
theorem fRoom_yes {k : Nat} (h : k ≤ 65536) : fRoom k = 8 + ((vEnc k).length : Int) + k := if_pos ⟨by omega, by omega⟩
theorem fRoom_no {n : Int} (h : ¬ (0 ≤ n ∧ n ≤ 65536)) : fRoom n = 0 := if_neg h
theorem vEnc_max : (vEnc 65536).length = 3 := by
  have h1 := vEnc_len_lt 2 65536 (by decide)
  have h2 := vEnc_len_ge 2 65536 (by decide)
  omega
theorem fRoom_max : fRoom 65536 = 65547 := by
  have h := fRoom_yes (k := 65536) (by omega)
  rw [vEnc_max] at h
  exact h
theorem isver_any (w : World) (v : Int) : Calls Try.prog 60 #[.int .u8 v] w fun e w' => e = .returned (.bool (qV v)) ∧ w = w' := by
  by_cases h1 : v = 1
  · subst h1
    have q : qV 1 = true := rfl
    rw [q]
    go_enter Try.func60, Try.ntmps60
    go_wp2
    go_ret
    exact ⟨rfl, rfl⟩
  · by_cases h2 : v = 2
    · subst h2
      have q : qV 2 = true := rfl
      rw [q]
      go_enter Try.func60, Try.ntmps60
      go_wp2
      go_ret
      exact ⟨rfl, rfl⟩
    · have q : qV v = false := by unfold qV; simp [h1, h2]
      rw [q]
      have e1 : (v == 1) = false := by simpa using h1
      have e2 : (v == 2) = false := by simpa using h2
      clear h1 h2
      go_enter Try.func60, Try.ntmps60
      go_wp2
      go_ret
      exact ⟨rfl, rfl⟩

/-! ### a coder -/
theorem zCoder_info : ((Try.prog.info? 109).bind (fun i => i.zero)) = some (.agg zSums) := by kernel_rfl
theorem zeroCoder (w : World) : (zeroValue 109).run Try.prog w = .ok (.agg zSums) w := by
  have h := zCoder_info
  generalize zSums = Z at *
  cases h1 : Try.prog.info? 109 with
  | none => rw [h1] at h; cases h
  | some i =>
    rw [h1] at h
    cases h2 : i.zero with
    | none => simp [h2] at h
    | some v =>
      have h3 : v = .agg Z := by simpa [h2] using h
      simp [zeroValue, typeInfo, h1, h2, h3]
/-- A coder: nil, or a block with sums of its own. -/
def kptr : Option Nat → Value
  | none => .pointer none
  | some b => .pointer (some ⟨b, 0, none⟩)
def CoderAt (w : World) : Option Nat → Prop
  | none => True
  | some b => ∃ m, SumsAny w b m
/-- No old block but the coder's has turned. -/
abbrev KeepK (kb : Option Nat) (w w' : World) : Prop := Keep (fun k => kb = some k) w w'
theorem CoderAt.keep {R : Nat → Prop} {w w' : World} {kb : Option Nat} (h : CoderAt w kb) (K : Keep R w w') (hn : ∀ b, kb = some b → ¬ R b) : CoderAt w' kb := by
  cases kb with
  | none => trivial
  | some b =>
    obtain ⟨m, hm⟩ := h
    exact ⟨m, hm.keep K (hn b rfl)⟩
theorem CoderAt.keep0 {w w' : World} {kb : Option Nat} (h : CoderAt w kb) (K : Keep0 w w') : CoderAt w' kb := h.keep K (fun _ _ f => f)
theorem CoderAt.lt {w : World} {b : Nat} (h : CoderAt w (some b)) : b < w.heap.size := by
  obtain ⟨m, hm⟩ := h
  exact hm.lt
/-- A block that is none of the coder's. -/
theorem CoderAt.ne {w : World} {kb : Option Nat} (h : CoderAt w kb) {g : Nat} (hg : w.heap.size ≤ g) : ¬ kb = some g := by
  rintro rfl
  have := h.lt
  omega
theorem newcoder_any (w : World) : Calls Try.prog 40 #[] w fun e w' => e = .returned (kptr (some w.heap.size)) ∧ CoderAt w' (some w.heap.size) ∧ Keep0 w w' := by
  have hn := zeroCoder
  have hs := SumsAny.new w 109
  have hk := (Keep.refl (fun _ => False) w).alloc (.cells zSums 109)
  generalize zSums = Z at *
  go_enter Try.func40, Try.ntmps40
  go_wp2
  go_ret
  exact ⟨rfl, ⟨_, hs⟩, hk⟩
theorem sum7_some {w : World} {b : Nat} (h : CoderAt w (some b)) (s : ByteArray) (hs : s.size ≤ maxLen) :
    Calls Try.prog 57 #[ptr b, .string s] w fun e w' => e = .returned (.int .u64 (cSum s.data.toList)) ∧ CoderAt w' (some b) ∧ KeepK (some b) w w' := by
  obtain ⟨m, hm⟩ := h
  have hlt : cSum s.data.toList < 4294967296 := cMore_lt 0 _
  have hc := sum5_any hm s hs
  generalize cSum s.data.toList = N at *
  go_enter Try.func57, Try.ntmps57
  go_wp2_with fail
  refine hc.mono ?_
  rintro e w1 ⟨rfl, h1, k1⟩
  go_wp2
  go_ret
  exact ⟨rfl, ⟨true, h1.any⟩, k1.mono (fun k _ e => by rw [e])⟩
theorem sum7_nil (w : World) (s : ByteArray) (hs : s.size ≤ maxLen) :
    Calls Try.prog 57 #[.pointer none, .string s] w fun e w' => e = .returned (.int .u64 (cSum s.data.toList)) ∧ Keep0 w w' := by
  have hlt : cSum s.data.toList < 4294967296 := cMore_lt 0 _
  have hc := fun W b m (hm : SumsAny W b m) => sum5_any hm s hs
  generalize cSum s.data.toList = N at *
  have hnew := newcoder_any w
  go_enter Try.func57, Try.ntmps57
  go_wp2_with fail
  refine hnew.mono ?_
  unfold kptr
  rintro e w1 ⟨rfl, ⟨m, h1⟩, k1⟩
  clear hnew
  have s1 := k1.size
  go_wp2_with fail
  refine (hc _ _ _ h1).mono ?_
  rintro e w2 ⟨rfl, h2, k2⟩
  go_wp2
  go_ret
  exact ⟨rfl, k1.step1 k2 (Nat.le_refl _)⟩
theorem sum7_any {w : World} {kb : Option Nat} (h : CoderAt w kb) (s : ByteArray) (hs : s.size ≤ maxLen) :
    Calls Try.prog 57 #[kptr kb, .string s] w fun e w' => e = .returned (.int .u64 (cSum s.data.toList)) ∧ CoderAt w' kb ∧ KeepK kb w w' := by
  cases kb with
  | none =>
    refine (sum7_nil w s hs).mono ?_
    rintro e w' ⟨rfl, k⟩
    exact ⟨rfl, trivial, k.any⟩
  | some b => exact sum7_some h s hs
end Go.Proofs.Ytmgfalkelembkaa
/-
  Contracts of package frame's body and Encode, each proved over this seat's translation.
  Conditions: a text takes at most the greatest length that a string may have.
-/
namespace Go.Proofs.Ytmgfalkelembkaa
open Go.RowKit

theorem vText3 {n : Nat} (h : n ≤ 65536) : (vText n).size ≤ 3 := by
  have := vEnc_len_lt 2 n (by omega)
  unfold vText
  simpa [ByteArray.size] using this
/-- What the pen of a frame's body has at the end. -/
def bodyEnd (x : Int) (v k : UInt8) (p : ByteArray) : ByteArray × Int := wPuts 65547 65536 (pAll 65547 (⟨#[]⟩, x) [one v, one k]) [p]
theorem bodyEnd_ver (v k : UInt8) (p : ByteArray) : bodyEnd 10 v k p = (⟨#[]⟩, 10) := by
  unfold bodyEnd
  rw [pAll_err (by decide), wPuts_err (by decide)]
theorem body_two (v k : UInt8) : pAll 65547 (⟨#[]⟩, 0) [one v, one k] = (one v ++ one k, 0) := by
  unfold pAll
  rw [List.foldl_cons, List.foldl_cons, List.foldl_nil]
  have e0 : (⟨#[]⟩ : ByteArray).size = 0 := rfl
  have e1 : (⟨#[]⟩ : ByteArray) ++ one v = one v := rfl
  rw [pOne_yes (by rw [one_size, e0]; omega), e1, pOne_yes (by rw [one_size, one_size]; omega)]
theorem bodyEnd_long (v k : UInt8) {p : ByteArray} (h : 65536 < p.size) : bodyEnd 0 v k p = (one v ++ one k, 3) := by
  unfold bodyEnd
  rw [body_two]
  show wPut 65547 65536 _ p = _
  rw [wPut_long (by show ¬ (p.size : Int) ≤ 65536; omega)]
  rfl
theorem bodyEnd_ok (v k : UInt8) {p : ByteArray} (h : ¬ 65536 < p.size) : bodyEnd 0 v k p = (fBody v k p, 0) := by
  have h3 := vText3 (n := p.size) (by omega)
  unfold bodyEnd
  rw [body_two]
  show wPut 65547 65536 _ p = _
  rw [wPut_fit (by show (p.size : Int) ≤ 65536; omega), pOne_yes (by rw [ByteArray.size_append, one_size, one_size]; omega), pOne_yes (by rw [ByteArray.size_append, ByteArray.size_append, one_size, one_size]; omega)]
  unfold fBody
  simp only [ByteArray.append_assoc]
/-- The three texts of which a frame's bytes are. -/
theorem three_end (v k : UInt8) {p : ByteArray} (h : ¬ 65536 < p.size) :
    pAll 65547 (⟨#[]⟩, 0) [⟨#[215, 78]⟩, fBody v k p, bText 4 (cSum (fBody v k p).data.toList)] = (fEnc v k p, 0) := by
  have h3 := vText3 (n := p.size) (by omega)
  have hb := fBody_size v k p
  have e0 : (⟨#[]⟩ : ByteArray).size = 0 := rfl
  have e1 : (⟨#[]⟩ : ByteArray) ++ ⟨#[215, 78]⟩ = one 215 ++ one 78 := rfl
  have e2 : (⟨#[215, 78]⟩ : ByteArray).size = 2 := rfl
  unfold pAll
  rw [List.foldl_cons, List.foldl_cons, List.foldl_cons, List.foldl_nil]
  rw [pOne_yes (by rw [e0, e2]; omega), e1, pOne_yes (by rw [ByteArray.size_append, one_size, one_size]; omega), pOne_yes (by rw [ByteArray.size_append, ByteArray.size_append, one_size, one_size, bText_size]; omega)]
  unfold fEnc
  simp only [ByteArray.append_assoc]
end Go.Proofs.Ytmgfalkelembkaa
/-
  Contracts of package frame's readings (takeMagic, takeVersion, Take, Decode), each proved over this seat's translation.
  Conditions: a text takes at most the greatest length that a string may have.
-/
namespace Go.Proofs.Ytmgfalkelembkaa
open Go.RowKit

/-! ### a reading, byte for byte, whatever the error -/
def z1E (s : ByteArray) (a x : Int) : Int := mE s a x 215
def z1A (s : ByteArray) (a x : Int) : Int := cAt s a x 1
def z2E (s : ByteArray) (a x : Int) : Int := mE s (z1A s a x) (z1E s a x) 78
def z2A (s : ByteArray) (a x : Int) : Int := cAt s (z1A s a x) (z1E s a x) 1
/-- The error behind a version. -/
def vEx (s : ByteArray) (a x : Int) : Int := if cErr s a x 1 = 0 ∧ qV (cByte s a x) = false then 10 else cErr s a x 1
theorem mE_eq {s : ByteArray} {a x c : Int} (h : cByte s a x = c) : mE s a x c = cErr s a x 1 := if_neg (fun e => e.2 h)
theorem mE_ne {s : ByteArray} {a x c : Int} (h : cByte s a x ≠ c) : mE s a x c = cFail (cErr s a x 1) 9 := by
  unfold mE cFail
  by_cases h0 : cErr s a x 1 = 0
  · rw [if_pos ⟨h0, h⟩, if_pos h0]
  · rw [if_neg (fun e => h0 e.1), if_neg h0]
theorem vEx_eq {s : ByteArray} {a x : Int} (h : qV (cByte s a x) = true) : vEx s a x = cErr s a x 1 := if_neg (fun e => by rw [h] at e; exact Bool.noConfusion e.2)
theorem vEx_ne {s : ByteArray} {a x : Int} (h : qV (cByte s a x) = false) : vEx s a x = cFail (cErr s a x 1) 10 := by
  unfold vEx cFail
  by_cases h0 : cErr s a x 1 = 0
  · rw [if_pos ⟨h0, h⟩, if_pos h0]
  · rw [if_neg (fun e => h0 e.1), if_neg h0]

/-! ### what each frame begins with -/
set_option maxRecDepth 100000 in
set_option maxHeartbeats 4000000 in
theorem magic_any {w : World} {b : Nat} {s : ByteArray} {a x : Int} (h : Cur w b s a x) :
    Calls Try.prog 51 #[ptr b] w fun e w' => e = .returned (.tuple #[]) ∧ Cur w' b s (z2A s a x) (z2E s a x) ∧ Keep1 b w w' := by
  have y0 := fun W (h : Cur W b s a x) => byte_any h
  have y1 := fun W (h : Cur W b s (z1A s a x) (z1E s a x)) => byte_any h
  have p0 : cByte s a x = 215 → z1E s a x = cErr s a x 1 := mE_eq
  have m0 : cByte s a x ≠ 215 → z1E s a x = cFail (cErr s a x 1) 9 := mE_ne
  have p1 : cByte s (z1A s a x) (z1E s a x) = 78 → z2E s a x = cErr s (z1A s a x) (z1E s a x) 1 := mE_eq
  have m1 : cByte s (z1A s a x) (z1E s a x) ≠ 78 → z2E s a x = cFail (cErr s (z1A s a x) (z1E s a x) 1) 9 := mE_ne
  have a0 : cAt s a x 1 = z1A s a x := rfl
  have a1 : cAt s (z1A s a x) (z1E s a x) 1 = z2A s a x := rfl
  rw [a0] at y0
  rw [a1] at y1
  generalize cByte s (z1A s a x) (z1E s a x) = B1 at *
  generalize cErr s (z1A s a x) (z1E s a x) 1 = C1 at *
  generalize cByte s a x = B0 at *
  generalize cErr s a x 1 = C0 at *
  clear a0 a1
  generalize z1A s a x = A1 at *
  generalize z1E s a x = E1 at *
  generalize z2A s a x = A2 at *
  generalize z2E s a x = E2 at *
  have P0 : Hid (B0 = 215 → E1 = C0) := p0
  have M0 : Hid (B0 ≠ 215 → E1 = cFail C0 9) := m0
  have P1 : Hid (B1 = 78 → E2 = C1) := p1
  have M1 : Hid (B1 ≠ 78 → E2 = cFail C1 9) := m1
  clear p0 m0 p1 m1
  go_enter Try.func51, Try.ntmps51
  go_wp2_with fail
  go_loopw [3] (fun i wr => ∃ k : Nat, i = .int .i64 k ∧ Keep1 b w wr ∧ ((k = 0 ∧ Cur wr b s a x) ∨ (k = 1 ∧ Cur wr b s A1 E1) ∨ (k = 2 ∧ Cur wr b s A2 E2))) (fun i _ => 2 - (intOf i).toNat)
  case atStart => exact ⟨0, rfl, Keep.refl _ _, .inl ⟨rfl, h⟩⟩
  case round =>
    obtain ⟨k, rfl, hkp, ⟨rfl, h0⟩ | ⟨rfl, h0⟩ | ⟨rfl, h0⟩⟩ := hrel
    · by_cases hB : B0 = 215
      · have Q : Hid (E1 = C0) := P0.out hB
        subst hB
        clear P0 M0 P1 M1
        go_wp2_with fail
        have hcD : Cur wr.drew _ _ _ _ := h0.keep0 (Keep.refl _ wr).drew
        have kD := hkp.drew
        refine wp_region_held_drew (S := fun _ => True) (by kernel_rfl) trivial (fun hHeld => ?_)
        refine wpAnyH_take (i := 0) (v := ?t000v) (by simp only [List.getElem?_toArray, List.getElem?_cons_zero] <;> rfl) (by kernel_rfl) (by kernel_rfl) (by kernel_rfl) (by exact fun _ _ _ h => h) (Or.inl ⟨by rfl, ?t000y⟩) hHeld ?t000r
        case t000y => intro w hSw; (try dsimp only at hSw); go_simp <;> rfl
        simp only [Act.put, List.setIfInBounds_toArray, List.set_cons_zero, List.set_cons_succ]
        refine wpAnyH_take (i := 2) (v := ?t001v) (by simp only [List.getElem?_toArray, List.getElem?_cons_succ, List.getElem?_cons_zero] <;> rfl) (by kernel_rfl) (by kernel_rfl) (by kernel_rfl) (by exact fun _ _ _ h => h) (Or.inl ⟨by rfl, ?t001y⟩) hHeld ?t001r
        case t001y => intro w hSw; (try dsimp only at hSw); go_simp <;> rfl
        simp only [Act.put, List.setIfInBounds_toArray, List.set_cons_zero, List.set_cons_succ]
        refine wpAnyH_take (i := 3) (v := ?t002v) (by simp only [List.getElem?_toArray, List.getElem?_cons_succ, List.getElem?_cons_zero] <;> rfl) (by kernel_rfl) (by kernel_rfl) (by kernel_rfl) (by exact fun _ _ _ h => h) (Or.inl ⟨by rfl, ?t002y⟩) hHeld ?t002r
        case t002y => intro w hSw; (try dsimp only at hSw); go_simp <;> rfl
        simp only [Act.put, List.setIfInBounds_toArray, List.set_cons_zero, List.set_cons_succ]
        refine wpAnyH_ready (rs := [1]) (by kernel_rfl) (by simp) ?_
        refine AllReadyH.cons (by simp only [List.getElem?_toArray, List.getElem?_cons_succ, List.getElem?_cons_zero] <;> rfl) (fun K hK => ?_) AllReadyH.nil
        go_simp
        refine (y0 _ hcD).mono ?_
        rintro e w4 ⟨rfl, h4, k4⟩
        have K4 := kD.trans k4
        go_wp2_with fail
        refine hK.out _ _ trivial (fun hHeld => ?_)
        clear hK K
        refine wpAnyH_take (i := 4) (v := ?t003v) (by simp only [List.getElem?_toArray, List.getElem?_cons_succ, List.getElem?_cons_zero] <;> rfl) (by kernel_rfl) (by kernel_rfl) (by kernel_rfl) (by exact fun _ _ _ h => h) (Or.inl ⟨by rfl, ?t003y⟩) hHeld ?t003r
        case t003y => intro w hSw; (try dsimp only at hSw); go_simp <;> rfl
        simp only [Act.put, List.setIfInBounds_toArray, List.set_cons_zero, List.set_cons_succ]
        refine wpAnyH_done (by kernel_rfl) ?_ _
        clear hcD kD k4 h0 hkp hHeld
        go_wp2
        go_roundw
        case rel => exact ⟨1, by go_num, K4, .inr (.inl ⟨rfl, by rw [Q.out]; exact h4⟩)⟩
        case measure => simp [intOf]
      · have Q : Hid (E1 = cFail C0 9) := M0.out hB
        have hB' : (B0 != (((⟨#[215, 78]⟩ : ByteArray)[0]'(by decide)).toNat : Int)) = true := by
          show (B0 != (215 : Int)) = true
          simpa using hB
        clear P0 M0 P1 M1
        go_wp2_with fail
        have hcD : Cur wr.drew _ _ _ _ := h0.keep0 (Keep.refl _ wr).drew
        have kD := hkp.drew
        refine wp_region_held_drew (S := fun _ => True) (by kernel_rfl) trivial (fun hHeld => ?_)
        refine wpAnyH_take (i := 0) (v := ?t010v) (by simp only [List.getElem?_toArray, List.getElem?_cons_zero] <;> rfl) (by kernel_rfl) (by kernel_rfl) (by kernel_rfl) (by exact fun _ _ _ h => h) (Or.inl ⟨by rfl, ?t010y⟩) hHeld ?t010r
        case t010y => intro w hSw; (try dsimp only at hSw); go_simp <;> rfl
        simp only [Act.put, List.setIfInBounds_toArray, List.set_cons_zero, List.set_cons_succ]
        refine wpAnyH_take (i := 2) (v := ?t011v) (by simp only [List.getElem?_toArray, List.getElem?_cons_succ, List.getElem?_cons_zero] <;> rfl) (by kernel_rfl) (by kernel_rfl) (by kernel_rfl) (by exact fun _ _ _ h => h) (Or.inl ⟨by rfl, ?t011y⟩) hHeld ?t011r
        case t011y => intro w hSw; (try dsimp only at hSw); go_simp <;> rfl
        simp only [Act.put, List.setIfInBounds_toArray, List.set_cons_zero, List.set_cons_succ]
        refine wpAnyH_take (i := 3) (v := ?t012v) (by simp only [List.getElem?_toArray, List.getElem?_cons_succ, List.getElem?_cons_zero] <;> rfl) (by kernel_rfl) (by kernel_rfl) (by kernel_rfl) (by exact fun _ _ _ h => h) (Or.inl ⟨by rfl, ?t012y⟩) hHeld ?t012r
        case t012y => intro w hSw; (try dsimp only at hSw); go_simp <;> rfl
        simp only [Act.put, List.setIfInBounds_toArray, List.set_cons_zero, List.set_cons_succ]
        refine wpAnyH_ready (rs := [1]) (by kernel_rfl) (by simp) ?_
        refine AllReadyH.cons (by simp only [List.getElem?_toArray, List.getElem?_cons_succ, List.getElem?_cons_zero] <;> rfl) (fun K hK => ?_) AllReadyH.nil
        go_simp
        refine (y0 _ hcD).mono ?_
        rintro e w4 ⟨rfl, h4, k4⟩
        have K4 := kD.trans k4
        go_wp2_with fail
        refine hK.out _ _ trivial (fun hHeld => ?_)
        clear hK K
        refine wpAnyH_take (i := 4) (v := ?t013v) (by simp only [List.getElem?_toArray, List.getElem?_cons_succ, List.getElem?_cons_zero] <;> rfl) (by kernel_rfl) (by kernel_rfl) (by kernel_rfl) (by exact fun _ _ _ h => h) (Or.inl ⟨by rfl, ?t013y⟩) hHeld ?t013r
        case t013y => intro w hSw; (try dsimp only at hSw); go_simp <;> rfl
        simp only [Act.put, List.setIfInBounds_toArray, List.set_cons_zero, List.set_cons_succ]
        refine wpAnyH_done (by kernel_rfl) ?_ _
        clear hcD kD k4 h0 hkp hHeld
        go_wp2_with fail
        refine (fail_any 9 h4).mono ?_
        rintro e w5 ⟨rfl, h5, k5⟩
        have K5 := K4.trans k5
        go_wp2
        go_roundw
        case rel => exact ⟨1, by go_num, K5, .inr (.inl ⟨rfl, by rw [Q.out]; exact h5⟩)⟩
        case measure => simp [intOf]
    · by_cases hB : B1 = 78
      · have Q : Hid (E2 = C1) := P1.out hB
        subst hB
        clear P0 M0 P1 M1
        go_wp2_with fail
        have hcD : Cur wr.drew _ _ _ _ := h0.keep0 (Keep.refl _ wr).drew
        have kD := hkp.drew
        refine wp_region_held_drew (S := fun _ => True) (by kernel_rfl) trivial (fun hHeld => ?_)
        refine wpAnyH_take (i := 0) (v := ?t100v) (by simp only [List.getElem?_toArray, List.getElem?_cons_zero] <;> rfl) (by kernel_rfl) (by kernel_rfl) (by kernel_rfl) (by exact fun _ _ _ h => h) (Or.inl ⟨by rfl, ?t100y⟩) hHeld ?t100r
        case t100y => intro w hSw; (try dsimp only at hSw); go_simp <;> rfl
        simp only [Act.put, List.setIfInBounds_toArray, List.set_cons_zero, List.set_cons_succ]
        refine wpAnyH_take (i := 2) (v := ?t101v) (by simp only [List.getElem?_toArray, List.getElem?_cons_succ, List.getElem?_cons_zero] <;> rfl) (by kernel_rfl) (by kernel_rfl) (by kernel_rfl) (by exact fun _ _ _ h => h) (Or.inl ⟨by rfl, ?t101y⟩) hHeld ?t101r
        case t101y => intro w hSw; (try dsimp only at hSw); go_simp <;> rfl
        simp only [Act.put, List.setIfInBounds_toArray, List.set_cons_zero, List.set_cons_succ]
        refine wpAnyH_take (i := 3) (v := ?t102v) (by simp only [List.getElem?_toArray, List.getElem?_cons_succ, List.getElem?_cons_zero] <;> rfl) (by kernel_rfl) (by kernel_rfl) (by kernel_rfl) (by exact fun _ _ _ h => h) (Or.inl ⟨by rfl, ?t102y⟩) hHeld ?t102r
        case t102y => intro w hSw; (try dsimp only at hSw); go_simp <;> rfl
        simp only [Act.put, List.setIfInBounds_toArray, List.set_cons_zero, List.set_cons_succ]
        refine wpAnyH_ready (rs := [1]) (by kernel_rfl) (by simp) ?_
        refine AllReadyH.cons (by simp only [List.getElem?_toArray, List.getElem?_cons_succ, List.getElem?_cons_zero] <;> rfl) (fun K hK => ?_) AllReadyH.nil
        go_simp
        refine (y1 _ hcD).mono ?_
        rintro e w4 ⟨rfl, h4, k4⟩
        have K4 := kD.trans k4
        go_wp2_with fail
        refine hK.out _ _ trivial (fun hHeld => ?_)
        clear hK K
        refine wpAnyH_take (i := 4) (v := ?t103v) (by simp only [List.getElem?_toArray, List.getElem?_cons_succ, List.getElem?_cons_zero] <;> rfl) (by kernel_rfl) (by kernel_rfl) (by kernel_rfl) (by exact fun _ _ _ h => h) (Or.inl ⟨by rfl, ?t103y⟩) hHeld ?t103r
        case t103y => intro w hSw; (try dsimp only at hSw); go_simp <;> rfl
        simp only [Act.put, List.setIfInBounds_toArray, List.set_cons_zero, List.set_cons_succ]
        refine wpAnyH_done (by kernel_rfl) ?_ _
        clear hcD kD k4 h0 hkp hHeld
        go_wp2
        go_roundw
        case rel => exact ⟨2, by go_num, K4, .inr (.inr ⟨rfl, by rw [Q.out]; exact h4⟩)⟩
        case measure => simp [intOf]
      · have Q : Hid (E2 = cFail C1 9) := M1.out hB
        have hB' : (B1 != (((⟨#[215, 78]⟩ : ByteArray)[1]'(by decide)).toNat : Int)) = true := by
          show (B1 != (78 : Int)) = true
          simpa using hB
        clear P0 M0 P1 M1
        go_wp2_with fail
        have hcD : Cur wr.drew _ _ _ _ := h0.keep0 (Keep.refl _ wr).drew
        have kD := hkp.drew
        refine wp_region_held_drew (S := fun _ => True) (by kernel_rfl) trivial (fun hHeld => ?_)
        refine wpAnyH_take (i := 0) (v := ?t110v) (by simp only [List.getElem?_toArray, List.getElem?_cons_zero] <;> rfl) (by kernel_rfl) (by kernel_rfl) (by kernel_rfl) (by exact fun _ _ _ h => h) (Or.inl ⟨by rfl, ?t110y⟩) hHeld ?t110r
        case t110y => intro w hSw; (try dsimp only at hSw); go_simp <;> rfl
        simp only [Act.put, List.setIfInBounds_toArray, List.set_cons_zero, List.set_cons_succ]
        refine wpAnyH_take (i := 2) (v := ?t111v) (by simp only [List.getElem?_toArray, List.getElem?_cons_succ, List.getElem?_cons_zero] <;> rfl) (by kernel_rfl) (by kernel_rfl) (by kernel_rfl) (by exact fun _ _ _ h => h) (Or.inl ⟨by rfl, ?t111y⟩) hHeld ?t111r
        case t111y => intro w hSw; (try dsimp only at hSw); go_simp <;> rfl
        simp only [Act.put, List.setIfInBounds_toArray, List.set_cons_zero, List.set_cons_succ]
        refine wpAnyH_take (i := 3) (v := ?t112v) (by simp only [List.getElem?_toArray, List.getElem?_cons_succ, List.getElem?_cons_zero] <;> rfl) (by kernel_rfl) (by kernel_rfl) (by kernel_rfl) (by exact fun _ _ _ h => h) (Or.inl ⟨by rfl, ?t112y⟩) hHeld ?t112r
        case t112y => intro w hSw; (try dsimp only at hSw); go_simp <;> rfl
        simp only [Act.put, List.setIfInBounds_toArray, List.set_cons_zero, List.set_cons_succ]
        refine wpAnyH_ready (rs := [1]) (by kernel_rfl) (by simp) ?_
        refine AllReadyH.cons (by simp only [List.getElem?_toArray, List.getElem?_cons_succ, List.getElem?_cons_zero] <;> rfl) (fun K hK => ?_) AllReadyH.nil
        go_simp
        refine (y1 _ hcD).mono ?_
        rintro e w4 ⟨rfl, h4, k4⟩
        have K4 := kD.trans k4
        go_wp2_with fail
        refine hK.out _ _ trivial (fun hHeld => ?_)
        clear hK K
        refine wpAnyH_take (i := 4) (v := ?t113v) (by simp only [List.getElem?_toArray, List.getElem?_cons_succ, List.getElem?_cons_zero] <;> rfl) (by kernel_rfl) (by kernel_rfl) (by kernel_rfl) (by exact fun _ _ _ h => h) (Or.inl ⟨by rfl, ?t113y⟩) hHeld ?t113r
        case t113y => intro w hSw; (try dsimp only at hSw); go_simp <;> rfl
        simp only [Act.put, List.setIfInBounds_toArray, List.set_cons_zero, List.set_cons_succ]
        refine wpAnyH_done (by kernel_rfl) ?_ _
        clear hcD kD k4 h0 hkp hHeld
        go_wp2_with fail
        refine (fail_any 9 h4).mono ?_
        rintro e w5 ⟨rfl, h5, k5⟩
        have K5 := K4.trans k5
        go_wp2
        go_roundw
        case rel => exact ⟨2, by go_num, K5, .inr (.inr ⟨rfl, by rw [Q.out]; exact h5⟩)⟩
        case measure => simp [intOf]
    · go_wp2
      go_end0
      exact ⟨rfl, h0, hkp⟩
set_option maxRecDepth 100000 in
theorem version_any {w : World} {b : Nat} {s : ByteArray} {a x : Int} (h : Cur w b s a x) :
    Calls Try.prog 52 #[ptr b] w fun e w' => e = .returned (.int .u8 (cByte s a x)) ∧ Cur w' b s (cAt s a x 1) (vEx s a x) ∧ Keep1 b w w' := by
  have y := byte_any h
  have hv := fun W => isver_any W (cByte s a x)
  cases hq : qV (cByte s a x) with
  | true =>
    rw [vEx_eq hq]
    rw [hq] at hv
    generalize cByte s a x = B at *
    go_enter Try.func52, Try.ntmps52
    go_wp2_with fail
    refine y.mono ?_
    rintro e w1 ⟨rfl, h1, k1⟩
    go_wp2_with fail
    refine (hv _).mono ?_
    rintro e w' ⟨rfl, rfl⟩
    go_wp2
    go_ret
    exact ⟨rfl, h1, k1⟩
  | false =>
    rw [vEx_ne hq]
    rw [hq] at hv
    generalize cByte s a x = B at *
    go_enter Try.func52, Try.ntmps52
    go_wp2_with fail
    refine y.mono ?_
    rintro e w1 ⟨rfl, h1, k1⟩
    go_wp2_with fail
    refine (hv _).mono ?_
    rintro e w' ⟨rfl, rfl⟩
    go_wp2_with fail
    refine (fail_any 10 h1).mono ?_
    rintro e w2 ⟨rfl, h2, k2⟩
    go_wp2
    go_ret
    exact ⟨rfl, h2, k1.trans k2⟩

/-! ### the chain of a reading, and what it comes to -/
def z3A (s : ByteArray) (a x : Int) : Int := cAt s (z2A s a x) (z2E s a x) 1
def z3E (s : ByteArray) (a x : Int) : Int := vEx s (z2A s a x) (z2E s a x)
def zV (s : ByteArray) (a x : Int) : Int := cByte s (z2A s a x) (z2E s a x)
def zK (s : ByteArray) (a x : Int) : Int := cByte s (z3A s a x) (z3E s a x)
def z4A (s : ByteArray) (a x : Int) : Int := cAt s (z3A s a x) (z3E s a x) 1
def z4E (s : ByteArray) (a x : Int) : Int := cErr s (z3A s a x) (z3E s a x) 1
def z5T (s : ByteArray) (a x : Int) : ByteArray := bTxt s (z4A s a x) (z4E s a x) 65536
def z5A (s : ByteArray) (a x : Int) : Int := bAt s (z4A s a x) (z4E s a x) 65536
def z5E (s : ByteArray) (a x : Int) : Int := bErr s (z4A s a x) (z4E s a x) 65536
def z6N (s : ByteArray) (a x : Int) : Nat := fNum s (z5A s a x) (z5E s a x) 4
def z6A (s : ByteArray) (a x : Int) : Int := fAt s (z5A s a x) (z5E s a x) 4
def z6E (s : ByteArray) (a x : Int) : Int := fErr s (z5A s a x) (z5E s a x) 4
def zSum (s : ByteArray) (a x : Int) : Nat := cSum (cut s (z2A s a x) (z5A s a x)).data.toList
theorem mE_err {s : ByteArray} {a x c : Int} (h : x ≠ 0) : mE s a x c = x := by
  unfold mE
  rw [cErr_bad _ h, if_neg (fun e => h e.1)]
theorem vEx_err {s : ByteArray} {a x : Int} (h : x ≠ 0) : vEx s a x = x := by
  unfold vEx
  rw [cErr_bad _ h, if_neg (fun e => h e.1)]
/-- Behind an error nothing is read. -/
theorem z_from3 {s : ByteArray} {a x A E : Int} (hA : z3A s a x = A) (hE : z3E s a x = E) (h : E ≠ 0) : z6A s a x = A ∧ z6E s a x = E := by
  have e4 : z4E s a x = E := by unfold z4E; rw [hE, hA]; exact cErr_bad _ h
  have a4 : z4A s a x = A := by unfold z4A; rw [hE, hA]; exact cAt_bad _ h
  have e5 : z5E s a x = E := by unfold z5E; rw [e4, a4]; exact (b_bad _ h).2.2
  have a5 : z5A s a x = A := by unfold z5A; rw [e4, a4]; exact (b_bad _ h).2.1
  unfold z6A z6E
  rw [e5, a5]
  exact (f_bad h).2
theorem z_from2 {s : ByteArray} {a x A E : Int} (hA : z2A s a x = A) (hE : z2E s a x = E) (h : E ≠ 0) : z6A s a x = A ∧ z6E s a x = E :=
  z_from3 (by unfold z3A; rw [hE, hA]; exact cAt_bad _ h) (by unfold z3E; rw [hE, hA]; exact vEx_err h) h
theorem z_from1 {s : ByteArray} {a x A E : Int} (hA : z1A s a x = A) (hE : z1E s a x = E) (h : E ≠ 0) : z6A s a x = A ∧ z6E s a x = E :=
  z_from2 (by unfold z2A; rw [hE, hA]; exact cAt_bad _ h) (by unfold z2E; rw [hE, hA]; exact mE_err h) h
/-- The error of a reading, out of the chain. -/
def zErr (s : ByteArray) (a x : Int) : Int := if z6E s a x = 0 ∧ z6N s a x ≠ zSum s a x then 12 else z6E s a x
theorem zErr_bad {s : ByteArray} {a x : Int} (h : z6E s a x ≠ 0) : zErr s a x = z6E s a x := if_neg (fun e => h e.1)
theorem z_all (s : ByteArray) (a x : Int) : z6A s a x = qAt s a x ∧ zErr s a x = qErr s a x ∧ (qErr s a x = 0 → qFr s a x = fr (zV s a x) (zK s a x) (z5T s a x)) := by
  by_cases g0 : mE s a x 215 = 0
  · obtain ⟨rfl, c0, b0, d0⟩ := mE_zero g0
    have e1 : z1E s a 0 = 0 := g0
    have a1 : z1A s a 0 = a + 1 := d0
    by_cases g1 : mE s (a + 1) 0 78 = 0
    · obtain ⟨_, c1, b1, d1⟩ := mE_zero g1
      have e2 : z2E s a 0 = 0 := by unfold z2E; rw [e1, a1]; exact g1
      have a2 : z2A s a 0 = a + 2 := by unfold z2A; rw [e1, a1, d1]; omega
      by_cases g2 : vE s (a + 2) = 0
      · obtain ⟨c2, b2, d2⟩ := vE_zero g2
        have e3 : z3E s a 0 = 0 := by unfold z3E; rw [e2, a2]; exact g2
        have a3 : z3A s a 0 = a + 3 := by unfold z3A; rw [e2, a2, d2]; omega
        have a4 : z4A s a 0 = q4A s (a + 3) := by unfold z4A; rw [e3, a3]; rfl
        have e4 : z4E s a 0 = q4E s (a + 3) := by unfold z4E; rw [e3, a3]; rfl
        have t5 : z5T s a 0 = q5T s (a + 3) := by unfold z5T; rw [e4, a4]; rfl
        have a5 : z5A s a 0 = q5A s (a + 3) := by unfold z5A; rw [e4, a4]; rfl
        have e5 : z5E s a 0 = q5E s (a + 3) := by unfold z5E; rw [e4, a4]; rfl
        have n6 : z6N s a 0 = q6N s (a + 3) := by unfold z6N; rw [e5, a5]; rfl
        have a6 : z6A s a 0 = q6A s (a + 3) := by unfold z6A; rw [e5, a5]; rfl
        have e6 : z6E s a 0 = q6E s (a + 3) := by unfold z6E; rw [e5, a5]; rfl
        have su : zSum s a 0 = qSum s a := by unfold zSum qSum; rw [a2, a5]
        refine ⟨by rw [a6, q_at g0 g1 g2], ?_, fun hz => ?_⟩
        · unfold zErr
          rw [e6, n6, su]
          by_cases g3 : q6E s (a + 3) = 0
          · by_cases g4 : q6N s (a + 3) = qSum s a
            · rw [if_neg (fun e => e.2 g4), q_F g0 g1 g2 g3 g4, g3]
            · rw [if_pos ⟨g3, g4⟩, q_E g0 g1 g2 g3 g4]
          · rw [if_neg (fun e => g3 e.1), q_D g0 g1 g2 g3]
        · rw [qFr_yes hz, t5]
          unfold zV zK
          rw [e2, a2, e3, a3]
      · have e3 : z3E s a 0 = vE s (a + 2) := by unfold z3E; rw [e2, a2]; rfl
        have a3 : z3A s a 0 = cAt s (a + 2) 0 1 := by unfold z3A; rw [e2, a2]
        obtain ⟨f1, f2⟩ := z_from3 a3 e3 g2
        obtain ⟨q1, q2⟩ := q_C g0 g1 g2
        exact ⟨by rw [f1, q2], by rw [zErr_bad (by rw [f2]; exact g2), f2, q1], fun hz => absurd (q1.symm.trans hz) g2⟩
    · have e2 : z2E s a 0 = mE s (a + 1) 0 78 := by unfold z2E; rw [e1, a1]
      have a2 : z2A s a 0 = cAt s (a + 1) 0 1 := by unfold z2A; rw [e1, a1]
      obtain ⟨f1, f2⟩ := z_from2 a2 e2 g1
      obtain ⟨q1, q2⟩ := q_B g0 g1
      exact ⟨by rw [f1, q2], by rw [zErr_bad (by rw [f2]; exact g1), f2, q1], fun hz => absurd (q1.symm.trans hz) g1⟩
  · obtain ⟨f1, f2⟩ := z_from1 (s := s) (a := a) (x := x) rfl rfl g0
    obtain ⟨q1, q2⟩ := q_A g0
    exact ⟨by rw [f1, q2]; rfl, by rw [zErr_bad (by rw [f2]; exact g0), f2, q1]; rfl, fun hz => absurd (q1.symm.trans hz) g0⟩
theorem z_mono (s : ByteArray) (a x : Int) : a ≤ z2A s a x ∧ z2A s a x ≤ z5A s a x := by
  have h1 := cAt_ge s a x 1
  have h2 := cAt_ge s (z1A s a x) (z1E s a x) 1
  have h3 := cAt_ge s (z2A s a x) (z2E s a x) 1
  have h4 := cAt_ge s (z3A s a x) (z3E s a x) 1
  have h5 := tAt_ge s (z4A s a x) (z4E s a x)
  have h6 := cAt_ge s (tAt s (z4A s a x) (z4E s a x)) (kErr s (z4A s a x) (z4E s a x) 65536) (kNum s (z4A s a x) (z4E s a x) 65536)
  exact ⟨Int.le_trans h1 h2, Int.le_trans h3 (Int.le_trans h4 (Int.le_trans h5 h6))⟩
theorem FrAt.set0 {w : World} {g : Nat} {v k : Int} {t : ByteArray} (h : FrAt w g v k t) (v' : Int) : FrAt (w.setCell ⟨g, 0, none⟩ (.int .u8 v')) g v' k t := by
  obtain ⟨ty, hk⟩ := h.blk
  exact ⟨ty, by rw [heap_setCell_at hk]; rfl⟩
theorem FrAt.set1 {w : World} {g : Nat} {v k : Int} {t : ByteArray} (h : FrAt w g v k t) (k' : Int) : FrAt (w.setCell ⟨g, 1, none⟩ (.int .u8 k')) g v k' t := by
  obtain ⟨ty, hk⟩ := h.blk
  exact ⟨ty, by rw [heap_setCell_at hk]; rfl⟩
theorem FrAt.set2 {w : World} {g : Nat} {v k : Int} {t : ByteArray} (h : FrAt w g v k t) (t' : ByteArray) : FrAt (w.setCell ⟨g, 2, none⟩ (.string t')) g v k t' := by
  obtain ⟨ty, hk⟩ := h.blk
  exact ⟨ty, by rw [heap_setCell_at hk]; rfl⟩
/-- No old block but the cursor's and the coder's has turned. -/
abbrev KeepT (b : Nat) (kb : Option Nat) (w w' : World) : Prop := Keep (fun k => k = b ∨ kb = some k) w w'
set_option maxRecDepth 100000 in
set_option maxHeartbeats 4000000 in
theorem take7_D {w : World} {b : Nat} {s : ByteArray} {a x : Int} {kb : Option Nat} (h : Cur w b s a x) (hc : CoderAt w kb) (hne : ¬ kb = some b) (g3 : z6E s a x ≠ 0) :
    Calls Try.prog 46 #[kptr kb, ptr b] w fun e w' => e = .returned (fr 0 0 ⟨#[]⟩) ∧ Cur w' b s (z6A s a x) (z6E s a x) ∧ CoderAt w' kb ∧ KeepT b kb w w' := by
  have hlt := h.lt
  have lo := h.lo
  have sz := h.sz
  have y1 := fun W (h : Cur W b s a x) => magic_any h
  have y2 : ∀ W, Cur W b s (z2A s a x) (z2E s a x) → Calls Try.prog 52 #[ptr b] W fun e w' => e = .returned (.int .u8 (zV s a x)) ∧ Cur w' b s (z3A s a x) (z3E s a x) ∧ Keep1 b W w' := fun W h => version_any h
  have y3 : ∀ W, Cur W b s (z3A s a x) (z3E s a x) → Calls Try.prog 53 #[ptr b] W fun e w' => e = .returned (.int .u8 (zK s a x)) ∧ Cur w' b s (z4A s a x) (z4E s a x) ∧ Keep1 b W w' := fun W h => byte_any h
  have y4 : ∀ W, Cur W b s (z4A s a x) (z4E s a x) → Calls Try.prog 54 #[ptr b, .int .i64 65536] W fun e w' => e = .returned (.string (z5T s a x)) ∧ Cur w' b s (z5A s a x) (z5E s a x) ∧ Keep1 b W w' := fun W h => blob6_any 65536 (by decide) h
  have y6 : ∀ W, Cur W b s (z5A s a x) (z5E s a x) → Calls Try.prog 56 #[ptr b, .int .i64 4] W fun e w' => e = .returned (.int .u64 (z6N s a x)) ∧ Cur w' b s (z6A s a x) (z6E s a x) ∧ Keep1 b W w' := fun W h => take4_any 4 h
  obtain ⟨mo1, mo2⟩ := z_mono s a x
  have y5 : ∀ W, Cur W b s (z5A s a x) (z5E s a x) → Calls Try.prog 55 #[ptr b, .int .i64 (z2A s a x)] W fun e w' => e = .returned (.string (cut s (z2A s a x) (z5A s a x))) ∧ ∃ n, w' = W.drewN n := fun W h => since_yes _ h (by omega) mo2
  have hsu : ∀ W, CoderAt W kb → z5A s a x ≤ s.size → Calls Try.prog 57 #[kptr kb, .string (cut s (z2A s a x) (z5A s a x))] W fun e w' => e = .returned (.int .u64 (zSum s a x)) ∧ CoderAt w' kb ∧ KeepK kb W w' := fun W hc hle => sum7_any hc _ (by
    unfold cut
    rw [ByteArray.size_extract]
    omega)
  have e1 : (z6E s a x == 0) = false := by simpa using g3
  have e2 : (z6E s a x != 0) = true := by simpa using g3
  clear g3
  generalize cut s (z2A s a x) (z5A s a x) = CT at *
  generalize zV s a x = VV at *
  generalize zK s a x = KK at *
  generalize z2A s a x = A2 at *
  generalize z2E s a x = E2 at *
  generalize z3A s a x = A3 at *
  generalize z3E s a x = E3 at *
  generalize z4A s a x = A4 at *
  generalize z4E s a x = E4 at *
  generalize z5T s a x = T5 at *
  generalize z5A s a x = A5 at *
  generalize z5E s a x = E5 at *
  generalize z6N s a x = N6 at *
  generalize z6A s a x = A6 at *
  generalize z6E s a x = E6 at *
  generalize zSum s a x = SU at *
  clear mo1 mo2 lo sz
  have r0 := FrAt.new w 0 0 ⟨#[]⟩ 46
  have k0 : Keep0 w (w.alloc (.cells #[.int .u8 0, .int .u8 0, .string ⟨#[]⟩] 46)) := (Keep.refl _ w).alloc _
  have h0 := h.keep0 k0
  have c0 := hc.keep0 k0
  have K0 : KeepT b kb w _ := k0.any
  have ng : ¬ kb = some w.heap.size := hc.ne (Nat.le_refl _)
  clear h k0 hc
  generalize kptr kb = KV at *
  go_enter Try.func46, Try.ntmps46
  go_wp2_with fail
  generalize hg : w.heap.size = g at *
  generalize w.alloc (.cells #[.int .u8 0, .int .u8 0, .string ⟨#[]⟩] 46) = w0 at *
  refine (y1 _ h0).mono ?_
  rintro e w1 ⟨rfl, h1, k1⟩
  have r1 := r0.keep k1 (by omega)
  have c1 := c0.keep k1 (fun g hg hh => hne (by rw [← hh]; exact hg))
  have K1 := K0.step k1 (fun i _ hh => .inl hh)
  clear h0 r0 c0 K0
  go_wp2_with fail
  refine (at_any h1).mono ?_
  rintro e w' ⟨rfl, rfl⟩
  have k2 : Keep0 w1 (w1.alloc (.cells #[.int .u8 0, .int .u8 0, .string ⟨#[]⟩] 46)) := (Keep.refl _ w1).alloc _
  have f2 := FrAt.new w1 0 0 ⟨#[]⟩ 46
  have h2 := h1.keep0 k2
  have r2 := r1.keep0 k2
  have n2 := c1.ne (Nat.le_refl _)
  have c2 := c1.keep0 k2
  have K2 := K1.step0 k2
  have lg := r1.lt
  go_wp2_with fail
  generalize w1.heap.size = g2 at *
  generalize w1.alloc (.cells #[.int .u8 0, .int .u8 0, .string ⟨#[]⟩] 46) = w2 at *
  clear h1 r1 c1 K1
  refine (y2 _ h2).mono ?_
  rintro e w3 ⟨rfl, h3, k3⟩
  have r3 := r2.keep k3 (by omega)
  have f3 := f2.keep k3 (by omega)
  have c3 := c2.keep k3 (fun g hg hh => hne (by rw [← hh]; exact hg))
  have K3 := K2.step k3 (fun i _ hh => .inl hh)
  clear h2 r2 c2 K2 f2
  obtain ⟨d0, d1, d2, d3, d4, d5⟩ := f3.cells
  go_wp2_with fail
  have k4 : Keep1 g2 w3 (w3.setCell ⟨g2, 0, none⟩ (.int .u8 VV)) := (Keep.refl _ _).set1 _ _
  have f4 := f3.set0 VV
  have h4 := h3.keep k4 (by omega)
  have r4 := r3.keep k4 (by omega)
  have c4 := c3.keep k4 (fun g hg hh => n2 (by rw [← hh]; exact hg))
  have K4 := K3.step k4 (fun i hi hh => by omega)
  generalize w3.setCell ⟨g2, 0, none⟩ (.int .u8 VV) = w4 at *
  clear d0 d1 d2 d3 d4 d5
  clear h3 r3 c3 K3 f3
  refine (y3 _ h4).mono ?_
  rintro e w5 ⟨rfl, h5, k5⟩
  have r5 := r4.keep k5 (by omega)
  have f5 := f4.keep k5 (by omega)
  have c5 := c4.keep k5 (fun g hg hh => hne (by rw [← hh]; exact hg))
  have K5 := K4.step k5 (fun i _ hh => .inl hh)
  clear h4 r4 c4 K4 f4
  obtain ⟨d0, d1, d2, d3, d4, d5⟩ := f5.cells
  go_wp2_with fail
  have k6 : Keep1 g2 w5 (w5.setCell ⟨g2, 1, none⟩ (.int .u8 KK)) := (Keep.refl _ _).set1 _ _
  have f6 := f5.set1 KK
  have h6 := h5.keep k6 (by omega)
  have r6 := r5.keep k6 (by omega)
  have c6 := c5.keep k6 (fun g hg hh => n2 (by rw [← hh]; exact hg))
  have K6 := K5.step k6 (fun i hi hh => by omega)
  generalize w5.setCell ⟨g2, 1, none⟩ (.int .u8 KK) = w6 at *
  clear d0 d1 d2 d3 d4 d5
  clear h5 r5 c5 K5 f5
  refine (y4 _ h6).mono ?_
  rintro e w7 ⟨rfl, h7, k7⟩
  have r7 := r6.keep k7 (by omega)
  have f7 := f6.keep k7 (by omega)
  have c7 := c6.keep k7 (fun g hg hh => hne (by rw [← hh]; exact hg))
  have K7 := K6.step k7 (fun i _ hh => .inl hh)
  clear h6 r6 c6 K6 f6
  obtain ⟨d0, d1, d2, d3, d4, d5⟩ := f7.cells
  go_wp2_with fail
  have k8 : Keep1 g2 w7 (w7.setCell ⟨g2, 2, none⟩ (.string T5)) := (Keep.refl _ _).set1 _ _
  have f8 := f7.set2 T5
  have h8 := h7.keep k8 (by omega)
  have r8 := r7.keep k8 (by omega)
  have c8 := c7.keep k8 (fun g hg hh => n2 (by rw [← hh]; exact hg))
  have K8 := K7.step k8 (fun i hi hh => by omega)
  generalize w7.setCell ⟨g2, 2, none⟩ (.string T5) = w8 at *
  clear d0 d1 d2 d3 d4 d5
  clear h7 r7 c7 K7 f7
  refine (y5 _ h8).mono ?_
  rintro e w9 ⟨rfl, hw⟩
  have k9 := keepN hw
  clear hw
  have f9 := f8.keep0 k9
  have h9 := h8.keep k9 (fun f => f)
  have r9 := r8.keep k9 (fun f => f)
  have c9 := c8.keep0 k9
  have K9 := K8.step0 k9
  clear h8 r8 c8 K8 f8
  go_wp2_with fail
  have hi5 := h9.hi
  refine (y6 _ h9).mono ?_
  rintro e w10 ⟨rfl, h10, k10⟩
  have r10 := r9.keep k10 (by omega)
  have f10 := f9.keep k10 (by omega)
  have c10 := c9.keep k10 (fun g hg hh => hne (by rw [← hh]; exact hg))
  have K10 := K9.step k10 (fun i _ hh => .inl hh)
  clear h9 r9 c9 K9 f9
  go_wp2_with fail
  refine (err_any h10).mono ?_
  rintro e w' ⟨rfl, rfl⟩
  go_wp2_with fail
  refine (err_any h10).mono ?_
  rintro e w' ⟨rfl, rfl⟩
  obtain ⟨d0, d1, d2, d3, d4, d5⟩ := f10.cells
  obtain ⟨i0, i1, i2, i3, i4, i5⟩ := r10.cells
  go_wp2
  refine bodyPost_ret (retFr rfl _ _ _ rfl (r10.put 0 0 ⟨#[]⟩)) rfl ?_
  have kz := FrAt.put_keep w10 g 0 0 ⟨#[]⟩
  exact ⟨rfl, h10.keep kz (by omega), c10.keep kz (fun g hg hh => ng (by rw [← hh]; exact hg)), K10.step kz (fun i hi hh => by omega)⟩
set_option maxRecDepth 100000 in
set_option maxHeartbeats 4000000 in
theorem take7_E {w : World} {b : Nat} {s : ByteArray} {a x : Int} {kb : Option Nat} (h : Cur w b s a x) (hc : CoderAt w kb) (hne : ¬ kb = some b) (g3 : z6E s a x = 0) (g4 : z6N s a x ≠ zSum s a x) :
    Calls Try.prog 46 #[kptr kb, ptr b] w fun e w' => e = .returned (fr 0 0 ⟨#[]⟩) ∧ Cur w' b s (z6A s a x) (12) ∧ CoderAt w' kb ∧ KeepT b kb w w' := by
  have hlt := h.lt
  have lo := h.lo
  have sz := h.sz
  have y1 := fun W (h : Cur W b s a x) => magic_any h
  have y2 : ∀ W, Cur W b s (z2A s a x) (z2E s a x) → Calls Try.prog 52 #[ptr b] W fun e w' => e = .returned (.int .u8 (zV s a x)) ∧ Cur w' b s (z3A s a x) (z3E s a x) ∧ Keep1 b W w' := fun W h => version_any h
  have y3 : ∀ W, Cur W b s (z3A s a x) (z3E s a x) → Calls Try.prog 53 #[ptr b] W fun e w' => e = .returned (.int .u8 (zK s a x)) ∧ Cur w' b s (z4A s a x) (z4E s a x) ∧ Keep1 b W w' := fun W h => byte_any h
  have y4 : ∀ W, Cur W b s (z4A s a x) (z4E s a x) → Calls Try.prog 54 #[ptr b, .int .i64 65536] W fun e w' => e = .returned (.string (z5T s a x)) ∧ Cur w' b s (z5A s a x) (z5E s a x) ∧ Keep1 b W w' := fun W h => blob6_any 65536 (by decide) h
  have y6 : ∀ W, Cur W b s (z5A s a x) (z5E s a x) → Calls Try.prog 56 #[ptr b, .int .i64 4] W fun e w' => e = .returned (.int .u64 (z6N s a x)) ∧ Cur w' b s (z6A s a x) (z6E s a x) ∧ Keep1 b W w' := fun W h => take4_any 4 h
  obtain ⟨mo1, mo2⟩ := z_mono s a x
  have y5 : ∀ W, Cur W b s (z5A s a x) (z5E s a x) → Calls Try.prog 55 #[ptr b, .int .i64 (z2A s a x)] W fun e w' => e = .returned (.string (cut s (z2A s a x) (z5A s a x))) ∧ ∃ n, w' = W.drewN n := fun W h => since_yes _ h (by omega) mo2
  have hsu : ∀ W, CoderAt W kb → z5A s a x ≤ s.size → Calls Try.prog 57 #[kptr kb, .string (cut s (z2A s a x) (z5A s a x))] W fun e w' => e = .returned (.int .u64 (zSum s a x)) ∧ CoderAt w' kb ∧ KeepK kb W w' := fun W hc hle => sum7_any hc _ (by
    unfold cut
    rw [ByteArray.size_extract]
    omega)
  have e3 : ((z6N s a x : Int) != (zSum s a x : Int)) = true := by simp; omega
  rw [g3] at y6
  clear g3 g4
  generalize cut s (z2A s a x) (z5A s a x) = CT at *
  generalize zV s a x = VV at *
  generalize zK s a x = KK at *
  generalize z2A s a x = A2 at *
  generalize z2E s a x = E2 at *
  generalize z3A s a x = A3 at *
  generalize z3E s a x = E3 at *
  generalize z4A s a x = A4 at *
  generalize z4E s a x = E4 at *
  generalize z5T s a x = T5 at *
  generalize z5A s a x = A5 at *
  generalize z5E s a x = E5 at *
  generalize z6N s a x = N6 at *
  generalize z6A s a x = A6 at *
  generalize z6E s a x = E6 at *
  generalize zSum s a x = SU at *
  clear mo1 mo2 lo sz
  have r0 := FrAt.new w 0 0 ⟨#[]⟩ 46
  have k0 : Keep0 w (w.alloc (.cells #[.int .u8 0, .int .u8 0, .string ⟨#[]⟩] 46)) := (Keep.refl _ w).alloc _
  have h0 := h.keep0 k0
  have c0 := hc.keep0 k0
  have K0 : KeepT b kb w _ := k0.any
  have ng : ¬ kb = some w.heap.size := hc.ne (Nat.le_refl _)
  clear h k0 hc
  generalize kptr kb = KV at *
  go_enter Try.func46, Try.ntmps46
  go_wp2_with fail
  generalize hg : w.heap.size = g at *
  generalize w.alloc (.cells #[.int .u8 0, .int .u8 0, .string ⟨#[]⟩] 46) = w0 at *
  refine (y1 _ h0).mono ?_
  rintro e w1 ⟨rfl, h1, k1⟩
  have r1 := r0.keep k1 (by omega)
  have c1 := c0.keep k1 (fun g hg hh => hne (by rw [← hh]; exact hg))
  have K1 := K0.step k1 (fun i _ hh => .inl hh)
  clear h0 r0 c0 K0
  go_wp2_with fail
  refine (at_any h1).mono ?_
  rintro e w' ⟨rfl, rfl⟩
  have k2 : Keep0 w1 (w1.alloc (.cells #[.int .u8 0, .int .u8 0, .string ⟨#[]⟩] 46)) := (Keep.refl _ w1).alloc _
  have f2 := FrAt.new w1 0 0 ⟨#[]⟩ 46
  have h2 := h1.keep0 k2
  have r2 := r1.keep0 k2
  have n2 := c1.ne (Nat.le_refl _)
  have c2 := c1.keep0 k2
  have K2 := K1.step0 k2
  have lg := r1.lt
  go_wp2_with fail
  generalize w1.heap.size = g2 at *
  generalize w1.alloc (.cells #[.int .u8 0, .int .u8 0, .string ⟨#[]⟩] 46) = w2 at *
  clear h1 r1 c1 K1
  refine (y2 _ h2).mono ?_
  rintro e w3 ⟨rfl, h3, k3⟩
  have r3 := r2.keep k3 (by omega)
  have f3 := f2.keep k3 (by omega)
  have c3 := c2.keep k3 (fun g hg hh => hne (by rw [← hh]; exact hg))
  have K3 := K2.step k3 (fun i _ hh => .inl hh)
  clear h2 r2 c2 K2 f2
  obtain ⟨d0, d1, d2, d3, d4, d5⟩ := f3.cells
  go_wp2_with fail
  have k4 : Keep1 g2 w3 (w3.setCell ⟨g2, 0, none⟩ (.int .u8 VV)) := (Keep.refl _ _).set1 _ _
  have f4 := f3.set0 VV
  have h4 := h3.keep k4 (by omega)
  have r4 := r3.keep k4 (by omega)
  have c4 := c3.keep k4 (fun g hg hh => n2 (by rw [← hh]; exact hg))
  have K4 := K3.step k4 (fun i hi hh => by omega)
  generalize w3.setCell ⟨g2, 0, none⟩ (.int .u8 VV) = w4 at *
  clear d0 d1 d2 d3 d4 d5
  clear h3 r3 c3 K3 f3
  refine (y3 _ h4).mono ?_
  rintro e w5 ⟨rfl, h5, k5⟩
  have r5 := r4.keep k5 (by omega)
  have f5 := f4.keep k5 (by omega)
  have c5 := c4.keep k5 (fun g hg hh => hne (by rw [← hh]; exact hg))
  have K5 := K4.step k5 (fun i _ hh => .inl hh)
  clear h4 r4 c4 K4 f4
  obtain ⟨d0, d1, d2, d3, d4, d5⟩ := f5.cells
  go_wp2_with fail
  have k6 : Keep1 g2 w5 (w5.setCell ⟨g2, 1, none⟩ (.int .u8 KK)) := (Keep.refl _ _).set1 _ _
  have f6 := f5.set1 KK
  have h6 := h5.keep k6 (by omega)
  have r6 := r5.keep k6 (by omega)
  have c6 := c5.keep k6 (fun g hg hh => n2 (by rw [← hh]; exact hg))
  have K6 := K5.step k6 (fun i hi hh => by omega)
  generalize w5.setCell ⟨g2, 1, none⟩ (.int .u8 KK) = w6 at *
  clear d0 d1 d2 d3 d4 d5
  clear h5 r5 c5 K5 f5
  refine (y4 _ h6).mono ?_
  rintro e w7 ⟨rfl, h7, k7⟩
  have r7 := r6.keep k7 (by omega)
  have f7 := f6.keep k7 (by omega)
  have c7 := c6.keep k7 (fun g hg hh => hne (by rw [← hh]; exact hg))
  have K7 := K6.step k7 (fun i _ hh => .inl hh)
  clear h6 r6 c6 K6 f6
  obtain ⟨d0, d1, d2, d3, d4, d5⟩ := f7.cells
  go_wp2_with fail
  have k8 : Keep1 g2 w7 (w7.setCell ⟨g2, 2, none⟩ (.string T5)) := (Keep.refl _ _).set1 _ _
  have f8 := f7.set2 T5
  have h8 := h7.keep k8 (by omega)
  have r8 := r7.keep k8 (by omega)
  have c8 := c7.keep k8 (fun g hg hh => n2 (by rw [← hh]; exact hg))
  have K8 := K7.step k8 (fun i hi hh => by omega)
  generalize w7.setCell ⟨g2, 2, none⟩ (.string T5) = w8 at *
  clear d0 d1 d2 d3 d4 d5
  clear h7 r7 c7 K7 f7
  refine (y5 _ h8).mono ?_
  rintro e w9 ⟨rfl, hw⟩
  have k9 := keepN hw
  clear hw
  have f9 := f8.keep0 k9
  have h9 := h8.keep k9 (fun f => f)
  have r9 := r8.keep k9 (fun f => f)
  have c9 := c8.keep0 k9
  have K9 := K8.step0 k9
  clear h8 r8 c8 K8 f8
  go_wp2_with fail
  have hi5 := h9.hi
  refine (y6 _ h9).mono ?_
  rintro e w10 ⟨rfl, h10, k10⟩
  have r10 := r9.keep k10 (by omega)
  have f10 := f9.keep k10 (by omega)
  have c10 := c9.keep k10 (fun g hg hh => hne (by rw [← hh]; exact hg))
  have K10 := K9.step k10 (fun i _ hh => .inl hh)
  clear h9 r9 c9 K9 f9
  go_wp2_with fail
  refine (err_any h10).mono ?_
  rintro e w' ⟨rfl, rfl⟩
  go_wp2_with fail
  refine (hsu _ c10 hi5).mono ?_
  rintro e w11 ⟨rfl, c11, k11⟩
  have h11 := h10.keep k11 hne
  have r11 := r10.keep k11 ng
  have f11 := f10.keep k11 n2
  have K11 := K10.step k11 (fun i _ hh => .inr hh)
  clear h10 r10 c10 K10 f10
  go_wp2_with fail
  refine (fail_yes 12 h11).mono ?_
  rintro e w12 ⟨rfl, h12, k12⟩
  have r12 := r11.keep k12 (by omega)
  have f12 := f11.keep k12 (by omega)
  have c12 := c11.keep k12 (fun g hg hh => hne (by rw [← hh]; exact hg))
  have K12 := K11.step k12 (fun i _ hh => .inl hh)
  clear h11 r11 c11 K11 f11
  go_wp2_with fail
  refine (err_any h12).mono ?_
  rintro e w' ⟨rfl, rfl⟩
  obtain ⟨d0, d1, d2, d3, d4, d5⟩ := f12.cells
  obtain ⟨i0, i1, i2, i3, i4, i5⟩ := r12.cells
  go_wp2
  refine bodyPost_ret (retFr rfl _ _ _ rfl (r12.put 0 0 ⟨#[]⟩)) rfl ?_
  have kz := FrAt.put_keep w12 g 0 0 ⟨#[]⟩
  exact ⟨rfl, h12.keep kz (by omega), c12.keep kz (fun g hg hh => ng (by rw [← hh]; exact hg)), K12.step kz (fun i hi hh => by omega)⟩
set_option maxRecDepth 100000 in
set_option maxHeartbeats 4000000 in
theorem take7_F {w : World} {b : Nat} {s : ByteArray} {a x : Int} {kb : Option Nat} (h : Cur w b s a x) (hc : CoderAt w kb) (hne : ¬ kb = some b) (g3 : z6E s a x = 0) (g4 : z6N s a x = zSum s a x) :
    Calls Try.prog 46 #[kptr kb, ptr b] w fun e w' => e = .returned (fr (zV s a x) (zK s a x) (z5T s a x)) ∧ Cur w' b s (z6A s a x) (0) ∧ CoderAt w' kb ∧ KeepT b kb w w' := by
  have hlt := h.lt
  have lo := h.lo
  have sz := h.sz
  have y1 := fun W (h : Cur W b s a x) => magic_any h
  have y2 : ∀ W, Cur W b s (z2A s a x) (z2E s a x) → Calls Try.prog 52 #[ptr b] W fun e w' => e = .returned (.int .u8 (zV s a x)) ∧ Cur w' b s (z3A s a x) (z3E s a x) ∧ Keep1 b W w' := fun W h => version_any h
  have y3 : ∀ W, Cur W b s (z3A s a x) (z3E s a x) → Calls Try.prog 53 #[ptr b] W fun e w' => e = .returned (.int .u8 (zK s a x)) ∧ Cur w' b s (z4A s a x) (z4E s a x) ∧ Keep1 b W w' := fun W h => byte_any h
  have y4 : ∀ W, Cur W b s (z4A s a x) (z4E s a x) → Calls Try.prog 54 #[ptr b, .int .i64 65536] W fun e w' => e = .returned (.string (z5T s a x)) ∧ Cur w' b s (z5A s a x) (z5E s a x) ∧ Keep1 b W w' := fun W h => blob6_any 65536 (by decide) h
  have y6 : ∀ W, Cur W b s (z5A s a x) (z5E s a x) → Calls Try.prog 56 #[ptr b, .int .i64 4] W fun e w' => e = .returned (.int .u64 (z6N s a x)) ∧ Cur w' b s (z6A s a x) (z6E s a x) ∧ Keep1 b W w' := fun W h => take4_any 4 h
  obtain ⟨mo1, mo2⟩ := z_mono s a x
  have y5 : ∀ W, Cur W b s (z5A s a x) (z5E s a x) → Calls Try.prog 55 #[ptr b, .int .i64 (z2A s a x)] W fun e w' => e = .returned (.string (cut s (z2A s a x) (z5A s a x))) ∧ ∃ n, w' = W.drewN n := fun W h => since_yes _ h (by omega) mo2
  have hsu : ∀ W, CoderAt W kb → z5A s a x ≤ s.size → Calls Try.prog 57 #[kptr kb, .string (cut s (z2A s a x) (z5A s a x))] W fun e w' => e = .returned (.int .u64 (zSum s a x)) ∧ CoderAt w' kb ∧ KeepK kb W w' := fun W hc hle => sum7_any hc _ (by
    unfold cut
    rw [ByteArray.size_extract]
    omega)
  have e3 : ((z6N s a x : Int) != (zSum s a x : Int)) = false := by simp; omega
  rw [g3] at y6
  clear g3 g4
  generalize cut s (z2A s a x) (z5A s a x) = CT at *
  generalize zV s a x = VV at *
  generalize zK s a x = KK at *
  generalize z2A s a x = A2 at *
  generalize z2E s a x = E2 at *
  generalize z3A s a x = A3 at *
  generalize z3E s a x = E3 at *
  generalize z4A s a x = A4 at *
  generalize z4E s a x = E4 at *
  generalize z5T s a x = T5 at *
  generalize z5A s a x = A5 at *
  generalize z5E s a x = E5 at *
  generalize z6N s a x = N6 at *
  generalize z6A s a x = A6 at *
  generalize z6E s a x = E6 at *
  generalize zSum s a x = SU at *
  clear mo1 mo2 lo sz
  have r0 := FrAt.new w 0 0 ⟨#[]⟩ 46
  have k0 : Keep0 w (w.alloc (.cells #[.int .u8 0, .int .u8 0, .string ⟨#[]⟩] 46)) := (Keep.refl _ w).alloc _
  have h0 := h.keep0 k0
  have c0 := hc.keep0 k0
  have K0 : KeepT b kb w _ := k0.any
  have ng : ¬ kb = some w.heap.size := hc.ne (Nat.le_refl _)
  clear h k0 hc
  generalize kptr kb = KV at *
  go_enter Try.func46, Try.ntmps46
  go_wp2_with fail
  generalize hg : w.heap.size = g at *
  generalize w.alloc (.cells #[.int .u8 0, .int .u8 0, .string ⟨#[]⟩] 46) = w0 at *
  refine (y1 _ h0).mono ?_
  rintro e w1 ⟨rfl, h1, k1⟩
  have r1 := r0.keep k1 (by omega)
  have c1 := c0.keep k1 (fun g hg hh => hne (by rw [← hh]; exact hg))
  have K1 := K0.step k1 (fun i _ hh => .inl hh)
  clear h0 r0 c0 K0
  go_wp2_with fail
  refine (at_any h1).mono ?_
  rintro e w' ⟨rfl, rfl⟩
  have k2 : Keep0 w1 (w1.alloc (.cells #[.int .u8 0, .int .u8 0, .string ⟨#[]⟩] 46)) := (Keep.refl _ w1).alloc _
  have f2 := FrAt.new w1 0 0 ⟨#[]⟩ 46
  have h2 := h1.keep0 k2
  have r2 := r1.keep0 k2
  have n2 := c1.ne (Nat.le_refl _)
  have c2 := c1.keep0 k2
  have K2 := K1.step0 k2
  have lg := r1.lt
  go_wp2_with fail
  generalize w1.heap.size = g2 at *
  generalize w1.alloc (.cells #[.int .u8 0, .int .u8 0, .string ⟨#[]⟩] 46) = w2 at *
  clear h1 r1 c1 K1
  refine (y2 _ h2).mono ?_
  rintro e w3 ⟨rfl, h3, k3⟩
  have r3 := r2.keep k3 (by omega)
  have f3 := f2.keep k3 (by omega)
  have c3 := c2.keep k3 (fun g hg hh => hne (by rw [← hh]; exact hg))
  have K3 := K2.step k3 (fun i _ hh => .inl hh)
  clear h2 r2 c2 K2 f2
  obtain ⟨d0, d1, d2, d3, d4, d5⟩ := f3.cells
  go_wp2_with fail
  have k4 : Keep1 g2 w3 (w3.setCell ⟨g2, 0, none⟩ (.int .u8 VV)) := (Keep.refl _ _).set1 _ _
  have f4 := f3.set0 VV
  have h4 := h3.keep k4 (by omega)
  have r4 := r3.keep k4 (by omega)
  have c4 := c3.keep k4 (fun g hg hh => n2 (by rw [← hh]; exact hg))
  have K4 := K3.step k4 (fun i hi hh => by omega)
  generalize w3.setCell ⟨g2, 0, none⟩ (.int .u8 VV) = w4 at *
  clear d0 d1 d2 d3 d4 d5
  clear h3 r3 c3 K3 f3
  refine (y3 _ h4).mono ?_
  rintro e w5 ⟨rfl, h5, k5⟩
  have r5 := r4.keep k5 (by omega)
  have f5 := f4.keep k5 (by omega)
  have c5 := c4.keep k5 (fun g hg hh => hne (by rw [← hh]; exact hg))
  have K5 := K4.step k5 (fun i _ hh => .inl hh)
  clear h4 r4 c4 K4 f4
  obtain ⟨d0, d1, d2, d3, d4, d5⟩ := f5.cells
  go_wp2_with fail
  have k6 : Keep1 g2 w5 (w5.setCell ⟨g2, 1, none⟩ (.int .u8 KK)) := (Keep.refl _ _).set1 _ _
  have f6 := f5.set1 KK
  have h6 := h5.keep k6 (by omega)
  have r6 := r5.keep k6 (by omega)
  have c6 := c5.keep k6 (fun g hg hh => n2 (by rw [← hh]; exact hg))
  have K6 := K5.step k6 (fun i hi hh => by omega)
  generalize w5.setCell ⟨g2, 1, none⟩ (.int .u8 KK) = w6 at *
  clear d0 d1 d2 d3 d4 d5
  clear h5 r5 c5 K5 f5
  refine (y4 _ h6).mono ?_
  rintro e w7 ⟨rfl, h7, k7⟩
  have r7 := r6.keep k7 (by omega)
  have f7 := f6.keep k7 (by omega)
  have c7 := c6.keep k7 (fun g hg hh => hne (by rw [← hh]; exact hg))
  have K7 := K6.step k7 (fun i _ hh => .inl hh)
  clear h6 r6 c6 K6 f6
  obtain ⟨d0, d1, d2, d3, d4, d5⟩ := f7.cells
  go_wp2_with fail
  have k8 : Keep1 g2 w7 (w7.setCell ⟨g2, 2, none⟩ (.string T5)) := (Keep.refl _ _).set1 _ _
  have f8 := f7.set2 T5
  have h8 := h7.keep k8 (by omega)
  have r8 := r7.keep k8 (by omega)
  have c8 := c7.keep k8 (fun g hg hh => n2 (by rw [← hh]; exact hg))
  have K8 := K7.step k8 (fun i hi hh => by omega)
  generalize w7.setCell ⟨g2, 2, none⟩ (.string T5) = w8 at *
  clear d0 d1 d2 d3 d4 d5
  clear h7 r7 c7 K7 f7
  refine (y5 _ h8).mono ?_
  rintro e w9 ⟨rfl, hw⟩
  have k9 := keepN hw
  clear hw
  have f9 := f8.keep0 k9
  have h9 := h8.keep k9 (fun f => f)
  have r9 := r8.keep k9 (fun f => f)
  have c9 := c8.keep0 k9
  have K9 := K8.step0 k9
  clear h8 r8 c8 K8 f8
  go_wp2_with fail
  have hi5 := h9.hi
  refine (y6 _ h9).mono ?_
  rintro e w10 ⟨rfl, h10, k10⟩
  have r10 := r9.keep k10 (by omega)
  have f10 := f9.keep k10 (by omega)
  have c10 := c9.keep k10 (fun g hg hh => hne (by rw [← hh]; exact hg))
  have K10 := K9.step k10 (fun i _ hh => .inl hh)
  clear h9 r9 c9 K9 f9
  go_wp2_with fail
  refine (err_any h10).mono ?_
  rintro e w' ⟨rfl, rfl⟩
  go_wp2_with fail
  refine (hsu _ c10 hi5).mono ?_
  rintro e w11 ⟨rfl, c11, k11⟩
  have h11 := h10.keep k11 hne
  have r11 := r10.keep k11 ng
  have f11 := f10.keep k11 n2
  have K11 := K10.step k11 (fun i _ hh => .inr hh)
  clear h10 r10 c10 K10 f10
  go_wp2_with fail
  refine (err_any h11).mono ?_
  rintro e w' ⟨rfl, rfl⟩
  obtain ⟨d0, d1, d2, d3, d4, d5⟩ := f11.cells
  obtain ⟨i0, i1, i2, i3, i4, i5⟩ := r11.cells
  go_wp2
  refine bodyPost_ret (retFr rfl _ _ _ rfl (r11.put VV KK T5)) rfl ?_
  have kz := FrAt.put_keep w11 g VV KK T5
  exact ⟨rfl, h11.keep kz (by omega), c11.keep kz (fun g hg hh => ng (by rw [← hh]; exact hg)), K11.step kz (fun i hi hh => by omega)⟩
theorem take7_any {w : World} {b : Nat} {s : ByteArray} {a x : Int} {kb : Option Nat} (h : Cur w b s a x) (hc : CoderAt w kb) (hne : ¬ kb = some b) :
    Calls Try.prog 46 #[kptr kb, ptr b] w fun e w' => e = .returned (qFr s a x) ∧ Cur w' b s (qAt s a x) (qErr s a x) ∧ CoderAt w' kb ∧ KeepT b kb w w' := by
  obtain ⟨q1, q2, q3⟩ := z_all s a x
  rw [← q1]
  by_cases g3 : z6E s a x = 0
  · by_cases g4 : z6N s a x = zSum s a x
    · have e : zErr s a x = 0 := by unfold zErr; rw [if_neg (fun e => e.2 g4), g3]
      rw [e] at q2
      rw [q3 q2.symm, ← q2]
      exact take7_F h hc hne g3 g4
    · have e : zErr s a x = 12 := if_pos ⟨g3, g4⟩
      rw [e] at q2
      rw [qFr_no (by rw [← q2]; decide), ← q2]
      exact take7_E h hc hne g3 g4
  · rw [zErr_bad g3] at q2
    rw [qFr_no (by rw [← q2]; exact g3), ← q2]
    exact take7_D h hc hne g3
end Go.Proofs.Ytmgfalkelembkaa
/-
  The contract of package frame's Decode, proved over this seat's translation.
  Conditions: a text takes at most the greatest length that a string may have.
-/
namespace Go.Proofs.Ytmgfalkelembkaa
open Go.RowKit

set_option maxRecDepth 100000 in
set_option maxHeartbeats 4000000 in
theorem decode7_bad {w : World} {kb : Option Nat} (hc : CoderAt w kb) (s : ByteArray) (hs : s.size ≤ maxLen) (hE : qErr s 0 0 ≠ 0) :
    Calls Try.prog 41 #[kptr kb, .string s] w fun e w' => e = .returned (.tuple #[fr 0 0 ⟨#[]⟩, .int .i64 0, .int .i64 (qErr s 0 0)]) ∧ CoderAt w' kb ∧ KeepK kb w w' := by
  have y := fun W b (h : Cur W b s 0 0) (hc : CoderAt W kb) (hne : ¬ kb = some b) => take7_any h hc hne
  rw [qFr_no hE] at y
  have e2 : (qErr s 0 0 != 0) = true := by simpa using hE
  unfold fr at y
  generalize qAt s 0 0 = A at *
  generalize qErr s 0 0 = E at *
  clear hE
  have r0 := FrAt.new w 0 0 ⟨#[]⟩ 46
  have k0 : Keep0 w (w.alloc (.cells #[.int .u8 0, .int .u8 0, .string ⟨#[]⟩] 46)) := (Keep.refl _ w).alloc _
  have c0 := hc.keep0 k0
  have ng : ¬ kb = some w.heap.size := hc.ne (Nat.le_refl _)
  generalize hKV : kptr kb = KV at *
  go_enter Try.func41, Try.ntmps41
  go_wp2_with fail
  generalize hg : w.heap.size = g at *
  generalize w.alloc (.cells #[.int .u8 0, .int .u8 0, .string ⟨#[]⟩] 46) = w0 at *
  refine (new_any _ s hs).mono ?_
  rintro e w1 ⟨rfl, h1, k1⟩
  have nb := c0.ne (Nat.le_refl w0.heap.size)
  have lg := r0.lt
  have r1 := r0.keep0 k1
  have c1 := c0.keep0 k1
  have K1 : KeepK kb w w1 := (k0.trans k1).any
  generalize w0.heap.size = b at *
  clear r0 k0 c0 k1
  go_wp2_with fail
  refine (y _ _ h1 c1 nb).mono ?_
  rintro e w2 ⟨rfl, h2, c2, k2⟩
  have r2 := r1.keep k2 (by rintro (hh | hh); omega; exact ng hh)
  have K2 := K1.step k2 (fun i hi hh => by rcases hh with hh | hh; omega; exact hh)
  clear r1 h1 c1 K1 k2 y
  have k3 : Keep0 w2 (w2.alloc (.cells #[.int .u8 0, .int .u8 0, .string ⟨#[]⟩] 46)) := (Keep.refl _ w2).alloc _
  have h3 := h2.keep0 k3
  have r3 := r2.keep0 k3
  have c3 := c2.keep0 k3
  have K3 := K2.step0 k3
  clear h2 r2 c2 K2 k3
  go_wp2_with fail
  generalize w2.alloc (.cells #[.int .u8 0, .int .u8 0, .string ⟨#[]⟩] 46) = w3 at *
  refine (err_any h3).mono ?_
  rintro e w' ⟨rfl, rfl⟩
  obtain ⟨i0, i1, i2, i3, i4, i5⟩ := r3.cells
  go_wp2
  refine bodyPost_ret (retFr3 rfl _ _ _ rfl (r3.put 0 0 ⟨#[]⟩)) rfl ?_
  have kz := FrAt.put_keep w3 g 0 0 ⟨#[]⟩
  exact ⟨rfl, c3.keep kz (fun i hi hh => ng (by rw [← hh]; exact hi)), K3.step kz (fun i hi hh => by omega)⟩
set_option maxRecDepth 100000 in
set_option maxHeartbeats 4000000 in
theorem decode7_ok {w : World} {kb : Option Nat} (hc : CoderAt w kb) (s : ByteArray) (hs : s.size ≤ maxLen) (hE : qErr s 0 0 = 0) :
    Calls Try.prog 41 #[kptr kb, .string s] w fun e w' => e = .returned (.tuple #[qFr s 0 0, .int .i64 (qAt s 0 0), .int .i64 0]) ∧ CoderAt w' kb ∧ KeepK kb w w' := by
  have y := fun W b (h : Cur W b s 0 0) (hc : CoderAt W kb) (hne : ¬ kb = some b) => take7_any h hc hne
  rw [hE] at y
  unfold qFr fr at *
  generalize qVer s 0 0 = V at *
  generalize qKind s 0 0 = KD at *
  generalize qTxt s 0 0 = T at *
  generalize qAt s 0 0 = A at *
  clear hE
  have r0 := FrAt.new w 0 0 ⟨#[]⟩ 46
  have k0 : Keep0 w (w.alloc (.cells #[.int .u8 0, .int .u8 0, .string ⟨#[]⟩] 46)) := (Keep.refl _ w).alloc _
  have c0 := hc.keep0 k0
  have ng : ¬ kb = some w.heap.size := hc.ne (Nat.le_refl _)
  generalize hKV : kptr kb = KV at *
  go_enter Try.func41, Try.ntmps41
  go_wp2_with fail
  generalize hg : w.heap.size = g at *
  generalize w.alloc (.cells #[.int .u8 0, .int .u8 0, .string ⟨#[]⟩] 46) = w0 at *
  refine (new_any _ s hs).mono ?_
  rintro e w1 ⟨rfl, h1, k1⟩
  have nb := c0.ne (Nat.le_refl w0.heap.size)
  have lg := r0.lt
  have r1 := r0.keep0 k1
  have c1 := c0.keep0 k1
  have K1 : KeepK kb w w1 := (k0.trans k1).any
  generalize w0.heap.size = b at *
  clear r0 k0 c0 k1
  go_wp2_with fail
  refine (y _ _ h1 c1 nb).mono ?_
  rintro e w2 ⟨rfl, h2, c2, k2⟩
  have r2 := r1.keep k2 (by rintro (hh | hh); omega; exact ng hh)
  have K2 := K1.step k2 (fun i hi hh => by rcases hh with hh | hh; omega; exact hh)
  clear r1 h1 c1 K1 k2 y
  have k3 : Keep0 w2 (w2.alloc (.cells #[.int .u8 V, .int .u8 KD, .string T] 46)) := (Keep.refl _ w2).alloc _
  have f3 := FrAt.new w2 V KD T 46
  have h3 := h2.keep0 k3
  have r3 := r2.keep0 k3
  have c3 := c2.keep0 k3
  have K3 := K2.step0 k3
  have lb := h2.lt
  have lg2 := r2.lt
  clear h2 r2 c2 K2 k3
  go_wp2_with fail
  generalize w2.heap.size = g2 at *
  generalize w2.alloc (.cells #[.int .u8 V, .int .u8 KD, .string T] 46) = w3 at *
  refine (err_any h3).mono ?_
  rintro e w' ⟨rfl, rfl⟩
  obtain ⟨i0, i1, i2, i3, i4, i5⟩ := r3.cells
  obtain ⟨d0, d1, d2, d3, d4, d5⟩ := f3.cells
  have kd : Keep0 w3 w3.drew := (Keep.refl _ w3).drew
  have kz := FrAt.put_keep w3.drew g V KD T
  have hA := h3.keep0 kd
  have hB := hA.keep kz (by omega)
  have rB := (r3.keep0 kd).put V KD T
  have cB := (c3.keep0 kd).keep kz (fun i hi hh => ng (by rw [← hh]; exact hi))
  have KB := (K3.step0 kd).step kz (fun i hi hh => by omega)
  go_wp2_with fail
  go_region_with (go_at_call 48; refine (at_any (by first | exact hA | exact hB)).mono ?_; rintro e w' ⟨rfl, rfl⟩)
  all_goals go_wp2
  all_goals (refine bodyPost_ret (retFr3 rfl _ _ _ rfl rB) rfl ?_)
  all_goals exact ⟨rfl, cB, KB⟩
theorem decode7_any {w : World} {kb : Option Nat} (hc : CoderAt w kb) (s : ByteArray) (hs : s.size ≤ maxLen) :
    Calls Try.prog 41 #[kptr kb, .string s] w fun e w' => e = .returned (.tuple #[qFr s 0 0, .int .i64 (qLen s), .int .i64 (qErr s 0 0)]) ∧ CoderAt w' kb ∧ KeepK kb w w' := by
  unfold qLen
  by_cases hE : qErr s 0 0 = 0
  · rw [if_pos hE, hE]
    exact decode7_ok hc s hs hE
  · rw [if_neg hE, qFr_no hE]
    exact decode7_bad hc s hs hE
end Go.Proofs.Ytmgfalkelembkaa
