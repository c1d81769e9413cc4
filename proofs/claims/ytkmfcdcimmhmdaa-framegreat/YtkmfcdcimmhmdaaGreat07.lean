/-
  The walk of the law FrameGreat, out of the contracts of package frame and of the document's own answers.
  Conditions: none beyond that each argument fits its kind.
-/
import Derived.Test.YtkmfcdcimmhmdaaLaw07
import Derived.Test.YtkmfcdcimmhmdaaOpen07
import Derived.Test.YtkmfcdcimmhmdaaHeld
import Derived.Deep.OwnRows
namespace Go.Proofs.Ytkmfcdcimmhmdaa
open Go.RowKit

/-- A row of which the first k bytes are c. -/
def gRow (c : UInt8) (k : Nat) : Nat → Value := fun j => if j < k then .int .u8 (c.toNat : Int) else .int .u8 0
theorem gRow_zero (c : UInt8) (j : Nat) : gRow c 0 j = .int .u8 0 := if_neg (by omega)
theorem gRow_at (c : UInt8) (k : Nat) : gRow c k k = .int .u8 0 := if_neg (by omega)
theorem gRow_set (c : UInt8) (k j : Nat) : (if j = k then Value.int .u8 (c.toNat : Int) else gRow c k j) = gRow c (k + 1) j := by
  unfold gRow
  by_cases h : j = k
  · rw [if_pos h, if_pos (by omega)]
  · rw [if_neg h]
    by_cases h1 : j < k
    · rw [if_pos h1, if_pos (by omega)]
    · rw [if_neg h1, if_neg (by omega)]
/-- A text of one byte, over and over. -/
def gTxt (c : UInt8) (n : Nat) : ByteArray := ⟨(List.replicate n c).toArray⟩
theorem gTxt_size (c : UInt8) (n : Nat) : (gTxt c n).size = n := by
  show (List.replicate n c).toArray.size = n
  simp
theorem run_gTxt {w : World} {g n : Nat} {c : UInt8} (h : w.rowIs g 5 n (gRow c n)) : (convert 48 9 (.slice (some ⟨g, 0, none⟩) n n)).run Try.prog w = .ok (.string (gTxt c n)) w := by
  have e := run_convert_bytes_back (P := Try.prog) w 48 9 5 ⟨g, 0, none⟩ n (List.replicate n c) Try.underlying48 Try.underlying5 Try.underlying9 (fun j hj => by
    have hj : j < n := by simpa using hj
    rw [add_plain, Nat.zero_add, h.cell hj]
    unfold gRow
    rw [if_pos hj, List.getElem_replicate])
  rw [List.length_replicate] at e
  exact e
set_option maxRecDepth 100000 in
set_option maxHeartbeats 8000000 in
theorem great7_long_neg (w : World) (c : UInt8) (less many : Int) (l0 : 0 ≤ less) (l1 : less ≤ 255) (L : Nat) (hL : 65596 - less % 120 = (L : Int)) (hL5 : ¬ L ≤ 65536) (hm : many < 0) :
    Calls Try.prog 5 #[.int .u8 (c.toNat : Int), .int .u8 less, .int .i64 many] w fun e w' => e = .returned (.bool true) ∧ Keep0 w w' := by
  have hLb : L ≤ 65596 := by omega
  have hLi : (L : Int) ≤ 65596 := by omega
  have hSs := gTxt_size c L
  have hL6 : (65536 : Int) < L := by omega
  have ye := fun W kb (h : CoderAt W kb) => encode7_any h 1 c (gTxt c L) (by rw [hSs]; unfold maxLen; omega)
  rw [(e7_long (v := 1) c rfl (by rw [hSs]; omega)).1, (e7_long (v := 1) c rfl (by rw [hSs]; omega)).2] at ye
  have e1 : ((1 : UInt8).toNat : Int) = 1 := rfl
  rw [e1] at ye
  clear e1
  have ym := fun W => room_any W many
  rw [fRoom_no (by omega)] at ym
  have hgt : ∀ W g, W.rowIs g 5 L (gRow c L) → (convert 48 9 (.slice (some ⟨g, 0, none⟩) L L)).run Try.prog W = .ok (.string (gTxt c L)) W := fun W g h => run_gTxt h
  have hmk := run_make_row' (P := Try.prog) 48 5 (.int .u8 0) 1 Try.underlying48 infoU8 rfl .i64 .i64 L (by omega) (by omega)
  have hmr := fun W => World.rowIs_made W (.int .u8 0) L 5
  have hmK := fun W : World => (Keep.refl (fun _ => False) W).alloc (.cells (madeCells #[.int .u8 0] L) 5)
  generalize madeCells #[.int .u8 0] L = MC at *
  generalize gTxt c L = S at *
  unfold fr at *
  go_enter Try.func5, Try.ntmps5
  go_wp2_with fail
  refine (awake07 _).mono ?_
  rintro e w1 ⟨rfl, K1⟩
  have hmr := hmr w1
  have K2 := K1.trans (hmK w1)
  have s1 := K1.size
  clear hmK K1
  go_wp2_with fail
  generalize w1.alloc (.cells MC 5) = w2 at *
  generalize w1.heap.size = g at *
  have hr2 : w2.rowIs g 5 L (gRow c 0) := hmr.congr (fun i _ => (gRow_zero c i).symm)
  clear hmr
  go_loopw [8] (fun i wr => ∃ k : Nat, k ≤ L ∧ i = .int .i64 k ∧ wr.rowIs g 5 L (gRow c k) ∧ Keep0 w wr) (fun i _ => L - (intOf i).toNat)
  case atStart => exact ⟨0, by omega, rfl, hr2, K2⟩
  case round =>
    obtain ⟨k, hk, rfl, hrow, hkp⟩ := hrel
    clear hr2 K2
    by_cases hlt : k < L
    · have hc0 := hrow.cell hlt
      rw [gRow_at] at hc0
      have hf0 := hrow.frozen k
      have hlt' : (k : Int) < L := by omega
      have hr3 := (hrow.set k (.int .u8 (c.toNat : Int))).congr (g := gRow c (k + 1)) (fun j _ => gRow_set c k j)
      have K3 := hkp.setNew (p := ⟨g, k, none⟩) s1 (.int .u8 (c.toNat : Int))
      clear ye ym hgt
      go_wp2
      go_roundw
      case rel => exact ⟨k + 1, by omega, by go_num, hr3, K3⟩
      case measure => simp [intOf]; omega
    · obtain rfl : k = L := by omega
      have hcv := hgt _ _ hrow
      have f3 := FrAt.new wr 1 (c.toNat : Int) S 23
      have k3 : Keep0 wr (wr.alloc (.cells #[.int .u8 1, .int .u8 (c.toNat : Int), .string S] 23)) := (Keep.refl _ wr).alloc _
      have K3 := hkp.step0 k3
      have s3 := hkp.size
      clear hgt k3 hkp
      go_wp2_with fail
      generalize wr.alloc (.cells #[.int .u8 1, .int .u8 (c.toNat : Int), .string S] 23) = w3 at *
      generalize hgf : wr.heap.size = gf at *
      have fD : FrAt w3.drew gf 1 (c.toNat : Int) S := f3.keep0 (Keep.refl _ w3).drew
      have KD := K3.drew
      obtain ⟨d0, d1, d2, _, _, _⟩ := fD.cells
      clear f3 K3
      refine wp_region_held_drew (S := fun w' => w'.cell? ⟨gf, 0, none⟩ = some (.int .u8 1) ∧ w'.cell? ⟨gf, 1, none⟩ = some (.int .u8 (c.toNat : Int)) ∧ w'.cell? ⟨gf, 2, none⟩ = some (.string S)) (by kernel_rfl) ⟨d0, d1, d2⟩ (fun hHeld => ?_)
      generalize w3.drew = wD at *
      refine wpAnyH_take (i := 1) (v := ?r0v) (by simp only [List.getElem?_toArray, List.getElem?_cons_succ, List.getElem?_cons_zero] <;> rfl) (by kernel_rfl) (by kernel_rfl) (by kernel_rfl) (by exact fun _ _ _ h => h) (Or.inl ⟨by rfl, ?r0y⟩) hHeld ?r0r
      case r0y => intro w hSw; (try dsimp only at hSw); go_simp <;> rfl
      simp only [Act.put, List.setIfInBounds_toArray, List.set_cons_zero, List.set_cons_succ]
      refine wpAnyH_ready (rs := [0]) (by kernel_rfl) (by simp) ?_
      refine AllReadyH.cons (by simp only [List.getElem?_toArray, List.getElem?_cons_zero] <;> rfl) (fun K hK => ?_) AllReadyH.nil
      go_simp
      refine (newcoder_any _).mono ?_
      rintro e w4 ⟨rfl, c4, k4⟩
      have f4 := fD.keep0 k4
      have K4 := KD.step0 k4
      have ye := ye _ _ c4
      have sD := KD.size
      have lf := fD.lt
      generalize wD.heap.size = kb at *
      generalize kptr (some kb) = KV at *
      have q4 := f4.cells
      clear k4 KD d0 d1 d2 fD
      go_wp2_with fail
      refine hK.out _ _ ⟨q4.1, q4.2.1, q4.2.2.1⟩ (fun hHeld => ?_)
      clear hK K
      refine wpAnyH_ready (rs := [2]) (by kernel_rfl) (by simp) ?_
      refine AllReadyH.cons (by simp only [List.getElem?_toArray, List.getElem?_cons_succ, List.getElem?_cons_zero] <;> rfl) (fun K hK => ?_) AllReadyH.nil
      go_simp
      refine ye.mono ?_
      rintro e w5 ⟨rfl, c5, k5⟩
      have f5 := f4.keep k5 (by intro hh; cases hh; omega)
      have K5 := K4.step k5 (fun i hi hh => by cases hh; omega)
      have q5 := f5.cells
      clear k5 K4 f4 ye q4 c4 c5
      go_wp2_with fail
      refine hK.out _ _ ⟨q5.1, q5.2.1, q5.2.2.1⟩ (fun hHeld => ?_)
      clear hK K
      refine wpAnyH_take (i := 3) (v := ?r1v) (by simp only [List.getElem?_toArray, List.getElem?_cons_succ, List.getElem?_cons_zero] <;> rfl) (by kernel_rfl) (by kernel_rfl) (by kernel_rfl) (by exact fun _ _ _ h => h) (Or.inl ⟨by rfl, ?r1y⟩) hHeld ?r1r
      case r1y => intro w hSw; (try dsimp only at hSw); go_simp <;> rfl
      simp only [Act.put, List.setIfInBounds_toArray, List.set_cons_zero, List.set_cons_succ]
      refine wpAnyH_take (i := 4) (v := ?r2v) (by simp only [List.getElem?_toArray, List.getElem?_cons_succ, List.getElem?_cons_zero] <;> rfl) (by kernel_rfl) (by kernel_rfl) (by kernel_rfl) (by exact fun _ _ _ h => h) (Or.inl ⟨by rfl, ?r2y⟩) hHeld ?r2r
      case r2y => intro w hSw; (try dsimp only at hSw); go_simp <;> rfl
      simp only [Act.put, List.setIfInBounds_toArray, List.set_cons_zero, List.set_cons_succ]
      refine wpAnyH_take (i := 5) (v := ?r3v) (by simp only [List.getElem?_toArray, List.getElem?_cons_succ, List.getElem?_cons_zero] <;> rfl) (by kernel_rfl) (by kernel_rfl) (by kernel_rfl) (by exact fun _ _ _ h => h) (Or.inl ⟨by rfl, ?r3y⟩) hHeld ?r3r
      case r3y => intro w hSw; (try dsimp only at hSw); go_simp <;> rfl
      simp only [Act.put, List.setIfInBounds_toArray, List.set_cons_zero, List.set_cons_succ]
      refine wpAnyH_take (i := 6) (v := ?r4v) (by simp only [List.getElem?_toArray, List.getElem?_cons_succ, List.getElem?_cons_zero] <;> rfl) (by kernel_rfl) (by kernel_rfl) (by kernel_rfl) (by exact fun _ _ _ h => h) (Or.inl ⟨by rfl, ?r4y⟩) hHeld ?r4r
      case r4y => intro w hSw; (try dsimp only at hSw); go_simp <;> rfl
      simp only [Act.put, List.setIfInBounds_toArray, List.set_cons_zero, List.set_cons_succ]
      refine wpAnyH_take (i := 7) (v := ?r5v) (by simp only [List.getElem?_toArray, List.getElem?_cons_succ, List.getElem?_cons_zero] <;> rfl) (by kernel_rfl) (by kernel_rfl) (by kernel_rfl) (by exact fun _ _ _ h => h) (Or.inl ⟨by rfl, ?r5y⟩) hHeld ?r5r
      case r5y => intro w hSw; (try dsimp only at hSw); go_simp <;> rfl
      simp only [Act.put, List.setIfInBounds_toArray, List.set_cons_zero, List.set_cons_succ]
      refine wpAnyH_done (by kernel_rfl) ?_ _
      clear hHeld q5
      go_wp2_with fail
      have f6 := f5
      have K6 := K5
      clear K5 f5
      refine (ym _).mono ?_
      rintro e w' ⟨rfl, rfl⟩
      go_wp2_with fail
      refine (sends_any _).mono ?_
      rintro e w' ⟨rfl, rfl⟩
      clear ym
      go_wp2
      go_ret
      exact ⟨rfl, K6⟩
set_option maxRecDepth 100000 in
set_option maxHeartbeats 8000000 in
theorem great7_long_in (w : World) (c : UInt8) (less many : Int) (l0 : 0 ≤ less) (l1 : less ≤ 255) (L : Nat) (hL : 65596 - less % 120 = (L : Int)) (hL5 : ¬ L ≤ 65536) (hm0 : 0 ≤ many) (hm1 : many ≤ 65536) :
    Calls Try.prog 5 #[.int .u8 (c.toNat : Int), .int .u8 less, .int .i64 many] w fun e w' => e = .returned (.bool true) ∧ Keep0 w w' := by
  have hLb : L ≤ 65596 := by omega
  have hLi : (L : Int) ≤ 65596 := by omega
  have hSs := gTxt_size c L
  have hL6 : (65536 : Int) < L := by omega
  have ye := fun W kb (h : CoderAt W kb) => encode7_any h 1 c (gTxt c L) (by rw [hSs]; unfold maxLen; omega)
  rw [(e7_long (v := 1) c rfl (by rw [hSs]; omega)).1, (e7_long (v := 1) c rfl (by rw [hSs]; omega)).2] at ye
  have e1 : ((1 : UInt8).toNat : Int) = 1 := rfl
  rw [e1] at ye
  clear e1
  obtain ⟨n, rfl⟩ : ∃ n : Nat, many = n := ⟨many.toNat, by omega⟩
  have yv := fun W => rencode_any n W (by omega)
  have ym := fun W => room_any W (n : Int)
  rw [fRoom_yes (by omega), ← vText_size] at ym
  have hvt := vText_le (n := n) (by omega)
  have hwr : IntKind.u64.wrap (n : Int) = n := by rw [IntKind.wrap_u64]; omega
  generalize vText n = VT at *
  have hgt : ∀ W g, W.rowIs g 5 L (gRow c L) → (convert 48 9 (.slice (some ⟨g, 0, none⟩) L L)).run Try.prog W = .ok (.string (gTxt c L)) W := fun W g h => run_gTxt h
  have hmk := run_make_row' (P := Try.prog) 48 5 (.int .u8 0) 1 Try.underlying48 infoU8 rfl .i64 .i64 L (by omega) (by omega)
  have hmr := fun W => World.rowIs_made W (.int .u8 0) L 5
  have hmK := fun W : World => (Keep.refl (fun _ => False) W).alloc (.cells (madeCells #[.int .u8 0] L) 5)
  generalize madeCells #[.int .u8 0] L = MC at *
  generalize gTxt c L = S at *
  unfold fr at *
  go_enter Try.func5, Try.ntmps5
  go_wp2_with fail
  refine (awake07 _).mono ?_
  rintro e w1 ⟨rfl, K1⟩
  have hmr := hmr w1
  have K2 := K1.trans (hmK w1)
  have s1 := K1.size
  clear hmK K1
  go_wp2_with fail
  generalize w1.alloc (.cells MC 5) = w2 at *
  generalize w1.heap.size = g at *
  have hr2 : w2.rowIs g 5 L (gRow c 0) := hmr.congr (fun i _ => (gRow_zero c i).symm)
  clear hmr
  go_loopw [8] (fun i wr => ∃ k : Nat, k ≤ L ∧ i = .int .i64 k ∧ wr.rowIs g 5 L (gRow c k) ∧ Keep0 w wr) (fun i _ => L - (intOf i).toNat)
  case atStart => exact ⟨0, by omega, rfl, hr2, K2⟩
  case round =>
    obtain ⟨k, hk, rfl, hrow, hkp⟩ := hrel
    clear hr2 K2
    by_cases hlt : k < L
    · have hc0 := hrow.cell hlt
      rw [gRow_at] at hc0
      have hf0 := hrow.frozen k
      have hlt' : (k : Int) < L := by omega
      have hr3 := (hrow.set k (.int .u8 (c.toNat : Int))).congr (g := gRow c (k + 1)) (fun j _ => gRow_set c k j)
      have K3 := hkp.setNew (p := ⟨g, k, none⟩) s1 (.int .u8 (c.toNat : Int))
      clear ye ym hgt yv
      go_wp2
      go_roundw
      case rel => exact ⟨k + 1, by omega, by go_num, hr3, K3⟩
      case measure => simp [intOf]; omega
    · obtain rfl : k = L := by omega
      have hcv := hgt _ _ hrow
      have f3 := FrAt.new wr 1 (c.toNat : Int) S 23
      have k3 : Keep0 wr (wr.alloc (.cells #[.int .u8 1, .int .u8 (c.toNat : Int), .string S] 23)) := (Keep.refl _ wr).alloc _
      have K3 := hkp.step0 k3
      have s3 := hkp.size
      clear hgt k3 hkp
      go_wp2_with fail
      generalize wr.alloc (.cells #[.int .u8 1, .int .u8 (c.toNat : Int), .string S] 23) = w3 at *
      generalize hgf : wr.heap.size = gf at *
      have fD : FrAt w3.drew gf 1 (c.toNat : Int) S := f3.keep0 (Keep.refl _ w3).drew
      have KD := K3.drew
      obtain ⟨d0, d1, d2, _, _, _⟩ := fD.cells
      clear f3 K3
      refine wp_region_held_drew (S := fun w' => w'.cell? ⟨gf, 0, none⟩ = some (.int .u8 1) ∧ w'.cell? ⟨gf, 1, none⟩ = some (.int .u8 (c.toNat : Int)) ∧ w'.cell? ⟨gf, 2, none⟩ = some (.string S)) (by kernel_rfl) ⟨d0, d1, d2⟩ (fun hHeld => ?_)
      generalize w3.drew = wD at *
      refine wpAnyH_take (i := 1) (v := ?r0v) (by simp only [List.getElem?_toArray, List.getElem?_cons_succ, List.getElem?_cons_zero] <;> rfl) (by kernel_rfl) (by kernel_rfl) (by kernel_rfl) (by exact fun _ _ _ h => h) (Or.inl ⟨by rfl, ?r0y⟩) hHeld ?r0r
      case r0y => intro w hSw; (try dsimp only at hSw); go_simp <;> rfl
      simp only [Act.put, List.setIfInBounds_toArray, List.set_cons_zero, List.set_cons_succ]
      refine wpAnyH_ready (rs := [0]) (by kernel_rfl) (by simp) ?_
      refine AllReadyH.cons (by simp only [List.getElem?_toArray, List.getElem?_cons_zero] <;> rfl) (fun K hK => ?_) AllReadyH.nil
      go_simp
      refine (newcoder_any _).mono ?_
      rintro e w4 ⟨rfl, c4, k4⟩
      have f4 := fD.keep0 k4
      have K4 := KD.step0 k4
      have ye := ye _ _ c4
      have sD := KD.size
      have lf := fD.lt
      generalize wD.heap.size = kb at *
      generalize kptr (some kb) = KV at *
      have q4 := f4.cells
      clear k4 KD d0 d1 d2 fD
      go_wp2_with fail
      refine hK.out _ _ ⟨q4.1, q4.2.1, q4.2.2.1⟩ (fun hHeld => ?_)
      clear hK K
      refine wpAnyH_ready (rs := [2]) (by kernel_rfl) (by simp) ?_
      refine AllReadyH.cons (by simp only [List.getElem?_toArray, List.getElem?_cons_succ, List.getElem?_cons_zero] <;> rfl) (fun K hK => ?_) AllReadyH.nil
      go_simp
      refine ye.mono ?_
      rintro e w5 ⟨rfl, c5, k5⟩
      have f5 := f4.keep k5 (by intro hh; cases hh; omega)
      have K5 := K4.step k5 (fun i hi hh => by cases hh; omega)
      have q5 := f5.cells
      clear k5 K4 f4 ye q4 c4 c5
      go_wp2_with fail
      refine hK.out _ _ ⟨q5.1, q5.2.1, q5.2.2.1⟩ (fun hHeld => ?_)
      clear hK K
      refine wpAnyH_take (i := 3) (v := ?r1v) (by simp only [List.getElem?_toArray, List.getElem?_cons_succ, List.getElem?_cons_zero] <;> rfl) (by kernel_rfl) (by kernel_rfl) (by kernel_rfl) (by exact fun _ _ _ h => h) (Or.inl ⟨by rfl, ?r1y⟩) hHeld ?r1r
      case r1y => intro w hSw; (try dsimp only at hSw); go_simp <;> rfl
      simp only [Act.put, List.setIfInBounds_toArray, List.set_cons_zero, List.set_cons_succ]
      refine wpAnyH_take (i := 4) (v := ?r2v) (by simp only [List.getElem?_toArray, List.getElem?_cons_succ, List.getElem?_cons_zero] <;> rfl) (by kernel_rfl) (by kernel_rfl) (by kernel_rfl) (by exact fun _ _ _ h => h) (Or.inl ⟨by rfl, ?r2y⟩) hHeld ?r2r
      case r2y => intro w hSw; (try dsimp only at hSw); go_simp <;> rfl
      simp only [Act.put, List.setIfInBounds_toArray, List.set_cons_zero, List.set_cons_succ]
      refine wpAnyH_take (i := 5) (v := ?r3v) (by simp only [List.getElem?_toArray, List.getElem?_cons_succ, List.getElem?_cons_zero] <;> rfl) (by kernel_rfl) (by kernel_rfl) (by kernel_rfl) (by exact fun _ _ _ h => h) (Or.inl ⟨by rfl, ?r3y⟩) hHeld ?r3r
      case r3y => intro w hSw; (try dsimp only at hSw); go_simp <;> rfl
      simp only [Act.put, List.setIfInBounds_toArray, List.set_cons_zero, List.set_cons_succ]
      refine wpAnyH_take (i := 6) (v := ?r4v) (by simp only [List.getElem?_toArray, List.getElem?_cons_succ, List.getElem?_cons_zero] <;> rfl) (by kernel_rfl) (by kernel_rfl) (by kernel_rfl) (by exact fun _ _ _ h => h) (Or.inl ⟨by rfl, ?r4y⟩) hHeld ?r4r
      case r4y => intro w hSw; (try dsimp only at hSw); go_simp <;> rfl
      simp only [Act.put, List.setIfInBounds_toArray, List.set_cons_zero, List.set_cons_succ]
      refine wpAnyH_take (i := 7) (v := ?r5v) (by simp only [List.getElem?_toArray, List.getElem?_cons_succ, List.getElem?_cons_zero] <;> rfl) (by kernel_rfl) (by kernel_rfl) (by kernel_rfl) (by exact fun _ _ _ h => h) (Or.inl ⟨by rfl, ?r5y⟩) hHeld ?r5r
      case r5y => intro w hSw; (try dsimp only at hSw); go_simp <;> rfl
      simp only [Act.put, List.setIfInBounds_toArray, List.set_cons_zero, List.set_cons_succ]
      refine wpAnyH_done (by kernel_rfl) ?_ _
      clear hHeld q5
      go_wp2_with fail
      refine (yv _).mono ?_
      rintro e w6 ⟨rfl, k6⟩
      have f6 := f5.keep0 k6
      have K6 := K5.step0 k6
      clear yv k6 K5 f5
      go_wp2_with fail
      refine (ym _).mono ?_
      rintro e w' ⟨rfl, rfl⟩
      go_wp2_with fail
      refine (sends_any _).mono ?_
      rintro e w' ⟨rfl, rfl⟩
      clear ym
      go_wp2
      go_ret
      exact ⟨rfl, K6⟩
set_option maxRecDepth 100000 in
set_option maxHeartbeats 8000000 in
theorem great7_long_over (w : World) (c : UInt8) (less many : Int) (l0 : 0 ≤ less) (l1 : less ≤ 255) (L : Nat) (hL : 65596 - less % 120 = (L : Int)) (hL5 : ¬ L ≤ 65536) (hm0 : 0 ≤ many) (hm1 : ¬ many ≤ 65536) :
    Calls Try.prog 5 #[.int .u8 (c.toNat : Int), .int .u8 less, .int .i64 many] w fun e w' => e = .returned (.bool true) ∧ Keep0 w w' := by
  have hLb : L ≤ 65596 := by omega
  have hLi : (L : Int) ≤ 65596 := by omega
  have hSs := gTxt_size c L
  have hL6 : (65536 : Int) < L := by omega
  have ye := fun W kb (h : CoderAt W kb) => encode7_any h 1 c (gTxt c L) (by rw [hSs]; unfold maxLen; omega)
  rw [(e7_long (v := 1) c rfl (by rw [hSs]; omega)).1, (e7_long (v := 1) c rfl (by rw [hSs]; omega)).2] at ye
  have e1 : ((1 : UInt8).toNat : Int) = 1 := rfl
  rw [e1] at ye
  clear e1
  have ym := fun W => room_any W many
  rw [fRoom_no (by omega)] at ym
  have hgt : ∀ W g, W.rowIs g 5 L (gRow c L) → (convert 48 9 (.slice (some ⟨g, 0, none⟩) L L)).run Try.prog W = .ok (.string (gTxt c L)) W := fun W g h => run_gTxt h
  have hmk := run_make_row' (P := Try.prog) 48 5 (.int .u8 0) 1 Try.underlying48 infoU8 rfl .i64 .i64 L (by omega) (by omega)
  have hmr := fun W => World.rowIs_made W (.int .u8 0) L 5
  have hmK := fun W : World => (Keep.refl (fun _ => False) W).alloc (.cells (madeCells #[.int .u8 0] L) 5)
  generalize madeCells #[.int .u8 0] L = MC at *
  generalize gTxt c L = S at *
  unfold fr at *
  go_enter Try.func5, Try.ntmps5
  go_wp2_with fail
  refine (awake07 _).mono ?_
  rintro e w1 ⟨rfl, K1⟩
  have hmr := hmr w1
  have K2 := K1.trans (hmK w1)
  have s1 := K1.size
  clear hmK K1
  go_wp2_with fail
  generalize w1.alloc (.cells MC 5) = w2 at *
  generalize w1.heap.size = g at *
  have hr2 : w2.rowIs g 5 L (gRow c 0) := hmr.congr (fun i _ => (gRow_zero c i).symm)
  clear hmr
  go_loopw [8] (fun i wr => ∃ k : Nat, k ≤ L ∧ i = .int .i64 k ∧ wr.rowIs g 5 L (gRow c k) ∧ Keep0 w wr) (fun i _ => L - (intOf i).toNat)
  case atStart => exact ⟨0, by omega, rfl, hr2, K2⟩
  case round =>
    obtain ⟨k, hk, rfl, hrow, hkp⟩ := hrel
    clear hr2 K2
    by_cases hlt : k < L
    · have hc0 := hrow.cell hlt
      rw [gRow_at] at hc0
      have hf0 := hrow.frozen k
      have hlt' : (k : Int) < L := by omega
      have hr3 := (hrow.set k (.int .u8 (c.toNat : Int))).congr (g := gRow c (k + 1)) (fun j _ => gRow_set c k j)
      have K3 := hkp.setNew (p := ⟨g, k, none⟩) s1 (.int .u8 (c.toNat : Int))
      clear ye ym hgt
      go_wp2
      go_roundw
      case rel => exact ⟨k + 1, by omega, by go_num, hr3, K3⟩
      case measure => simp [intOf]; omega
    · obtain rfl : k = L := by omega
      have hcv := hgt _ _ hrow
      have f3 := FrAt.new wr 1 (c.toNat : Int) S 23
      have k3 : Keep0 wr (wr.alloc (.cells #[.int .u8 1, .int .u8 (c.toNat : Int), .string S] 23)) := (Keep.refl _ wr).alloc _
      have K3 := hkp.step0 k3
      have s3 := hkp.size
      clear hgt k3 hkp
      go_wp2_with fail
      generalize wr.alloc (.cells #[.int .u8 1, .int .u8 (c.toNat : Int), .string S] 23) = w3 at *
      generalize hgf : wr.heap.size = gf at *
      have fD : FrAt w3.drew gf 1 (c.toNat : Int) S := f3.keep0 (Keep.refl _ w3).drew
      have KD := K3.drew
      obtain ⟨d0, d1, d2, _, _, _⟩ := fD.cells
      clear f3 K3
      refine wp_region_held_drew (S := fun w' => w'.cell? ⟨gf, 0, none⟩ = some (.int .u8 1) ∧ w'.cell? ⟨gf, 1, none⟩ = some (.int .u8 (c.toNat : Int)) ∧ w'.cell? ⟨gf, 2, none⟩ = some (.string S)) (by kernel_rfl) ⟨d0, d1, d2⟩ (fun hHeld => ?_)
      generalize w3.drew = wD at *
      refine wpAnyH_take (i := 1) (v := ?r0v) (by simp only [List.getElem?_toArray, List.getElem?_cons_succ, List.getElem?_cons_zero] <;> rfl) (by kernel_rfl) (by kernel_rfl) (by kernel_rfl) (by exact fun _ _ _ h => h) (Or.inl ⟨by rfl, ?r0y⟩) hHeld ?r0r
      case r0y => intro w hSw; (try dsimp only at hSw); go_simp <;> rfl
      simp only [Act.put, List.setIfInBounds_toArray, List.set_cons_zero, List.set_cons_succ]
      refine wpAnyH_ready (rs := [0]) (by kernel_rfl) (by simp) ?_
      refine AllReadyH.cons (by simp only [List.getElem?_toArray, List.getElem?_cons_zero] <;> rfl) (fun K hK => ?_) AllReadyH.nil
      go_simp
      refine (newcoder_any _).mono ?_
      rintro e w4 ⟨rfl, c4, k4⟩
      have f4 := fD.keep0 k4
      have K4 := KD.step0 k4
      have ye := ye _ _ c4
      have sD := KD.size
      have lf := fD.lt
      generalize wD.heap.size = kb at *
      generalize kptr (some kb) = KV at *
      have q4 := f4.cells
      clear k4 KD d0 d1 d2 fD
      go_wp2_with fail
      refine hK.out _ _ ⟨q4.1, q4.2.1, q4.2.2.1⟩ (fun hHeld => ?_)
      clear hK K
      refine wpAnyH_ready (rs := [2]) (by kernel_rfl) (by simp) ?_
      refine AllReadyH.cons (by simp only [List.getElem?_toArray, List.getElem?_cons_succ, List.getElem?_cons_zero] <;> rfl) (fun K hK => ?_) AllReadyH.nil
      go_simp
      refine ye.mono ?_
      rintro e w5 ⟨rfl, c5, k5⟩
      have f5 := f4.keep k5 (by intro hh; cases hh; omega)
      have K5 := K4.step k5 (fun i hi hh => by cases hh; omega)
      have q5 := f5.cells
      clear k5 K4 f4 ye q4 c4 c5
      go_wp2_with fail
      refine hK.out _ _ ⟨q5.1, q5.2.1, q5.2.2.1⟩ (fun hHeld => ?_)
      clear hK K
      refine wpAnyH_take (i := 3) (v := ?r1v) (by simp only [List.getElem?_toArray, List.getElem?_cons_succ, List.getElem?_cons_zero] <;> rfl) (by kernel_rfl) (by kernel_rfl) (by kernel_rfl) (by exact fun _ _ _ h => h) (Or.inl ⟨by rfl, ?r1y⟩) hHeld ?r1r
      case r1y => intro w hSw; (try dsimp only at hSw); go_simp <;> rfl
      simp only [Act.put, List.setIfInBounds_toArray, List.set_cons_zero, List.set_cons_succ]
      refine wpAnyH_take (i := 4) (v := ?r2v) (by simp only [List.getElem?_toArray, List.getElem?_cons_succ, List.getElem?_cons_zero] <;> rfl) (by kernel_rfl) (by kernel_rfl) (by kernel_rfl) (by exact fun _ _ _ h => h) (Or.inl ⟨by rfl, ?r2y⟩) hHeld ?r2r
      case r2y => intro w hSw; (try dsimp only at hSw); go_simp <;> rfl
      simp only [Act.put, List.setIfInBounds_toArray, List.set_cons_zero, List.set_cons_succ]
      refine wpAnyH_take (i := 5) (v := ?r3v) (by simp only [List.getElem?_toArray, List.getElem?_cons_succ, List.getElem?_cons_zero] <;> rfl) (by kernel_rfl) (by kernel_rfl) (by kernel_rfl) (by exact fun _ _ _ h => h) (Or.inl ⟨by rfl, ?r3y⟩) hHeld ?r3r
      case r3y => intro w hSw; (try dsimp only at hSw); go_simp <;> rfl
      simp only [Act.put, List.setIfInBounds_toArray, List.set_cons_zero, List.set_cons_succ]
      refine wpAnyH_take (i := 6) (v := ?r4v) (by simp only [List.getElem?_toArray, List.getElem?_cons_succ, List.getElem?_cons_zero] <;> rfl) (by kernel_rfl) (by kernel_rfl) (by kernel_rfl) (by exact fun _ _ _ h => h) (Or.inl ⟨by rfl, ?r4y⟩) hHeld ?r4r
      case r4y => intro w hSw; (try dsimp only at hSw); go_simp <;> rfl
      simp only [Act.put, List.setIfInBounds_toArray, List.set_cons_zero, List.set_cons_succ]
      refine wpAnyH_take (i := 7) (v := ?r5v) (by simp only [List.getElem?_toArray, List.getElem?_cons_succ, List.getElem?_cons_zero] <;> rfl) (by kernel_rfl) (by kernel_rfl) (by kernel_rfl) (by exact fun _ _ _ h => h) (Or.inl ⟨by rfl, ?r5y⟩) hHeld ?r5r
      case r5y => intro w hSw; (try dsimp only at hSw); go_simp <;> rfl
      simp only [Act.put, List.setIfInBounds_toArray, List.set_cons_zero, List.set_cons_succ]
      refine wpAnyH_done (by kernel_rfl) ?_ _
      clear hHeld q5
      go_wp2_with fail
      have f6 := f5
      have K6 := K5
      clear K5 f5
      refine (ym _).mono ?_
      rintro e w' ⟨rfl, rfl⟩
      go_wp2_with fail
      refine (sends_any _).mono ?_
      rintro e w' ⟨rfl, rfl⟩
      clear ym
      go_wp2
      go_ret
      exact ⟨rfl, K6⟩
set_option maxRecDepth 100000 in
set_option maxHeartbeats 8000000 in
theorem great7_ok_neg (w : World) (c : UInt8) (less many : Int) (l0 : 0 ≤ less) (l1 : less ≤ 255) (L : Nat) (hL : 65596 - less % 120 = (L : Int)) (hL5 : L ≤ 65536) (hm : many < 0) :
    Calls Try.prog 5 #[.int .u8 (c.toNat : Int), .int .u8 less, .int .i64 many] w fun e w' => e = .returned (.bool true) ∧ Keep0 w w' := by
  have hLb : L ≤ 65596 := by omega
  have hLi : (L : Int) ≤ 65596 := by omega
  have hSs := gTxt_size c L
  have hL6 : ¬ (65536 : Int) < L := by omega
  have ye := fun W kb (h : CoderAt W kb) => encode7_ok h 1 c (gTxt c L) (by rw [hSs]; unfold maxLen; omega) rfl (by rw [hSs]; omega)
  have hsz := fEnc_size 1 c (gTxt c L)
  rw [hSs] at hsz
  have h3 := vText3 (n := L) (by omega)
  have yd := fun W kb (h : CoderAt W kb) => decode7_any h (fEnc 1 c (gTxt c L)) (by unfold maxLen; omega)
  obtain ⟨q1, q2, q3⟩ := frame_back (T := fEnc 1 c (gTxt c L)) (t := ⟨#[]⟩) (p := gTxt c L) (r := ⟨#[]⟩) (v := 1) (k := c) rfl (by rw [hSs]; omega) (by
    show _ = ByteArray.empty ++ (_ ++ ByteArray.empty)
    rw [ByteArray.append_empty, ByteArray.empty_append])
  have q0 : (((⟨#[]⟩ : ByteArray).size : Nat) : Int) = 0 := rfl
  rw [q0] at q1 q2 q3
  have q4 : qLen (fEnc 1 c (gTxt c L)) = (fEnc 1 c (gTxt c L)).size := by
    unfold qLen
    rw [if_pos q1, q3]
    omega
  rw [q1, q2, q4] at yd
  clear q0 q1 q2 q3 q4
  have yo := fun W => room_any W (L : Int)
  rw [fRoom_yes hL5, ← vText_size, show (8 : Int) + ((vText L).size : Int) + (L : Int) = ((fEnc 1 c (gTxt c L)).size : Int) from by rw [hsz]; omega] at yo
  have x2 : ((fEnc 1 c (gTxt c L)).size : Int) ≤ 9223372036854775807 := by omega
  have e1 : ((1 : UInt8).toNat : Int) = 1 := rfl
  rw [e1] at ye yd
  clear hsz h3 e1
  generalize fEnc 1 c (gTxt c L) = F at *
  have ym := fun W => room_any W many
  rw [fRoom_no (by omega)] at ym
  have hgt : ∀ W g, W.rowIs g 5 L (gRow c L) → (convert 48 9 (.slice (some ⟨g, 0, none⟩) L L)).run Try.prog W = .ok (.string (gTxt c L)) W := fun W g h => run_gTxt h
  have hmk := run_make_row' (P := Try.prog) 48 5 (.int .u8 0) 1 Try.underlying48 infoU8 rfl .i64 .i64 L (by omega) (by omega)
  have hmr := fun W => World.rowIs_made W (.int .u8 0) L 5
  have hmK := fun W : World => (Keep.refl (fun _ => False) W).alloc (.cells (madeCells #[.int .u8 0] L) 5)
  generalize madeCells #[.int .u8 0] L = MC at *
  generalize gTxt c L = S at *
  unfold fr at *
  go_enter Try.func5, Try.ntmps5
  go_wp2_with fail
  refine (awake07 _).mono ?_
  rintro e w1 ⟨rfl, K1⟩
  have hmr := hmr w1
  have K2 := K1.trans (hmK w1)
  have s1 := K1.size
  clear hmK K1
  go_wp2_with fail
  generalize w1.alloc (.cells MC 5) = w2 at *
  generalize w1.heap.size = g at *
  have hr2 : w2.rowIs g 5 L (gRow c 0) := hmr.congr (fun i _ => (gRow_zero c i).symm)
  clear hmr
  go_loopw [8] (fun i wr => ∃ k : Nat, k ≤ L ∧ i = .int .i64 k ∧ wr.rowIs g 5 L (gRow c k) ∧ Keep0 w wr) (fun i _ => L - (intOf i).toNat)
  case atStart => exact ⟨0, by omega, rfl, hr2, K2⟩
  case round =>
    obtain ⟨k, hk, rfl, hrow, hkp⟩ := hrel
    clear hr2 K2
    by_cases hlt : k < L
    · have hc0 := hrow.cell hlt
      rw [gRow_at] at hc0
      have hf0 := hrow.frozen k
      have hlt' : (k : Int) < L := by omega
      have hr3 := (hrow.set k (.int .u8 (c.toNat : Int))).congr (g := gRow c (k + 1)) (fun j _ => gRow_set c k j)
      have K3 := hkp.setNew (p := ⟨g, k, none⟩) s1 (.int .u8 (c.toNat : Int))
      clear ye ym hgt yd yo
      go_wp2
      go_roundw
      case rel => exact ⟨k + 1, by omega, by go_num, hr3, K3⟩
      case measure => simp [intOf]; omega
    · obtain rfl : k = L := by omega
      have hcv := hgt _ _ hrow
      have f3 := FrAt.new wr 1 (c.toNat : Int) S 23
      have k3 : Keep0 wr (wr.alloc (.cells #[.int .u8 1, .int .u8 (c.toNat : Int), .string S] 23)) := (Keep.refl _ wr).alloc _
      have K3 := hkp.step0 k3
      have s3 := hkp.size
      clear hgt k3 hkp
      go_wp2_with fail
      generalize wr.alloc (.cells #[.int .u8 1, .int .u8 (c.toNat : Int), .string S] 23) = w3 at *
      generalize hgf : wr.heap.size = gf at *
      have fD : FrAt w3.drew gf 1 (c.toNat : Int) S := f3.keep0 (Keep.refl _ w3).drew
      have KD := K3.drew
      obtain ⟨d0, d1, d2, _, _, _⟩ := fD.cells
      clear f3 K3
      refine wp_region_held_drew (S := fun w' => w'.cell? ⟨gf, 0, none⟩ = some (.int .u8 1) ∧ w'.cell? ⟨gf, 1, none⟩ = some (.int .u8 (c.toNat : Int)) ∧ w'.cell? ⟨gf, 2, none⟩ = some (.string S)) (by kernel_rfl) ⟨d0, d1, d2⟩ (fun hHeld => ?_)
      generalize w3.drew = wD at *
      refine wpAnyH_take (i := 1) (v := ?r0v) (by simp only [List.getElem?_toArray, List.getElem?_cons_succ, List.getElem?_cons_zero] <;> rfl) (by kernel_rfl) (by kernel_rfl) (by kernel_rfl) (by exact fun _ _ _ h => h) (Or.inl ⟨by rfl, ?r0y⟩) hHeld ?r0r
      case r0y => intro w hSw; (try dsimp only at hSw); go_simp <;> rfl
      simp only [Act.put, List.setIfInBounds_toArray, List.set_cons_zero, List.set_cons_succ]
      refine wpAnyH_ready (rs := [0]) (by kernel_rfl) (by simp) ?_
      refine AllReadyH.cons (by simp only [List.getElem?_toArray, List.getElem?_cons_zero] <;> rfl) (fun K hK => ?_) AllReadyH.nil
      go_simp
      refine (newcoder_any _).mono ?_
      rintro e w4 ⟨rfl, c4, k4⟩
      have f4 := fD.keep0 k4
      have K4 := KD.step0 k4
      have ye := ye _ _ c4
      have sD := KD.size
      have lf := fD.lt
      generalize wD.heap.size = kb at *
      generalize kptr (some kb) = KV at *
      have q4 := f4.cells
      clear k4 KD d0 d1 d2 fD
      go_wp2_with fail
      refine hK.out _ _ ⟨q4.1, q4.2.1, q4.2.2.1⟩ (fun hHeld => ?_)
      clear hK K
      refine wpAnyH_ready (rs := [2]) (by kernel_rfl) (by simp) ?_
      refine AllReadyH.cons (by simp only [List.getElem?_toArray, List.getElem?_cons_succ, List.getElem?_cons_zero] <;> rfl) (fun K hK => ?_) AllReadyH.nil
      go_simp
      refine ye.mono ?_
      rintro e w5 ⟨rfl, c5, k5⟩
      have f5 := f4.keep k5 (by intro hh; cases hh; omega)
      have K5 := K4.step k5 (fun i hi hh => by cases hh; omega)
      have q5 := f5.cells
      clear k5 K4 f4 ye q4 c4 c5
      go_wp2_with fail
      refine hK.out _ _ ⟨q5.1, q5.2.1, q5.2.2.1⟩ (fun hHeld => ?_)
      clear hK K
      refine wpAnyH_take (i := 3) (v := ?r1v) (by simp only [List.getElem?_toArray, List.getElem?_cons_succ, List.getElem?_cons_zero] <;> rfl) (by kernel_rfl) (by kernel_rfl) (by kernel_rfl) (by exact fun _ _ _ h => h) (Or.inl ⟨by rfl, ?r1y⟩) hHeld ?r1r
      case r1y => intro w hSw; (try dsimp only at hSw); go_simp <;> rfl
      simp only [Act.put, List.setIfInBounds_toArray, List.set_cons_zero, List.set_cons_succ]
      refine wpAnyH_take (i := 4) (v := ?r2v) (by simp only [List.getElem?_toArray, List.getElem?_cons_succ, List.getElem?_cons_zero] <;> rfl) (by kernel_rfl) (by kernel_rfl) (by kernel_rfl) (by exact fun _ _ _ h => h) (Or.inl ⟨by rfl, ?r2y⟩) hHeld ?r2r
      case r2y => intro w hSw; (try dsimp only at hSw); go_simp <;> rfl
      simp only [Act.put, List.setIfInBounds_toArray, List.set_cons_zero, List.set_cons_succ]
      refine wpAnyH_take (i := 5) (v := ?r3v) (by simp only [List.getElem?_toArray, List.getElem?_cons_succ, List.getElem?_cons_zero] <;> rfl) (by kernel_rfl) (by kernel_rfl) (by kernel_rfl) (by exact fun _ _ _ h => h) (Or.inl ⟨by rfl, ?r3y⟩) hHeld ?r3r
      case r3y => intro w hSw; (try dsimp only at hSw); go_simp <;> rfl
      simp only [Act.put, List.setIfInBounds_toArray, List.set_cons_zero, List.set_cons_succ]
      refine wpAnyH_take (i := 6) (v := ?r4v) (by simp only [List.getElem?_toArray, List.getElem?_cons_succ, List.getElem?_cons_zero] <;> rfl) (by kernel_rfl) (by kernel_rfl) (by kernel_rfl) (by exact fun _ _ _ h => h) (Or.inl ⟨by rfl, ?r4y⟩) hHeld ?r4r
      case r4y => intro w hSw; (try dsimp only at hSw); go_simp <;> rfl
      simp only [Act.put, List.setIfInBounds_toArray, List.set_cons_zero, List.set_cons_succ]
      refine wpAnyH_take (i := 7) (v := ?r5v) (by simp only [List.getElem?_toArray, List.getElem?_cons_succ, List.getElem?_cons_zero] <;> rfl) (by kernel_rfl) (by kernel_rfl) (by kernel_rfl) (by exact fun _ _ _ h => h) (Or.inl ⟨by rfl, ?r5y⟩) hHeld ?r5r
      case r5y => intro w hSw; (try dsimp only at hSw); go_simp <;> rfl
      simp only [Act.put, List.setIfInBounds_toArray, List.set_cons_zero, List.set_cons_succ]
      refine wpAnyH_done (by kernel_rfl) ?_ _
      clear hHeld q5
      go_wp2_with fail
      have f6 := f5
      have K6 := K5
      clear K5 f5
      refine (ym _).mono ?_
      rintro e w' ⟨rfl, rfl⟩
      go_wp2_with fail
      refine (sends_any _).mono ?_
      rintro e w' ⟨rfl, rfl⟩
      clear ym
      go_wp2_with fail
      refine (newcoder_any _).mono ?_
      rintro e w7 ⟨rfl, c7, k7⟩
      have f7 := f6.keep0 k7
      have K7 := K6.step0 k7
      have yd := yd _ _ c7
      have s6 := K6.size
      have lf := f6.lt
      generalize w5.heap.size = kd at *
      generalize kptr (some kd) = KD2 at *
      clear k7 K6 f6
      go_wp2_with fail
      refine yd.mono ?_
      rintro e w8 ⟨rfl, c8, k8⟩
      have f8 := f7.keep k8 (by intro hh; cases hh; omega)
      have K8 := K7.step k8 (fun i hi hh => by cases hh; omega)
      clear yd k8 K7 f7 c7 c8
      have g9 := FrAt.new w8 1 (c.toNat : Int) S 23
      have k9 : Keep0 w8 (w8.alloc (.cells #[.int .u8 1, .int .u8 (c.toNat : Int), .string S] 23)) := (Keep.refl _ w8).alloc _
      have f9 := f8.keep0 k9
      have K9 := K8.step0 k9
      clear k9 K8 f8
      obtain ⟨d0, d1, d2, d3, d4, d5⟩ := f9.cells
      obtain ⟨i0, i1, i2, i3, i4, i5⟩ := g9.cells
      clear d3 d4 d5 i3 i4 i5
      go_wp2_with fail
      refine (yo _).mono ?_
      rintro e w' ⟨rfl, rfl⟩
      clear yo
      go_wp2
      go_ret
      exact ⟨rfl, K9⟩
set_option maxRecDepth 100000 in
set_option maxHeartbeats 8000000 in
theorem great7_ok_in (w : World) (c : UInt8) (less many : Int) (l0 : 0 ≤ less) (l1 : less ≤ 255) (L : Nat) (hL : 65596 - less % 120 = (L : Int)) (hL5 : L ≤ 65536) (hm0 : 0 ≤ many) (hm1 : many ≤ 65536) :
    Calls Try.prog 5 #[.int .u8 (c.toNat : Int), .int .u8 less, .int .i64 many] w fun e w' => e = .returned (.bool true) ∧ Keep0 w w' := by
  have hLb : L ≤ 65596 := by omega
  have hLi : (L : Int) ≤ 65596 := by omega
  have hSs := gTxt_size c L
  have hL6 : ¬ (65536 : Int) < L := by omega
  have ye := fun W kb (h : CoderAt W kb) => encode7_ok h 1 c (gTxt c L) (by rw [hSs]; unfold maxLen; omega) rfl (by rw [hSs]; omega)
  have hsz := fEnc_size 1 c (gTxt c L)
  rw [hSs] at hsz
  have h3 := vText3 (n := L) (by omega)
  have yd := fun W kb (h : CoderAt W kb) => decode7_any h (fEnc 1 c (gTxt c L)) (by unfold maxLen; omega)
  obtain ⟨q1, q2, q3⟩ := frame_back (T := fEnc 1 c (gTxt c L)) (t := ⟨#[]⟩) (p := gTxt c L) (r := ⟨#[]⟩) (v := 1) (k := c) rfl (by rw [hSs]; omega) (by
    show _ = ByteArray.empty ++ (_ ++ ByteArray.empty)
    rw [ByteArray.append_empty, ByteArray.empty_append])
  have q0 : (((⟨#[]⟩ : ByteArray).size : Nat) : Int) = 0 := rfl
  rw [q0] at q1 q2 q3
  have q4 : qLen (fEnc 1 c (gTxt c L)) = (fEnc 1 c (gTxt c L)).size := by
    unfold qLen
    rw [if_pos q1, q3]
    omega
  rw [q1, q2, q4] at yd
  clear q0 q1 q2 q3 q4
  have yo := fun W => room_any W (L : Int)
  rw [fRoom_yes hL5, ← vText_size, show (8 : Int) + ((vText L).size : Int) + (L : Int) = ((fEnc 1 c (gTxt c L)).size : Int) from by rw [hsz]; omega] at yo
  have x2 : ((fEnc 1 c (gTxt c L)).size : Int) ≤ 9223372036854775807 := by omega
  have e1 : ((1 : UInt8).toNat : Int) = 1 := rfl
  rw [e1] at ye yd
  clear hsz h3 e1
  generalize fEnc 1 c (gTxt c L) = F at *
  obtain ⟨n, rfl⟩ : ∃ n : Nat, many = n := ⟨many.toNat, by omega⟩
  have yv := fun W => rencode_any n W (by omega)
  have ym := fun W => room_any W (n : Int)
  rw [fRoom_yes (by omega), ← vText_size] at ym
  have hvt := vText_le (n := n) (by omega)
  have hwr : IntKind.u64.wrap (n : Int) = n := by rw [IntKind.wrap_u64]; omega
  generalize vText n = VT at *
  have hgt : ∀ W g, W.rowIs g 5 L (gRow c L) → (convert 48 9 (.slice (some ⟨g, 0, none⟩) L L)).run Try.prog W = .ok (.string (gTxt c L)) W := fun W g h => run_gTxt h
  have hmk := run_make_row' (P := Try.prog) 48 5 (.int .u8 0) 1 Try.underlying48 infoU8 rfl .i64 .i64 L (by omega) (by omega)
  have hmr := fun W => World.rowIs_made W (.int .u8 0) L 5
  have hmK := fun W : World => (Keep.refl (fun _ => False) W).alloc (.cells (madeCells #[.int .u8 0] L) 5)
  generalize madeCells #[.int .u8 0] L = MC at *
  generalize gTxt c L = S at *
  unfold fr at *
  go_enter Try.func5, Try.ntmps5
  go_wp2_with fail
  refine (awake07 _).mono ?_
  rintro e w1 ⟨rfl, K1⟩
  have hmr := hmr w1
  have K2 := K1.trans (hmK w1)
  have s1 := K1.size
  clear hmK K1
  go_wp2_with fail
  generalize w1.alloc (.cells MC 5) = w2 at *
  generalize w1.heap.size = g at *
  have hr2 : w2.rowIs g 5 L (gRow c 0) := hmr.congr (fun i _ => (gRow_zero c i).symm)
  clear hmr
  go_loopw [8] (fun i wr => ∃ k : Nat, k ≤ L ∧ i = .int .i64 k ∧ wr.rowIs g 5 L (gRow c k) ∧ Keep0 w wr) (fun i _ => L - (intOf i).toNat)
  case atStart => exact ⟨0, by omega, rfl, hr2, K2⟩
  case round =>
    obtain ⟨k, hk, rfl, hrow, hkp⟩ := hrel
    clear hr2 K2
    by_cases hlt : k < L
    · have hc0 := hrow.cell hlt
      rw [gRow_at] at hc0
      have hf0 := hrow.frozen k
      have hlt' : (k : Int) < L := by omega
      have hr3 := (hrow.set k (.int .u8 (c.toNat : Int))).congr (g := gRow c (k + 1)) (fun j _ => gRow_set c k j)
      have K3 := hkp.setNew (p := ⟨g, k, none⟩) s1 (.int .u8 (c.toNat : Int))
      clear ye ym hgt yd yo yv
      go_wp2
      go_roundw
      case rel => exact ⟨k + 1, by omega, by go_num, hr3, K3⟩
      case measure => simp [intOf]; omega
    · obtain rfl : k = L := by omega
      have hcv := hgt _ _ hrow
      have f3 := FrAt.new wr 1 (c.toNat : Int) S 23
      have k3 : Keep0 wr (wr.alloc (.cells #[.int .u8 1, .int .u8 (c.toNat : Int), .string S] 23)) := (Keep.refl _ wr).alloc _
      have K3 := hkp.step0 k3
      have s3 := hkp.size
      clear hgt k3 hkp
      go_wp2_with fail
      generalize wr.alloc (.cells #[.int .u8 1, .int .u8 (c.toNat : Int), .string S] 23) = w3 at *
      generalize hgf : wr.heap.size = gf at *
      have fD : FrAt w3.drew gf 1 (c.toNat : Int) S := f3.keep0 (Keep.refl _ w3).drew
      have KD := K3.drew
      obtain ⟨d0, d1, d2, _, _, _⟩ := fD.cells
      clear f3 K3
      refine wp_region_held_drew (S := fun w' => w'.cell? ⟨gf, 0, none⟩ = some (.int .u8 1) ∧ w'.cell? ⟨gf, 1, none⟩ = some (.int .u8 (c.toNat : Int)) ∧ w'.cell? ⟨gf, 2, none⟩ = some (.string S)) (by kernel_rfl) ⟨d0, d1, d2⟩ (fun hHeld => ?_)
      generalize w3.drew = wD at *
      refine wpAnyH_take (i := 1) (v := ?r0v) (by simp only [List.getElem?_toArray, List.getElem?_cons_succ, List.getElem?_cons_zero] <;> rfl) (by kernel_rfl) (by kernel_rfl) (by kernel_rfl) (by exact fun _ _ _ h => h) (Or.inl ⟨by rfl, ?r0y⟩) hHeld ?r0r
      case r0y => intro w hSw; (try dsimp only at hSw); go_simp <;> rfl
      simp only [Act.put, List.setIfInBounds_toArray, List.set_cons_zero, List.set_cons_succ]
      refine wpAnyH_ready (rs := [0]) (by kernel_rfl) (by simp) ?_
      refine AllReadyH.cons (by simp only [List.getElem?_toArray, List.getElem?_cons_zero] <;> rfl) (fun K hK => ?_) AllReadyH.nil
      go_simp
      refine (newcoder_any _).mono ?_
      rintro e w4 ⟨rfl, c4, k4⟩
      have f4 := fD.keep0 k4
      have K4 := KD.step0 k4
      have ye := ye _ _ c4
      have sD := KD.size
      have lf := fD.lt
      generalize wD.heap.size = kb at *
      generalize kptr (some kb) = KV at *
      have q4 := f4.cells
      clear k4 KD d0 d1 d2 fD
      go_wp2_with fail
      refine hK.out _ _ ⟨q4.1, q4.2.1, q4.2.2.1⟩ (fun hHeld => ?_)
      clear hK K
      refine wpAnyH_ready (rs := [2]) (by kernel_rfl) (by simp) ?_
      refine AllReadyH.cons (by simp only [List.getElem?_toArray, List.getElem?_cons_succ, List.getElem?_cons_zero] <;> rfl) (fun K hK => ?_) AllReadyH.nil
      go_simp
      refine ye.mono ?_
      rintro e w5 ⟨rfl, c5, k5⟩
      have f5 := f4.keep k5 (by intro hh; cases hh; omega)
      have K5 := K4.step k5 (fun i hi hh => by cases hh; omega)
      have q5 := f5.cells
      clear k5 K4 f4 ye q4 c4 c5
      go_wp2_with fail
      refine hK.out _ _ ⟨q5.1, q5.2.1, q5.2.2.1⟩ (fun hHeld => ?_)
      clear hK K
      refine wpAnyH_take (i := 3) (v := ?r1v) (by simp only [List.getElem?_toArray, List.getElem?_cons_succ, List.getElem?_cons_zero] <;> rfl) (by kernel_rfl) (by kernel_rfl) (by kernel_rfl) (by exact fun _ _ _ h => h) (Or.inl ⟨by rfl, ?r1y⟩) hHeld ?r1r
      case r1y => intro w hSw; (try dsimp only at hSw); go_simp <;> rfl
      simp only [Act.put, List.setIfInBounds_toArray, List.set_cons_zero, List.set_cons_succ]
      refine wpAnyH_take (i := 4) (v := ?r2v) (by simp only [List.getElem?_toArray, List.getElem?_cons_succ, List.getElem?_cons_zero] <;> rfl) (by kernel_rfl) (by kernel_rfl) (by kernel_rfl) (by exact fun _ _ _ h => h) (Or.inl ⟨by rfl, ?r2y⟩) hHeld ?r2r
      case r2y => intro w hSw; (try dsimp only at hSw); go_simp <;> rfl
      simp only [Act.put, List.setIfInBounds_toArray, List.set_cons_zero, List.set_cons_succ]
      refine wpAnyH_take (i := 5) (v := ?r3v) (by simp only [List.getElem?_toArray, List.getElem?_cons_succ, List.getElem?_cons_zero] <;> rfl) (by kernel_rfl) (by kernel_rfl) (by kernel_rfl) (by exact fun _ _ _ h => h) (Or.inl ⟨by rfl, ?r3y⟩) hHeld ?r3r
      case r3y => intro w hSw; (try dsimp only at hSw); go_simp <;> rfl
      simp only [Act.put, List.setIfInBounds_toArray, List.set_cons_zero, List.set_cons_succ]
      refine wpAnyH_take (i := 6) (v := ?r4v) (by simp only [List.getElem?_toArray, List.getElem?_cons_succ, List.getElem?_cons_zero] <;> rfl) (by kernel_rfl) (by kernel_rfl) (by kernel_rfl) (by exact fun _ _ _ h => h) (Or.inl ⟨by rfl, ?r4y⟩) hHeld ?r4r
      case r4y => intro w hSw; (try dsimp only at hSw); go_simp <;> rfl
      simp only [Act.put, List.setIfInBounds_toArray, List.set_cons_zero, List.set_cons_succ]
      refine wpAnyH_take (i := 7) (v := ?r5v) (by simp only [List.getElem?_toArray, List.getElem?_cons_succ, List.getElem?_cons_zero] <;> rfl) (by kernel_rfl) (by kernel_rfl) (by kernel_rfl) (by exact fun _ _ _ h => h) (Or.inl ⟨by rfl, ?r5y⟩) hHeld ?r5r
      case r5y => intro w hSw; (try dsimp only at hSw); go_simp <;> rfl
      simp only [Act.put, List.setIfInBounds_toArray, List.set_cons_zero, List.set_cons_succ]
      refine wpAnyH_done (by kernel_rfl) ?_ _
      clear hHeld q5
      go_wp2_with fail
      refine (yv _).mono ?_
      rintro e w6 ⟨rfl, k6⟩
      have f6 := f5.keep0 k6
      have K6 := K5.step0 k6
      clear yv k6 K5 f5
      go_wp2_with fail
      refine (ym _).mono ?_
      rintro e w' ⟨rfl, rfl⟩
      go_wp2_with fail
      refine (sends_any _).mono ?_
      rintro e w' ⟨rfl, rfl⟩
      clear ym
      go_wp2_with fail
      refine (newcoder_any _).mono ?_
      rintro e w7 ⟨rfl, c7, k7⟩
      have f7 := f6.keep0 k7
      have K7 := K6.step0 k7
      have yd := yd _ _ c7
      have s6 := K6.size
      have lf := f6.lt
      generalize w6.heap.size = kd at *
      generalize kptr (some kd) = KD2 at *
      clear k7 K6 f6
      go_wp2_with fail
      refine yd.mono ?_
      rintro e w8 ⟨rfl, c8, k8⟩
      have f8 := f7.keep k8 (by intro hh; cases hh; omega)
      have K8 := K7.step k8 (fun i hi hh => by cases hh; omega)
      clear yd k8 K7 f7 c7 c8
      have g9 := FrAt.new w8 1 (c.toNat : Int) S 23
      have k9 : Keep0 w8 (w8.alloc (.cells #[.int .u8 1, .int .u8 (c.toNat : Int), .string S] 23)) := (Keep.refl _ w8).alloc _
      have f9 := f8.keep0 k9
      have K9 := K8.step0 k9
      clear k9 K8 f8
      obtain ⟨d0, d1, d2, d3, d4, d5⟩ := f9.cells
      obtain ⟨i0, i1, i2, i3, i4, i5⟩ := g9.cells
      clear d3 d4 d5 i3 i4 i5
      go_wp2_with fail
      refine (yo _).mono ?_
      rintro e w' ⟨rfl, rfl⟩
      clear yo
      go_wp2
      go_ret
      exact ⟨rfl, K9⟩
set_option maxRecDepth 100000 in
set_option maxHeartbeats 8000000 in
theorem great7_ok_over (w : World) (c : UInt8) (less many : Int) (l0 : 0 ≤ less) (l1 : less ≤ 255) (L : Nat) (hL : 65596 - less % 120 = (L : Int)) (hL5 : L ≤ 65536) (hm0 : 0 ≤ many) (hm1 : ¬ many ≤ 65536) :
    Calls Try.prog 5 #[.int .u8 (c.toNat : Int), .int .u8 less, .int .i64 many] w fun e w' => e = .returned (.bool true) ∧ Keep0 w w' := by
  have hLb : L ≤ 65596 := by omega
  have hLi : (L : Int) ≤ 65596 := by omega
  have hSs := gTxt_size c L
  have hL6 : ¬ (65536 : Int) < L := by omega
  have ye := fun W kb (h : CoderAt W kb) => encode7_ok h 1 c (gTxt c L) (by rw [hSs]; unfold maxLen; omega) rfl (by rw [hSs]; omega)
  have hsz := fEnc_size 1 c (gTxt c L)
  rw [hSs] at hsz
  have h3 := vText3 (n := L) (by omega)
  have yd := fun W kb (h : CoderAt W kb) => decode7_any h (fEnc 1 c (gTxt c L)) (by unfold maxLen; omega)
  obtain ⟨q1, q2, q3⟩ := frame_back (T := fEnc 1 c (gTxt c L)) (t := ⟨#[]⟩) (p := gTxt c L) (r := ⟨#[]⟩) (v := 1) (k := c) rfl (by rw [hSs]; omega) (by
    show _ = ByteArray.empty ++ (_ ++ ByteArray.empty)
    rw [ByteArray.append_empty, ByteArray.empty_append])
  have q0 : (((⟨#[]⟩ : ByteArray).size : Nat) : Int) = 0 := rfl
  rw [q0] at q1 q2 q3
  have q4 : qLen (fEnc 1 c (gTxt c L)) = (fEnc 1 c (gTxt c L)).size := by
    unfold qLen
    rw [if_pos q1, q3]
    omega
  rw [q1, q2, q4] at yd
  clear q0 q1 q2 q3 q4
  have yo := fun W => room_any W (L : Int)
  rw [fRoom_yes hL5, ← vText_size, show (8 : Int) + ((vText L).size : Int) + (L : Int) = ((fEnc 1 c (gTxt c L)).size : Int) from by rw [hsz]; omega] at yo
  have x2 : ((fEnc 1 c (gTxt c L)).size : Int) ≤ 9223372036854775807 := by omega
  have e1 : ((1 : UInt8).toNat : Int) = 1 := rfl
  rw [e1] at ye yd
  clear hsz h3 e1
  generalize fEnc 1 c (gTxt c L) = F at *
  have ym := fun W => room_any W many
  rw [fRoom_no (by omega)] at ym
  have hgt : ∀ W g, W.rowIs g 5 L (gRow c L) → (convert 48 9 (.slice (some ⟨g, 0, none⟩) L L)).run Try.prog W = .ok (.string (gTxt c L)) W := fun W g h => run_gTxt h
  have hmk := run_make_row' (P := Try.prog) 48 5 (.int .u8 0) 1 Try.underlying48 infoU8 rfl .i64 .i64 L (by omega) (by omega)
  have hmr := fun W => World.rowIs_made W (.int .u8 0) L 5
  have hmK := fun W : World => (Keep.refl (fun _ => False) W).alloc (.cells (madeCells #[.int .u8 0] L) 5)
  generalize madeCells #[.int .u8 0] L = MC at *
  generalize gTxt c L = S at *
  unfold fr at *
  go_enter Try.func5, Try.ntmps5
  go_wp2_with fail
  refine (awake07 _).mono ?_
  rintro e w1 ⟨rfl, K1⟩
  have hmr := hmr w1
  have K2 := K1.trans (hmK w1)
  have s1 := K1.size
  clear hmK K1
  go_wp2_with fail
  generalize w1.alloc (.cells MC 5) = w2 at *
  generalize w1.heap.size = g at *
  have hr2 : w2.rowIs g 5 L (gRow c 0) := hmr.congr (fun i _ => (gRow_zero c i).symm)
  clear hmr
  go_loopw [8] (fun i wr => ∃ k : Nat, k ≤ L ∧ i = .int .i64 k ∧ wr.rowIs g 5 L (gRow c k) ∧ Keep0 w wr) (fun i _ => L - (intOf i).toNat)
  case atStart => exact ⟨0, by omega, rfl, hr2, K2⟩
  case round =>
    obtain ⟨k, hk, rfl, hrow, hkp⟩ := hrel
    clear hr2 K2
    by_cases hlt : k < L
    · have hc0 := hrow.cell hlt
      rw [gRow_at] at hc0
      have hf0 := hrow.frozen k
      have hlt' : (k : Int) < L := by omega
      have hr3 := (hrow.set k (.int .u8 (c.toNat : Int))).congr (g := gRow c (k + 1)) (fun j _ => gRow_set c k j)
      have K3 := hkp.setNew (p := ⟨g, k, none⟩) s1 (.int .u8 (c.toNat : Int))
      clear ye ym hgt yd yo
      go_wp2
      go_roundw
      case rel => exact ⟨k + 1, by omega, by go_num, hr3, K3⟩
      case measure => simp [intOf]; omega
    · obtain rfl : k = L := by omega
      have hcv := hgt _ _ hrow
      have f3 := FrAt.new wr 1 (c.toNat : Int) S 23
      have k3 : Keep0 wr (wr.alloc (.cells #[.int .u8 1, .int .u8 (c.toNat : Int), .string S] 23)) := (Keep.refl _ wr).alloc _
      have K3 := hkp.step0 k3
      have s3 := hkp.size
      clear hgt k3 hkp
      go_wp2_with fail
      generalize wr.alloc (.cells #[.int .u8 1, .int .u8 (c.toNat : Int), .string S] 23) = w3 at *
      generalize hgf : wr.heap.size = gf at *
      have fD : FrAt w3.drew gf 1 (c.toNat : Int) S := f3.keep0 (Keep.refl _ w3).drew
      have KD := K3.drew
      obtain ⟨d0, d1, d2, _, _, _⟩ := fD.cells
      clear f3 K3
      refine wp_region_held_drew (S := fun w' => w'.cell? ⟨gf, 0, none⟩ = some (.int .u8 1) ∧ w'.cell? ⟨gf, 1, none⟩ = some (.int .u8 (c.toNat : Int)) ∧ w'.cell? ⟨gf, 2, none⟩ = some (.string S)) (by kernel_rfl) ⟨d0, d1, d2⟩ (fun hHeld => ?_)
      generalize w3.drew = wD at *
      refine wpAnyH_take (i := 1) (v := ?r0v) (by simp only [List.getElem?_toArray, List.getElem?_cons_succ, List.getElem?_cons_zero] <;> rfl) (by kernel_rfl) (by kernel_rfl) (by kernel_rfl) (by exact fun _ _ _ h => h) (Or.inl ⟨by rfl, ?r0y⟩) hHeld ?r0r
      case r0y => intro w hSw; (try dsimp only at hSw); go_simp <;> rfl
      simp only [Act.put, List.setIfInBounds_toArray, List.set_cons_zero, List.set_cons_succ]
      refine wpAnyH_ready (rs := [0]) (by kernel_rfl) (by simp) ?_
      refine AllReadyH.cons (by simp only [List.getElem?_toArray, List.getElem?_cons_zero] <;> rfl) (fun K hK => ?_) AllReadyH.nil
      go_simp
      refine (newcoder_any _).mono ?_
      rintro e w4 ⟨rfl, c4, k4⟩
      have f4 := fD.keep0 k4
      have K4 := KD.step0 k4
      have ye := ye _ _ c4
      have sD := KD.size
      have lf := fD.lt
      generalize wD.heap.size = kb at *
      generalize kptr (some kb) = KV at *
      have q4 := f4.cells
      clear k4 KD d0 d1 d2 fD
      go_wp2_with fail
      refine hK.out _ _ ⟨q4.1, q4.2.1, q4.2.2.1⟩ (fun hHeld => ?_)
      clear hK K
      refine wpAnyH_ready (rs := [2]) (by kernel_rfl) (by simp) ?_
      refine AllReadyH.cons (by simp only [List.getElem?_toArray, List.getElem?_cons_succ, List.getElem?_cons_zero] <;> rfl) (fun K hK => ?_) AllReadyH.nil
      go_simp
      refine ye.mono ?_
      rintro e w5 ⟨rfl, c5, k5⟩
      have f5 := f4.keep k5 (by intro hh; cases hh; omega)
      have K5 := K4.step k5 (fun i hi hh => by cases hh; omega)
      have q5 := f5.cells
      clear k5 K4 f4 ye q4 c4 c5
      go_wp2_with fail
      refine hK.out _ _ ⟨q5.1, q5.2.1, q5.2.2.1⟩ (fun hHeld => ?_)
      clear hK K
      refine wpAnyH_take (i := 3) (v := ?r1v) (by simp only [List.getElem?_toArray, List.getElem?_cons_succ, List.getElem?_cons_zero] <;> rfl) (by kernel_rfl) (by kernel_rfl) (by kernel_rfl) (by exact fun _ _ _ h => h) (Or.inl ⟨by rfl, ?r1y⟩) hHeld ?r1r
      case r1y => intro w hSw; (try dsimp only at hSw); go_simp <;> rfl
      simp only [Act.put, List.setIfInBounds_toArray, List.set_cons_zero, List.set_cons_succ]
      refine wpAnyH_take (i := 4) (v := ?r2v) (by simp only [List.getElem?_toArray, List.getElem?_cons_succ, List.getElem?_cons_zero] <;> rfl) (by kernel_rfl) (by kernel_rfl) (by kernel_rfl) (by exact fun _ _ _ h => h) (Or.inl ⟨by rfl, ?r2y⟩) hHeld ?r2r
      case r2y => intro w hSw; (try dsimp only at hSw); go_simp <;> rfl
      simp only [Act.put, List.setIfInBounds_toArray, List.set_cons_zero, List.set_cons_succ]
      refine wpAnyH_take (i := 5) (v := ?r3v) (by simp only [List.getElem?_toArray, List.getElem?_cons_succ, List.getElem?_cons_zero] <;> rfl) (by kernel_rfl) (by kernel_rfl) (by kernel_rfl) (by exact fun _ _ _ h => h) (Or.inl ⟨by rfl, ?r3y⟩) hHeld ?r3r
      case r3y => intro w hSw; (try dsimp only at hSw); go_simp <;> rfl
      simp only [Act.put, List.setIfInBounds_toArray, List.set_cons_zero, List.set_cons_succ]
      refine wpAnyH_take (i := 6) (v := ?r4v) (by simp only [List.getElem?_toArray, List.getElem?_cons_succ, List.getElem?_cons_zero] <;> rfl) (by kernel_rfl) (by kernel_rfl) (by kernel_rfl) (by exact fun _ _ _ h => h) (Or.inl ⟨by rfl, ?r4y⟩) hHeld ?r4r
      case r4y => intro w hSw; (try dsimp only at hSw); go_simp <;> rfl
      simp only [Act.put, List.setIfInBounds_toArray, List.set_cons_zero, List.set_cons_succ]
      refine wpAnyH_take (i := 7) (v := ?r5v) (by simp only [List.getElem?_toArray, List.getElem?_cons_succ, List.getElem?_cons_zero] <;> rfl) (by kernel_rfl) (by kernel_rfl) (by kernel_rfl) (by exact fun _ _ _ h => h) (Or.inl ⟨by rfl, ?r5y⟩) hHeld ?r5r
      case r5y => intro w hSw; (try dsimp only at hSw); go_simp <;> rfl
      simp only [Act.put, List.setIfInBounds_toArray, List.set_cons_zero, List.set_cons_succ]
      refine wpAnyH_done (by kernel_rfl) ?_ _
      clear hHeld q5
      go_wp2_with fail
      have f6 := f5
      have K6 := K5
      clear K5 f5
      refine (ym _).mono ?_
      rintro e w' ⟨rfl, rfl⟩
      go_wp2_with fail
      refine (sends_any _).mono ?_
      rintro e w' ⟨rfl, rfl⟩
      clear ym
      go_wp2_with fail
      refine (newcoder_any _).mono ?_
      rintro e w7 ⟨rfl, c7, k7⟩
      have f7 := f6.keep0 k7
      have K7 := K6.step0 k7
      have yd := yd _ _ c7
      have s6 := K6.size
      have lf := f6.lt
      generalize w5.heap.size = kd at *
      generalize kptr (some kd) = KD2 at *
      clear k7 K6 f6
      go_wp2_with fail
      refine yd.mono ?_
      rintro e w8 ⟨rfl, c8, k8⟩
      have f8 := f7.keep k8 (by intro hh; cases hh; omega)
      have K8 := K7.step k8 (fun i hi hh => by cases hh; omega)
      clear yd k8 K7 f7 c7 c8
      have g9 := FrAt.new w8 1 (c.toNat : Int) S 23
      have k9 : Keep0 w8 (w8.alloc (.cells #[.int .u8 1, .int .u8 (c.toNat : Int), .string S] 23)) := (Keep.refl _ w8).alloc _
      have f9 := f8.keep0 k9
      have K9 := K8.step0 k9
      clear k9 K8 f8
      obtain ⟨d0, d1, d2, d3, d4, d5⟩ := f9.cells
      obtain ⟨i0, i1, i2, i3, i4, i5⟩ := g9.cells
      clear d3 d4 d5 i3 i4 i5
      go_wp2_with fail
      refine (yo _).mono ?_
      rintro e w' ⟨rfl, rfl⟩
      clear yo
      go_wp2
      go_ret
      exact ⟨rfl, K9⟩
theorem great7_law (w : World) (b : Int) (wb : (Lit.int .u8 b).wf = true) (less : Int) (wl : (Lit.int .u8 less).wf = true) (many : Int) (_ : (Lit.int .i64 many).wf = true) :
    Calls Try.prog 5 #[.int .u8 b, .int .u8 less, .int .i64 many] w fun e w' => e = .returned (.bool true) ∧ Keep0 w w' := by
  obtain ⟨c, rfl⟩ := u8_nat wb
  have hl := bounds_u8 wl
  have hL : 65596 - less % 120 = ((65596 - less % 120).toNat : Int) := by omega
  by_cases h5 : (65596 - less % 120).toNat ≤ 65536
  · by_cases h1 : many < 0
    · exact great7_ok_neg w c less many hl.1 hl.2 _ hL h5 h1
    · by_cases h2 : many ≤ 65536
      · exact great7_ok_in w c less many hl.1 hl.2 _ hL h5 (by omega) h2
      · exact great7_ok_over w c less many hl.1 hl.2 _ hL h5 (by omega) h2
  · by_cases h1 : many < 0
    · exact great7_long_neg w c less many hl.1 hl.2 _ hL h5 h1
    · by_cases h2 : many ≤ 65536
      · exact great7_long_in w c less many hl.1 hl.2 _ hL h5 (by omega) h2
      · exact great7_long_over w c less many hl.1 hl.2 _ hL h5 (by omega) h2
end Go.Proofs.Ytkmfcdcimmhmdaa
