/-
  The walk of the law CursorPlays, out of the contracts of package cursor and of the document's own cursor.
  Conditions: a string that comes in takes at most the greatest length that a string may have.
-/
import Derived.Test.YthmlkedehjndcaaLaw01
import Derived.Test.YthmlkedehjndcaaRef01
import Derived.Deep.RegionHeld3
namespace Go.Proofs.Ythmlkedehjndcaa
open Go.RowKit

/-! ### CursorPlays -/
/-- The law's own reckoning of what lies ahead. -/
theorem lawAhead {w : World} (s : ByteArray) (a n : Int) (h0 : 0 ≤ a) (h1 : a ≤ s.size) (sz : s.size ≤ 200) : Calls Try.prog 21 #[.string (s.extract a.toNat s.size), .int .i64 n] w fun e w' => e = .returned (.string (cAhead s a n)) ∧ w = w' := by
  have hsz : ((s.extract a.toNat s.size).size : Int) = s.size - a := by simp; omega
  unfold cAhead
  by_cases hn : n < 0
  · rw [if_pos hn]
    go_enter Try.func21, Try.ntmps21
    go_wp2
    go_ret
    exact ⟨rfl, rfl⟩
  · rw [if_neg hn]
    by_cases hl : n ≤ s.size - a
    · rw [if_pos hl]
      have hm : n ≤ (s.extract a.toNat s.size).size := by omega
      go_enter Try.func21, Try.ntmps21
      go_wp2
      go_ret
      refine ⟨?_, rfl⟩
      show Ending.returned (.string ((s.extract a.toNat s.size).extract 0 n.toNat)) = _
      rw [ByteArray.extract_extract]
      unfold cut
      rw [show a.toNat + 0 = a.toNat from rfl, show min (a.toNat + n.toNat) s.size = (a + n).toNat from by omega]
    · rw [if_neg hl]
      have hm : ¬ n ≤ (s.extract a.toNat s.size).size := by omega
      go_enter Try.func21, Try.ntmps21
      go_wp2
      go_ret
      exact ⟨rfl, rfl⟩

theorem plays_great (s : ByteArray) (ao : Option Addr) (len cap : Nat) (w : World) (hl : ¬ ((s.size : Int) ≤ 200 ∧ (len : Int) ≤ 60)) : Calls Try.prog 3 #[.string s, .slice ao len cap] w fun e w' => e = .returned (.bool true) ∧ Keep0 w w' := by
  by_cases h1 : (s.size : Int) ≤ 200
  · have h2 : ¬ (len : Int) ≤ 60 := by omega
    clear hl
    go_enter Try.func3, Try.ntmps3
    go_wp2_with (go_at_call 7; refine (awake_any w).mono ?_; rintro e w1 ⟨rfl, k1⟩)
    go_ret
    exact ⟨rfl, k1⟩
  · clear hl
    go_enter Try.func3, Try.ntmps3
    go_wp2_with (go_at_call 7; refine (awake_any w).mono ?_; rintro e w1 ⟨rfl, k1⟩)
    go_ret
    exact ⟨rfl, k1⟩

set_option maxRecDepth 100000 in
set_option maxHeartbeats 8000000 in
theorem plays_law (w : World) (s : ByteArray) (hs : s.size ≤ maxLen) (ao : Option Addr) (len cap : Nat) (K N : Nat → Int)
    (hcells : ∀ i, i < len → ∃ b off, ao = some ⟨b, off, none⟩ ∧ w.cell? ⟨b, off + i * 2, none⟩ = some (.int .i64 (K i)) ∧ w.cell? ⟨b, off + i * 2 + 1, none⟩ = some (.int .i64 (N i))) :
    Calls Try.prog 3 #[.string s, .slice ao len cap] w fun e w' => e = .returned (.bool true) ∧ Keep0 w w' := by
  by_cases hl : (s.size : Int) ≤ 200 ∧ (len : Int) ≤ 60
  · obtain ⟨hl1, hl2⟩ := hl
    have hd1 : decide ((200 : Int) < s.size) = false := by simp; omega
    have hd2 : decide ((60 : Int) < len) = false := by simp; omega
    have HC : Hid (∀ i, i < len → ∃ b off, ao = some ⟨b, off, none⟩ ∧ w.cell? ⟨b, off + i * 2, none⟩ = some (.int .i64 (K i)) ∧ w.cell? ⟨b, off + i * 2 + 1, none⟩ = some (.int .i64 (N i))) := hcells
    clear hcells
    go_enter Try.func3, Try.ntmps3
    go_wp2_with (first | (go_at_call 7; refine (awake_any w).mono ?_; rintro e w1 ⟨rfl, k1⟩) | (go_at_call 8; refine (new_any _ s hs).mono ?_; rintro e w2 ⟨rfl, h2, k2⟩))
    go_loopw [7] (fun i wr => ∃ (k : Nat) (a x : Int), k ≤ len ∧ i = .int .i64 k ∧ Cur wr w1.heap.size s a x ∧ Cur wr w2.heap.size s a x ∧ Keep0 w wr) (fun i _ => len - (intOf i).toNat)
    case atStart => exact ⟨0, 0, 0, by omega, rfl, h2.keep0 ((Keep.refl _ _).alloc _), Cur.new _ s _ hs, (k1.step0 k2).alloc _⟩
    case round =>
      obtain ⟨k, a, x, hk, rfl, hc, hx, hkp⟩ := hrel
      have hne : w1.heap.size < w2.heap.size := h2.lt
      by_cases hlt : k < len
      · obtain ⟨b, off, rfl, hK, hN⟩ := HC.out k hlt
        have hKr := hkp.cell hK (fun f => f)
        have hNr := hkp.cell hN (fun f => f)
        generalize K k = kk at *
        generalize N k = nn at *
        have hcA := hc.keep0 ((Keep.refl _ wr).alloc (.cells #[.int .i64 kk, .int .i64 nn] 30))
        have hxA := hx.keep0 ((Keep.refl _ wr).alloc (.cells #[.int .i64 kk, .int .i64 nn] 30))
        have nA : (wr.alloc (.cells #[.int .i64 kk, .int .i64 nn] 30)).cell? ⟨wr.heap.size, 1, none⟩ = some (.int .i64 nn) := cell_alloc wr _ rfl
        have kA := hkp.alloc (.cells #[.int .i64 kk, .int .i64 nn] 30)
        have hlc := hc.lt
        have hlx := hx.lt
        have hbd := cByte_bd s a x
        by_cases e0 : kk = 0
        · subst e0
          go_wp2_with fail
          refine (byte_any hcA).mono ?_
          rintro e w4 ⟨rfl, hc4, k4⟩
          have hx4 := hxA.keep k4 (by omega)
          have n4 := k4.cell nA (by simp; omega)
          have kw4 := kA.step1 k4 k1.size
          go_wp2_with fail
          refine (rbyte_any hx4).mono ?_
          rintro e w5 ⟨rfl, hx5, k5⟩
          have hc5 := hc4.keep k5 (by omega)
          have n5 := k5.cell n4 (by simp; omega)
          have k5w := kw4.step1 k5 (Nat.le_trans k1.size (by omega))
          clear nA n4 hcA hxA hc4 hx4 k4 k5 kw4 hbd
          have lo := hx5.lo
          have hi := hx5.hi
          obtain ⟨g0, g1, g2, g3, g4⟩ := hx5.cells
          go_wp2_with fail
          go_quiet ((first | (go_at_call 17; exact err_q hc5) | (go_at_call 18; exact at_q hc5) | (go_at_call 19; exact left_q hc5) | (go_at_call 20; exact ahead_q nn hc5) | (go_at_call 21; exact Calls.of_same (lawAhead s _ nn lo hi (by omega)))))
          go_wp2
          go_roundw
          case rel => exact ⟨k + 1, _, _, by omega, by go_num, hc5.keep0 ((Keep.refl _ _).drewN _), hx5.keep0 ((Keep.refl _ _).drewN _), k5w.drewN _⟩
          case measure => simp [intOf]; omega
        by_cases e1 : kk = 1
        · subst e1
          go_wp2_with fail
          generalize wr.alloc (Obj.cells #[Value.int IntKind.i64 1, Value.int IntKind.i64 nn] 30) = W0 at *
          have hcD : Cur W0.drew _ _ _ _ := hcA.keep0 (Keep.refl _ W0).drew
          have hxD : Cur W0.drew _ _ _ _ := hxA.keep0 (Keep.refl _ W0).drew
          have nD : W0.drew.cell? ⟨wr.heap.size, 1, none⟩ = some (.int .i64 nn) := nA
          have kD := kA.drew
          go_region_held3 (fun w' => w'.cell? ⟨wr.heap.size, 1, none⟩ = some (.int .i64 nn)) (first | exact nD | exact n4 | exact n5) (first | (go_at_call 11; refine (bytes_any nn hcD).mono ?_; rintro e w4 ⟨rfl, hc4, k4⟩; have hx4 := hxD.keep k4 (by omega); have n4 := k4.cell nD (by simp; omega)) | (go_at_call 12; refine (rbytes_any nn hx4).mono ?_; rintro e w5 ⟨rfl, hx5, k5⟩; have n5 := k5.cell n4 (by simp; omega)))
          have hc5 := hc4.keep k5 (by omega)
          have k5w := (kD.step1 k4 k1.size).step1 k5 (Nat.le_trans k1.size (by omega))
          clear nD n4 hcD hxD hc4 hx4 k4 k5 hbd nA hcA hxA
          have lo := hx5.lo
          have hi := hx5.hi
          obtain ⟨g0, g1, g2, g3, g4⟩ := hx5.cells
          go_wp2_with fail
          go_quiet ((first | (go_at_call 17; exact err_q hc5) | (go_at_call 18; exact at_q hc5) | (go_at_call 19; exact left_q hc5) | (go_at_call 20; exact ahead_q nn hc5) | (go_at_call 21; exact Calls.of_same (lawAhead s _ nn lo hi (by omega)))))
          go_wp2
          go_roundw
          case rel => exact ⟨k + 1, _, _, by omega, by go_num, hc5.keep0 ((Keep.refl _ _).drewN _), hx5.keep0 ((Keep.refl _ _).drewN _), k5w.drewN _⟩
          case measure => simp [intOf]; omega
        by_cases e2 : kk = 2
        · subst e2
          go_wp2_with fail
          refine (fail_any nn hcA).mono ?_
          rintro e w4 ⟨rfl, hc4, k4⟩
          have hx4 := hxA.keep k4 (by omega)
          have n4 := k4.cell nA (by simp; omega)
          have kw4 := kA.step1 k4 k1.size
          go_wp2_with fail
          refine (rfail_any nn hx4).mono ?_
          rintro e w5 ⟨rfl, hx5, k5⟩
          have hc5 := hc4.keep k5 (by omega)
          have n5 := k5.cell n4 (by simp; omega)
          have k5w := kw4.step1 k5 (Nat.le_trans k1.size (by omega))
          clear nA n4 hcA hxA hc4 hx4 k4 k5 kw4 hbd
          have lo := hx5.lo
          have hi := hx5.hi
          obtain ⟨g0, g1, g2, g3, g4⟩ := hx5.cells
          go_wp2_with fail
          go_quiet ((first | (go_at_call 17; exact err_q hc5) | (go_at_call 18; exact at_q hc5) | (go_at_call 19; exact left_q hc5) | (go_at_call 20; exact ahead_q nn hc5) | (go_at_call 21; exact Calls.of_same (lawAhead s _ nn lo hi (by omega)))))
          go_wp2
          go_roundw
          case rel => exact ⟨k + 1, _, _, by omega, by go_num, hc5.keep0 ((Keep.refl _ _).drewN _), hx5.keep0 ((Keep.refl _ _).drewN _), k5w.drewN _⟩
          case measure => simp [intOf]; omega
        by_cases e3 : kk = 3
        · subst e3
          go_wp2_with fail
          refine (end_any hcA).mono ?_
          rintro e w4 ⟨rfl, hc4, k4⟩
          have hx4 := hxA.keep k4 (by omega)
          have n4 := k4.cell nA (by simp; omega)
          have kw4 := kA.step1 k4 k1.size
          go_wp2_with fail
          refine (rend_any hx4).mono ?_
          rintro e w5 ⟨rfl, hx5, k5⟩
          have hc5 := hc4.keep k5 (by omega)
          have n5 := k5.cell n4 (by simp; omega)
          have k5w := kw4.step1 k5 (Nat.le_trans k1.size (by omega))
          clear nA n4 hcA hxA hc4 hx4 k4 k5 kw4 hbd
          have lo := hx5.lo
          have hi := hx5.hi
          obtain ⟨g0, g1, g2, g3, g4⟩ := hx5.cells
          go_wp2_with fail
          go_quiet ((first | (go_at_call 17; exact err_q hc5) | (go_at_call 18; exact at_q hc5) | (go_at_call 19; exact left_q hc5) | (go_at_call 20; exact ahead_q nn hc5) | (go_at_call 21; exact Calls.of_same (lawAhead s _ nn lo hi (by omega)))))
          go_wp2
          go_roundw
          case rel => exact ⟨k + 1, _, _, by omega, by go_num, hc5.keep0 ((Keep.refl _ _).drewN _), hx5.keep0 ((Keep.refl _ _).drewN _), k5w.drewN _⟩
          case measure => simp [intOf]; omega
        have f0 : (kk == 0) = false := by simpa using e0
        have f1 : (kk == 1) = false := by simpa using e1
        have f2 : (kk == 2) = false := by simpa using e2
        have f3 : (kk == 3) = false := by simpa using e3
        clear e0 e1 e2 e3
        have hx5 := hxA
        have hc5 := hcA
        have n5 := nA
        have k5w := kA
        clear nA hcA hxA hbd
        go_wp2_with fail
        generalize wr.alloc (Obj.cells #[Value.int IntKind.i64 kk, Value.int IntKind.i64 nn] 30) = W0 at *
        have lo := hx5.lo
        have hi := hx5.hi
        obtain ⟨g0, g1, g2, g3, g4⟩ := hx5.cells
        go_quiet ((first | (go_at_call 17; exact err_q hc5) | (go_at_call 18; exact at_q hc5) | (go_at_call 19; exact left_q hc5) | (go_at_call 20; exact ahead_q nn hc5) | (go_at_call 21; exact Calls.of_same (lawAhead s _ nn lo hi (by omega)))))
        go_wp2
        go_roundw
        case rel => exact ⟨k + 1, _, _, by omega, by go_num, hc5.keep0 ((Keep.refl _ _).drewN _), hx5.keep0 ((Keep.refl _ _).drewN _), k5w.drewN _⟩
        case measure => simp [intOf]; omega
      · go_wp2
        go_ret
        exact ⟨rfl, hkp⟩
  · exact plays_great s ao len cap w hl
end Go.Proofs.Ythmlkedehjndcaa
