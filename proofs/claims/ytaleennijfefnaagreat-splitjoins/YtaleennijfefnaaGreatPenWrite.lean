/-
  Contracts of a pen's two writings, Text and Byte: what a pen holds behind them, for whatever texts and bytes.
  Conditions: all that is written together, or the limit, is at most half of the greatest memory.
-/
import Derived.Test.YtaleennijfefnaaGreatPen
namespace Go.Proofs.YtaleennijfefnaaGreat
open Go.RowKit
open Go.Lib (strCells strCells_length strCells_oneCell)

/-- What writing leaves of a pen: its state; the footprint; where its row lies. -/
def PenAfter (w w' : World) (b r : Nat) (m : Int) (p : ByteArray × Int) : Prop := ∃ r', Pen w' b r' p.1 m p.2 ∧ Keep (two b r) w w' ∧ (r' = r ∨ w.heap.size ≤ r')

theorem pAll_size (m : Int) : ∀ (l : List ByteArray) (p : ByteArray × Int), (pAll m p l).1.size ≤ p.1.size + (l.map ByteArray.size).sum
  | [], p => by simp [pAll]
  | s :: l, p => by
    have h := pAll_size m l (pOne m p s)
    have h1 : (pOne m p s).1.size ≤ p.1.size + s.size := by
      unfold pOne
      split
      · split
        · simp [ByteArray.size_append]
        · simp
      · simp
    show (pAll m (pOne m p s) l).1.size ≤ _
    simp only [List.map_cons, List.sum_cons]
    omega
theorem sum_take_succ (l : List ByteArray) (k : Nat) (h : k < l.length) : ((l.take (k + 1)).map ByteArray.size).sum = ((l.take k).map ByteArray.size).sum + l[k].size := by
  rw [List.take_succ_eq_append_getElem h, List.map_append, List.sum_append]
  rfl
theorem sum_take_le (l : List ByteArray) (k : Nat) : ((l.take k).map ByteArray.size).sum ≤ (l.map ByteArray.size).sum := by
  have e : (l.map ByteArray.size).sum = ((l.take k ++ l.drop k).map ByteArray.size).sum := by rw [List.take_append_drop]
  rw [e, List.map_append, List.sum_append]
  omega
/-- A pen's own cell behind an append to its row. -/
theorem Pen.after {w w3 : World} {b r : Nat} {ao : Option Addr} {n cap : Nat} (hao : (ao = none ∧ r = b) ∨ (ao = some ⟨r, 0, none⟩ ∧ r ≠ b)) (hg : w.grownBy w3 (Value.ownBlock (.slice ao n cap)))
    {v : Value} (h0 : w.cell? ⟨b, 0, none⟩ = some v) (h3 : w.frozen? ⟨b, 0, none⟩ = false) : w3.cell? ⟨b, 0, none⟩ = some v ∧ w3.frozen? ⟨b, 0, none⟩ = false := by
  have hb1 : some b ≠ Value.ownBlock (.slice ao n cap) := by
    rcases hao with ⟨rfl, _⟩ | ⟨rfl, hne⟩
    · simp [Value.ownBlock]
    · simp [Value.ownBlock]; omega
  exact ⟨hg.cell h0 hb1, (World.frozen?_of_block (hg.block b (World.block_lt_of_cell? w _ h0) hb1)).trans h3⟩

set_option maxRecDepth 100000 in
set_option maxHeartbeats 2000000 in
theorem ptext_any {w : World} {b r : Nat} {t : ByteArray} {m x : Int} (h : Pen w b r t m x) (ao : Option Addr) (cap : Nat) (l : List ByteArray)
    (hc : ∀ k (hk : k < l.length), ∃ bb off, ao = some ⟨bb, off, none⟩ ∧ w.cell? ⟨bb, off + k, none⟩ = some (.string l[k]) ∧ bb ≠ b ∧ bb ≠ r)
    (hl : (l.length : Int) ≤ 9223372036854775807) (hfit : (t.size : Int) + (l.map ByteArray.size).sum ≤ 140737488355328 ∨ m ≤ 140737488355328) :
    Calls Tryz.prog 42 #[pptr b, .slice ao l.length cap] w fun e w' => e = .returned (.tuple #[]) ∧ PenAfter w w' b r m (pAll m (t, x) l) := by
  obtain ⟨i0, hi, hz0, hz1, hz2⟩ := info_parts infoU8
  have HC : Hid (∀ k (hk : k < l.length), ∃ bb off, ao = some ⟨bb, off, none⟩ ∧ w.cell? ⟨bb, off + k, none⟩ = some (.string l[k]) ∧ bb ≠ b ∧ bb ≠ r) := hc
  clear hc
  go_enter Tryz.func42, Tryz.ntmps42
  go_wp2_with fail
  go_loopw [8] (fun i wr => ∃ (k r' : Nat) (t' : ByteArray) (x' : Int), k ≤ l.length ∧ i = .int .i64 k ∧ Pen wr b r' t' m x' ∧ pAll m (t, x) (l.take k) = (t', x') ∧ Keep (two b r) w wr ∧ (r' = r ∨ w.heap.size ≤ r')) (fun i _ => l.length - (intOf i).toNat)
  case atStart => exact ⟨0, r, t, x, by omega, rfl, h, rfl, Keep.refl _ _, .inl rfl⟩
  case round =>
    obtain ⟨k, r', t', x', hk, rfl, hp, hall, hkp, hr⟩ := hrel
    by_cases hlt : k < l.length
    · obtain ⟨bb, off, rfl, hcell0, hb1, hb2⟩ := HC.out k hlt
      have hcell : wr.cell? ⟨bb, off + k, none⟩ = some (.string l[k]) := hkp.cell hcell0 (by simp only [two]; omega)
      have hbl := World.block_lt_of_cell? w _ hcell0
      simp only at hbl
      have hstep := pAll_take m (t, x) l k hlt
      rw [hall] at hstep
      have hsz := pAll_size m (l.take k) (t, x)
      rw [hall] at hsz
      have hs1 := sum_take_succ l k hlt
      have hs2 := sum_take_le l (k + 1)
      generalize hsk : l[k] = s at *
      simp only at hsz
      have hse : wr.cell? ⟨bb, off + k, none⟩ = some (.string s) := hcell
      clear hcell hcell0
      by_cases hx : x' = 0
      · subst hx
        by_cases hf : (s.size : Int) ≤ m - t'.size
        · rw [pOne_yes (by omega)] at hstep
          have hfs : t'.size + s.size ≤ 140737488355328 := by have := hp.fit; omega
          have HS : Hid (pAll m (t, x) (l.take (k + 1)) = (t' ++ s, 0)) := hstep
          clear hs1 hs2 hsz hfit hstep hall
          go_wp2_with fail
          refine (takes_yes s.size hp hf).mono ?_
          rintro e w2 ⟨rfl, hw⟩
          have k2 := keepN hw
          have hp2 := hp.keep0 k2
          clear hw
          obtain ⟨ao2, cap2, g0, g1, g2, g3, g4, go, gao⟩ := hp2.cells
          go_wp2_with (at_builtin; refine wpList_append_str _ rfl (.tmp 21) (.tmp 22) 58 9 rfl 5 i0 Tryz.underlying58 Tryz.underlying9 hi hz0 hz1 hz2 _ _ _ rfl go s rfl hfs ?_)
          intro ao3 cap3 w3 ho3 hg3 hat3
          have hput := hp2.put (t' := t' ++ s) (cap := cap2) gao hg3 (by rw [ByteArray.size_append, strCells_append]; exact ho3) (by rw [ByteArray.size_append]; exact hat3) (by rw [ByteArray.size_append]; omega)
          rw [ByteArray.size_append] at hput
          obtain ⟨r3, hp3, k3, hr3⟩ := hput
          have hs2' := k2.size
          have hlast := Pen.after gao hg3 g0 g3
          obtain ⟨c3, f3⟩ := hlast
          clear ho3 hg3 hat3 go gao g0 g1 g2 g3 g4
          go_wp2
          go_roundw
          case rel => exact ⟨k + 1, r3, _, _, by omega, by go_num, hp3, HS.out, (hkp.step0 k2).step k3 (fun i hi' hh => by simp only [two] at hh ⊢; omega), by have := hkp.size; omega⟩
          case measure => simp [intOf]; omega
        · rw [pOne_no (by omega)] at hstep
          have HE : Hid (pAll m (t, x) l = (t', 3)) := pAll_stop hstep (by decide)
          clear hs1 hs2 hsz hfit hstep hall
          go_wp2_with fail
          refine (takes_no s.size hp (by omega)).mono ?_
          rintro e w2 ⟨rfl, hp2, k2⟩
          go_wp2
          refine bodyPost_ret (results_none rfl _ _ _) rfl ?_
          refine ⟨rfl, ?_⟩
          rw [HE.out]
          exact ⟨r', hp2, hkp.step k2 (fun i _ hh => .inl hh), hr⟩
      · rw [pOne_err hx] at hstep
        have HE : Hid (pAll m (t, x) l = (t', x')) := pAll_stop hstep hx
        clear hs1 hs2 hsz hfit hstep hall
        go_wp2_with fail
        refine (takes_err s.size hp hx).mono ?_
        rintro e w2 ⟨rfl, hw⟩
        have k2 := keepN hw
        clear hw
        go_wp2
        refine bodyPost_ret (results_none rfl _ _ _) rfl ?_
        refine ⟨rfl, ?_⟩
        rw [HE.out]
        exact ⟨r', hp.keep0 k2, hkp.step0 k2, hr⟩
    · rw [List.take_of_length_le (by omega)] at hall
      have HE : Hid (pAll m (t, x) l = (t', x')) := hall
      clear hall
      go_wp2
      go_end0
      refine ⟨rfl, ?_⟩
      rw [HE.out]
      exact ⟨r', hp, hkp, hr⟩

/-- The text of one byte. -/
def one (c : UInt8) : ByteArray := ⟨#[c]⟩
theorem one_size (c : UInt8) : (one c).size = 1 := rfl
theorem one_cells (c : UInt8) : strCells (one c) = [.int .u8 c.toNat] := rfl
theorem sum_ones (l : List UInt8) : ((l.map one).map ByteArray.size).sum = l.length := by
  induction l with
  | nil => rfl
  | cons c l ih => simp only [List.map_cons, List.sum_cons, ih, one_size, List.length_cons]; omega

set_option maxRecDepth 100000 in
set_option maxHeartbeats 2000000 in
theorem pbyte_any {w : World} {b r : Nat} {t : ByteArray} {m x : Int} (h : Pen w b r t m x) (ao : Option Addr) (cap : Nat) (l : List UInt8)
    (hc : ∀ k (hk : k < l.length), ∃ bb off, ao = some ⟨bb, off, none⟩ ∧ w.cell? ⟨bb, off + k, none⟩ = some (.int .u8 (l[k].toNat : Int)) ∧ bb ≠ b ∧ bb ≠ r)
    (hl : (l.length : Int) ≤ 9223372036854775807) (hfit : (t.size : Int) + l.length ≤ 140737488355328 ∨ m ≤ 140737488355328) :
    Calls Tryz.prog 61 #[pptr b, .slice ao l.length cap] w fun e w' => e = .returned (.tuple #[]) ∧ PenAfter w w' b r m (pAll m (t, x) (l.map one)) := by
  obtain ⟨i0, hi, hz0, hz1, hz2⟩ := info_parts infoU8
  have HC : Hid (∀ k (hk : k < l.length), ∃ bb off, ao = some ⟨bb, off, none⟩ ∧ w.cell? ⟨bb, off + k, none⟩ = some (.int .u8 (l[k].toNat : Int)) ∧ bb ≠ b ∧ bb ≠ r) := hc
  clear hc
  go_enter Tryz.func61, Tryz.ntmps61
  go_wp2_with fail
  go_loopw [8] (fun i wr => ∃ (k r' : Nat) (t' : ByteArray) (x' : Int), k ≤ l.length ∧ i = .int .i64 k ∧ Pen wr b r' t' m x' ∧ pAll m (t, x) ((l.map one).take k) = (t', x') ∧ Keep (two b r) w wr ∧ (r' = r ∨ w.heap.size ≤ r')) (fun i _ => l.length - (intOf i).toNat)
  case atStart => exact ⟨0, r, t, x, by omega, rfl, h, rfl, Keep.refl _ _, .inl rfl⟩
  case round =>
    obtain ⟨k, r', t', x', hk, rfl, hp, hall, hkp, hr⟩ := hrel
    by_cases hlt : k < l.length
    · obtain ⟨bb, off, rfl, hcell0, hb1, hb2⟩ := HC.out k hlt
      have hcell : wr.cell? ⟨bb, off + k, none⟩ = some (.int .u8 (l[k].toNat : Int)) := hkp.cell hcell0 (by simp only [two]; omega)
      have hbl := World.block_lt_of_cell? w _ hcell0
      simp only at hbl
      have hstep := pAll_take m (t, x) (l.map one) k (by simpa using hlt)
      rw [hall, List.getElem_map] at hstep
      have hsz := pAll_size m ((l.map one).take k) (t, x)
      rw [hall, ← List.map_take, sum_ones] at hsz
      have hs1 : (l.take k).length ≤ k := by simp; omega
      generalize hsk : l[k] = c at *
      simp only at hsz
      have hse : wr.cell? ⟨bb, off + k, none⟩ = some (.int .u8 (c.toNat : Int)) := hcell
      clear hcell hcell0
      by_cases hx : x' = 0
      · subst hx
        by_cases hf : (1 : Int) ≤ m - t'.size
        · rw [pOne_yes (by rw [one_size]; omega)] at hstep
          have hfs : t'.size + 1 ≤ 140737488355328 := by have := hp.fit; omega
          have HS : Hid (pAll m (t, x) ((l.map one).take (k + 1)) = (t' ++ one c, 0)) := hstep
          clear hs1 hsz hfit hstep hall
          go_wp2_with fail
          refine (takes_yes 1 hp hf).mono ?_
          rintro e w2 ⟨rfl, hw⟩
          have k2 := keepN hw
          have hp2 := hp.keep0 k2
          clear hw
          have kA := (Keep.refl (fun _ => False) w2).alloc (.cells #[.int .u8 (c.toNat : Int)] 5)
          have hpA := hp2.keep0 kA
          obtain ⟨ao2, cap2, g0, g1, g2, g3, g4, go, gao⟩ := hp2.cells
          have goA := go.alloc (.cells #[.int .u8 (c.toNat : Int)] 5)
          have gA0 := kA.cell g0 (fun f => f)
          have gA3 : (w2.alloc (.cells #[.int .u8 (c.toNat : Int)] 5)).frozen? ⟨b, 0, none⟩ = false := (World.frozen?_of_block (kA.block b hp2.lt (fun f => f))).trans g3
          go_wp2_with (at_builtin; refine wpList_append_lies _ rfl (.tmp 19) (.tmp 21) 58 rfl 0 5 i0 (.int .u8 0) 1 1 Tryz.underlying58 hi hz0 hz1 hz2 rfl (by decide) _ _ _ rfl goA ⟨w2.heap.size, 0, none⟩ 1 1 [.int .u8 (c.toNat : Int)] rfl rfl (cell_one_new _ _ _) ?c1 (by decide) ?c2 ?c3 (Nat.zero_le _) _ rfl ?_)
          case c1 => intro u hu; simp at hu; subst hu; rfl
          case c2 => unfold maxLen; omega
          case c3 => omega
          intro g cap3 w3 ho3 hg3 hat3 hlt3
          have hput := hpA.put (t' := t' ++ one c) (cap := cap2) (ao' := some ⟨g, 0, none⟩) (cap' := cap3) gao hg3 (by rw [ByteArray.size_append, strCells_append]; exact ho3) (by rcases hat3 with h | h; exact .inl h.symm; exact .inr ⟨g, rfl, by simp [h]⟩) (by rw [ByteArray.size_append, one_size]; omega)
          rw [ByteArray.size_append, one_size] at hput
          obtain ⟨r3, hp3, k3, hr3⟩ := hput
          have hs2' := k2.size
          have hsA := kA.size
          obtain ⟨c3, f3⟩ := Pen.after gao hg3 gA0 gA3
          clear ho3 hg3 hat3 go gao g0 g1 g2 g3 g4 goA gA0 gA3 hlt3
          go_wp2
          go_roundw
          case rel => exact ⟨k + 1, r3, _, _, by omega, by go_num, hp3, HS.out, ((hkp.step0 k2).step0 kA).step k3 (fun i hi' hh => by simp only [two] at hh ⊢; omega), by have := hkp.size; omega⟩
          case measure => simp [intOf]; omega
        · rw [pOne_no (by rw [one_size]; omega)] at hstep
          have HE : Hid (pAll m (t, x) (l.map one) = (t', 3)) := pAll_stop hstep (by decide)
          clear hs1 hsz hfit hstep hall
          go_wp2_with fail
          refine (takes_no 1 hp (by omega)).mono ?_
          rintro e w2 ⟨rfl, hp2, k2⟩
          go_wp2
          refine bodyPost_ret (results_none rfl _ _ _) rfl ?_
          refine ⟨rfl, ?_⟩
          rw [HE.out]
          exact ⟨r', hp2, hkp.step k2 (fun i _ hh => .inl hh), hr⟩
      · rw [pOne_err hx] at hstep
        have HE : Hid (pAll m (t, x) (l.map one) = (t', x')) := pAll_stop hstep hx
        clear hs1 hsz hfit hstep hall
        go_wp2_with fail
        refine (takes_err 1 hp hx).mono ?_
        rintro e w2 ⟨rfl, hw⟩
        have k2 := keepN hw
        clear hw
        go_wp2
        refine bodyPost_ret (results_none rfl _ _ _) rfl ?_
        refine ⟨rfl, ?_⟩
        rw [HE.out]
        exact ⟨r', hp.keep0 k2, hkp.step0 k2, hr⟩
    · rw [List.take_of_length_le (by simp; omega)] at hall
      have HE : Hid (pAll m (t, x) (l.map one) = (t', x')) := hall
      clear hall
      go_wp2
      go_end0
      refine ⟨rfl, ?_⟩
      rw [HE.out]
      exact ⟨r', hp, hkp, hr⟩
end Go.Proofs.YtaleennijfefnaaGreat
