/-
  The walk of the law BlobRises, out of the contracts of packages blob and pen and of the document's own answers; and the example that every law of layer 6 begins with.
  Conditions: none beyond that a text takes at most the greatest length that a string may have.
-/
import Derived.Test.YtfbcifdliofmiaaBlobPut
import Derived.Test.YtfbcifdliofmiaaOpen05
namespace Go.Proofs.Ytfbcifdliofmiaa
open Go.RowKit

theorem size_nil06 : (⟨#[]⟩ : ByteArray).size = 0 := rfl
theorem blob_abc : wPuts 9 5 (⟨#[]⟩, 0) [⟨#[97, 98, 99]⟩] = (⟨#[3, 97, 98, 99]⟩, 0) := by
  have h : vText 3 = ⟨#[3]⟩ := by unfold vText; rw [vEnc_lt (by decide)]; rfl
  show wPut 9 5 (⟨#[]⟩, 0) ⟨#[97, 98, 99]⟩ = _
  have h3 : (⟨#[97, 98, 99]⟩ : ByteArray).size = 3 := rfl
  rw [wPut_fit (by decide), h3, h]
  rfl
theorem rise_abc : rise [⟨#[97]⟩, ⟨#[97, 98]⟩, ⟨#[97, 98]⟩] = 2 := by decide

/-- The example that every law begins with. -/
theorem awake06 (w : World) : Calls Try.prog 6 #[] w fun e w' => e = .returned (.bool true) ∧ Keep0 w w' := by
  go_enter Try.func6, Try.ntmps6
  go_wp2_with fail
  refine (pnew_any w 9 (by decide)).mono ?_
  have hM : pMax 9 = 9 := rfl
  rw [hM]
  rintro e w1 ⟨rfl, h1, k1⟩
  have hlt := h1.lt
  go_wp2_with fail
  refine (bput_any (h1.keep0 ((Keep.refl _ w1).alloc (.cells #[.string ⟨#[97, 98, 99]⟩] _))) 5 (by decide) (some ⟨w1.heap.size, 0, none⟩) 1 [⟨#[97, 98, 99]⟩] (by unfold maxLen; simp) ?_ ?_ (.inr (by decide))).mono ?_
  · intro s hs
    have : s = ⟨#[97, 98, 99]⟩ := by simpa using hs
    subst this
    decide
  · intro k hk
    obtain rfl : k = 0 := by simpa using hk
    exact ⟨w1.heap.size, 0, rfl, cell_alloc w1 _ rfl, by omega, by omega⟩
  rw [blob_abc]
  rintro e w2 ⟨rfl, r2, h2, k2, hr2⟩
  have kw2 : Keep0 w w2 := (k1.alloc _).step k2 (fun i hi hh => by simp only [two] at hh; omega)
  clear k2 h1 k1
  go_wp2_with fail
  refine (pend_any h2).mono ?_
  have hE : pEnd ⟨#[3, 97, 98, 99]⟩ 0 = ⟨#[3, 97, 98, 99]⟩ := rfl
  rw [hE]
  rintro e w' ⟨rfl, rfl⟩
  have hq := rising6_any (w2.alloc (.cells #[.string ⟨#[97]⟩, .string ⟨#[97, 98]⟩, .string ⟨#[97, 98]⟩] 9)) (some ⟨w2.heap.size, 0, none⟩) 3 [⟨#[97]⟩, ⟨#[97, 98]⟩, ⟨#[97, 98]⟩] (by unfold maxLen; simp) (fun k hk => by
    refine ⟨w2.heap.size, 0, rfl, ?_⟩
    have hk3 : k < 3 := hk
    rcases (by omega : k = 0 ∨ k = 1 ∨ k = 2) with rfl | rfl | rfl <;> exact cell_alloc w2 _ rfl)
  rw [rise_abc] at hq
  go_wp2_with fail
  refine hq.mono ?_
  rintro e w3 ⟨rfl, hw3⟩
  have k3 := (kw2.alloc (.cells #[.string ⟨#[97]⟩, .string ⟨#[97, 98]⟩, .string ⟨#[97, 98]⟩] 9)).step0 (keepN hw3)
  clear hw3 hq
  go_wp2
  go_ret
  exact ⟨rfl, k3⟩

theorem rises_great (ao : Option Addr) (len cap : Nat) (m : Int) (w : World) (hl : ¬ (len : Int) ≤ 40) : Calls Try.prog 5 #[.slice ao len cap, .int .i64 m] w fun e w' => e = .returned (.bool true) ∧ Keep0 w w' := by
  go_enter Try.func5, Try.ntmps5
  go_wp2_with (go_at_call 6; refine (awake06 w).mono ?_; rintro e w1 ⟨rfl, k1⟩)
  go_ret
  exact ⟨rfl, k1⟩

set_option maxRecDepth 100000 in
set_option maxHeartbeats 8000000 in
theorem rises_law (w : World) (ao : Option Addr) (cap : Nat) (l : List ByteArray) (hlm : l.length ≤ maxLen) (hls : ∀ s ∈ l, s.size ≤ maxLen) (hc : StrsAt w ao l) (m : Int) (hm0 : (Lit.int .i64 m).wf = true) :
    Calls Try.prog 5 #[.slice ao l.length cap, .int .i64 m] w fun e w' => e = .returned (.bool true) ∧ Keep0 w w' := by
  have hb := bounds_i64 hm0
  clear hm0
  by_cases hl : (l.length : Int) ≤ 40
  · have HC : Hid (StrsAt w ao l) := hc
    have HS : Hid (∀ s ∈ l, s.size ≤ maxLen) := hls
    obtain ⟨T, X, hTX⟩ : ∃ T X, wPuts 5000 m (⟨#[]⟩, 0) l = (T, X) := ⟨_, _, rfl⟩
    have HT : Hid (wPuts 5000 m (⟨#[]⟩, 0) l = (T, X)) := hTX
    have hM : pMax 5000 = 5000 := rfl
    clear hc hls hTX
    go_enter Try.func5, Try.ntmps5
    go_wp2_with fail
    refine (awake06 w).mono ?_
    rintro e w1 ⟨rfl, k1⟩
    go_wp2_with fail
    refine (pnew_any w1 5000 (by decide)).mono ?_
    rw [hM]
    rintro e w2 ⟨rfl, hp2, k2⟩
    go_wp2_with fail
    refine (pnew_any w2 5000 (by decide)).mono ?_
    rw [hM]
    rintro e w3 ⟨rfl, hq3, k3⟩
    have hp3 := hp2.keep0 k3
    have kw3 : Keep0 w w3 := (k1.step0 k2).step0 k3
    have l2 := hp2.lt
    have l3 := hq3.lt
    have s1 := k1.size
    clear k1 k2 k3 hp2
    go_wp2_with fail
    refine (bput_any hp3 m hb.2 ao cap l hlm HS.out ?_ (.inr (by decide))).mono ?_
    · intro i hi
      obtain ⟨bb, off, e1, e2, e3⟩ := HC.out i hi
      exact ⟨bb, off, e1, kw3.cell e3 (fun f => f), by omega, by omega⟩
    rw [HT.out]
    rintro e w4 ⟨rfl, r4, hp4, k4, hr4⟩
    have hq4 := hq3.keep k4 (by simp only [two]; omega) (by simp only [two]; omega)
    have kw4 : Keep0 w w4 := kw3.step k4 (fun i hi hh => by simp only [two] at hh; omega)
    have s4 := k4.size
    have hr4' : r4 = w1.heap.size ∨ w3.heap.size ≤ r4 := hr4
    have hrn : r4 ≠ w2.heap.size := by omega
    have hrl := hp4.rlt
    clear k4 hr4 hp3 hq3 kw3
    generalize hb1 : w1.heap.size = b1 at *
    generalize hb2 : w2.heap.size = b2 at *
    clear hb1 hb2
    go_wp2_with fail
    go_loopw [7] (fun i wr => ∃ (k r' : Nat) (t' : ByteArray) (x' : Int), k ≤ l.length ∧ i = .int .i64 k ∧ Pen wr b1 r4 T 5000 X ∧ Pen wr b2 r' t' 5000 x' ∧ wPuts 5000 m (⟨#[]⟩, 0) (l.take k) = (t', x') ∧ (r' = b2 ∨ w4.heap.size ≤ r') ∧ Keep0 w wr ∧ w4.heap.size ≤ wr.heap.size) (fun i _ => l.length - (intOf i).toNat)
    case atStart => exact ⟨0, b2, ⟨#[]⟩, 0, by omega, rfl, hp4, hq4, rfl, .inl rfl, kw4, Nat.le_refl _⟩
    case round =>
      obtain ⟨k, r', t', x', hk, rfl, hp, hq, hall, hr', hK, hsz⟩ := hrel
      by_cases hlt : k < l.length
      · obtain ⟨bb, off, rfl, hbb, hcell0⟩ := HC.out k hlt
        have hcell : wr.cell? ⟨bb, off + k, none⟩ = some (.string l[k]) := hK.cell hcell0 (fun f => f)
        have hsk := HS.out l[k] (List.getElem_mem hlt)
        have hstep := wPuts_take 5000 m (⟨#[]⟩, 0) l k hlt
        rw [hall] at hstep
        generalize l[k] = s at *
        have HX : Hid (wPuts 5000 m (⟨#[]⟩, 0) (l.take (k + 1)) = wPut 5000 m (t', x') s) := hstep
        have hlt' : (k : Int) < l.length := by omega
        clear hcell0 hall hstep
        by_cases h100 : (s.size : Int) ≤ 100
        · have k0 : Keep0 wr (wr.alloc (.cells #[.string s] 9)) := (Keep.refl _ wr).alloc _
          have q1 := hp.lt
          have q2 := hq.lt
          have q3 := hq.rlt
          go_wp2_with fail
          refine (bput_any (hq.keep0 k0) m hb.2 (some ⟨wr.heap.size, 0, none⟩) 1 [s] (by unfold maxLen; simp) (by simpa using hsk) ?_ (.inr (by decide))).mono ?_
          · intro i hi
            obtain rfl : i = 0 := by simpa using hi
            exact ⟨wr.heap.size, 0, rfl, cell_alloc wr _ rfl, by omega, by omega⟩
          have hone : wPuts 5000 m (t', x') [s] = wPut 5000 m (t', x') s := rfl
          rw [hone]
          rintro e w5 ⟨rfl, r5, hq5, k5, hr5⟩
          have hs0 := k0.size
          have hs5 := k5.size
          have hp5 := (hp.keep0 k0).keep k5 (by simp only [two]; omega) (by simp only [two]; omega)
          have kw5 : Keep0 w w5 := (hK.step0 k0).step k5 (fun i hi hh => by simp only [two] at hh; omega)
          have hr5' : r5 = b2 ∨ w4.heap.size ≤ r5 := by omega
          clear k0 k5 hr5 hone hp hq hK hcell
          go_wp2
          go_roundw
          case rel => exact ⟨k + 1, r5, _, _, by omega, by go_num, hp5, hq5, HX.out, hr5', kw5, by omega⟩
          case measure => simp [intOf]; omega
        · go_wp2
          go_ret
          exact ⟨rfl, hK⟩
      · rw [List.take_of_length_le (by omega), HT.out] at hall
        obtain ⟨rfl, rfl⟩ : T = t' ∧ X = x' := ⟨congrArg Prod.fst hall, congrArg Prod.snd hall⟩
        have HI : Hid (TextsIn wr ao l) := by
          intro i hi
          obtain ⟨bb, off, e1, e2, e3⟩ := HC.out i hi
          exact ⟨bb, off, e1, hK.cell e3 (fun f => f)⟩
        obtain ⟨R, hR⟩ : ∃ R, rise l = R := ⟨_, rfl⟩
        clear hall
        go_wp2_with fail
        refine (pend_any hp).mono ?_
        rintro e w' ⟨rfl, rfl⟩
        go_wp2_with fail
        refine (pend_any hq).mono ?_
        rintro e w' ⟨rfl, rfl⟩
        go_wp2_with fail
        refine (rising6_any wr ao cap l hlm HI.out).mono ?_
        rw [hR]
        rintro e w6 ⟨rfl, hw6⟩
        have k6 := keepN hw6
        have HI6 : TextsIn w6 ao l := by
          intro i hi
          obtain ⟨bb, off, e1, e3⟩ := HI.out i hi
          exact ⟨bb, off, e1, k6.cell e3 (fun f => f)⟩
        have HI7 : Hid (TextsIn w6 ao l) := HI6
        clear hw6 HI HI6
        have kw6 := hK.step0 k6
        go_wp2_with fail
        refine (rrising_any w6 ao cap l hlm HS.out HI7.out).mono ?_
        rw [hR]
        rintro e w7 ⟨rfl, hw7⟩
        have k7 := keepN hw7
        clear hw7
        go_wp2
        go_ret
        exact ⟨rfl, kw6.step0 k7⟩
  · exact rises_great ao l.length cap m w hl
end Go.Proofs.Ytfbcifdliofmiaa
