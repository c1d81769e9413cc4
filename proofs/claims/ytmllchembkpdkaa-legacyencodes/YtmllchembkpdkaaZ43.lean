/-
  What this seat's claims lean on of the texts Decodes17.
  Conditions: as each theorem states.
-/
import Derived.WalkKit
import Derived.ProofKit
import Derived.Below
import Derived.Deep.Draws
import Derived.Deep.RegionHeld
import Derived.Test.YtmllchembkpdkaaChecked
import Derived.OpenShut
import Derived.ShutString
import Derived.WalkSpells
import Derived.WalkLawsBesides
import Derived.Deep.QuietTactic
import Derived.BigQuiet
import Derived.Laws.Bits64b
import Derived.PlainAid
import Derived.Lib.AppendStr
import Derived.Deep.AppendLies
import Derived.Laws.IdiomStrings
import Derived.Laws.BytesArg
import Derived.Deep.RegionWith
import Derived.Laws.AppendOwn
import Derived.Deep.DeepAppendWide
import Derived.Deep.Upon
import Derived.Maps.AppendAt
import Derived.Deep.Slices
import Derived.Laws.Rows
import Derived.Test.YtmllchembkpdkaaZ39
namespace Go.Proofs.Ytmllchembkpdkaa
open Go.RowKit
theorem okOl_ok17 {o : Ol} (h : okOl o) {L : List Po} (hL : L.map Po.x = o.l) : Ok17 o.key L := by
  obtain ⟨h1, h2, _⟩ := olCheck_zero.1 h.1
  obtain ⟨_, h3, _, h4⟩ := outS_zero.1 h1
  have hl : L.length = o.l.length := by rw [← hL, List.length_map]
  have hm : ∀ p ∈ L, okOs p.x := fun p hp => by
    have hm : p.x ∈ o.l := by rw [← hL]; exact List.mem_map.2 ⟨p, hp, rfl⟩
    exact okOs_U.2 ⟨h2 _ hm, h.2 _ hm⟩
  refine ⟨by omega, by omega, fun p hp => ?_, fun p hp => ?_⟩
  · have := ((check_zero _).1 (hm p hp).1.1).1
    exact ⟨by omega, okOs_fit (hm p hp)⟩
  · have := (hm p hp).2
    omega
theorem decL_ok (s : ByteArray) {L : List Po} (hL : L.map Po.x = (decL s).1.l) : Ok17 (decL s).1.key L := by
  by_cases h : (decL s).2 = 0
  · exact okOl_ok17 (ol_codec.dec_zero (z := zOl) h).1 hL
  · have e : (decL s).1 = zOl := dec_no h
    rw [e] at hL ⊢
    have : L = [] := List.map_eq_nil_iff.1 hL
    subst this
    exact ⟨Nat.zero_le _, Nat.zero_le _, (fun p hp => by cases hp), (fun p hp => by cases hp)⟩
set_option maxRecDepth 100000 in
set_option maxHeartbeats 8000000 in
theorem legacyDecodes_law (V : OlCode) (w : World) (s : ByteArray) (hs : s.size ≤ maxLen) :
    Calls Try.prog 4 #[.string s] w fun e w' => e = .returned (.bool true) ∧ Keep0 w w' := by
  by_cases hl : (s.size : Int) ≤ 3000
  case neg =>
    have i0 : (s.size : Int) ≤ 9223372036854775807 := by unfold maxLen at hs; omega
    have i1 : (3000 : Int) < s.size := by omega
    go_enter Try.func4, Try.ntmps4
    go_wp2_with fail
    refine (awake17 V w).mono ?_
    rintro e w1 ⟨rfl, K1⟩
    go_wp2
    go_ret
    exact ⟨rfl, K1⟩
  have i0 : (s.size : Int) ≤ 9223372036854775807 := by omega
  have i1 : ¬ (3000 : Int) < s.size := by omega
  have HS : Hid (s.size ≤ 3000) := by show _ ≤ _; omega
  have HOK : Hid (∀ L : List Po, L.map Po.x = (decL s).1.l → Ok17 (decL s).1.key L) := fun L hL => decL_ok s hL
  have hz : (decL s).2 = 0 → okOl (decL s).1 ∧ eOl (decL s).1 = s := ol_codec.dec_zero (z := zOl)
  obtain ⟨⟨D, E⟩, hDE⟩ : ∃ D, decL s = D := ⟨_, rfl⟩
  rw [hDE] at HOK hz
  have HOK : Hid (∀ L : List Po, L.map Po.x = D.l → Ok17 D.key L) := HOK
  have hz : E = 0 → okOl D ∧ eOl D = s := hz
  have yd : ∀ W, Calls Try.prog 17 #[.string s] W fun e w' => ∃ ao cap L, e = .returned (.tuple #[.agg #[.string D.key, .slice ao L.length cap], .int .i64 E]) ∧ L.map Po.x = D.l ∧ L.length ≤ cap ∧ cap ≤ maxLen ∧ PosAt w' ao L ∧ Keep0 W w' := by
    intro W
    have := V.decode W s (by have := HS.out; omega)
    rw [hDE] at this
    exact this
  have yr : ∀ W, Calls Try.prog 18 #[.string s] W fun e w' => ∃ ao cap L, e = .returned (.tuple #[.agg #[.string D.key, .slice ao L.length cap], .int .i64 E]) ∧ L.map Po.x = D.l ∧ L.length ≤ cap ∧ cap ≤ maxLen ∧ PosAt w' ao L ∧ Keep0 W w' := by
    intro W
    have := rdecode17 W s hs
    rw [hDE] at this
    exact this
  have hcase : E ≠ 0 ∨ (E = 0 ∧ encL D = (s, 0) ∧ olCheck D = 0) := by
    by_cases h0 : E = 0
    · obtain ⟨h1, h2⟩ := hz h0
      refine .inr ⟨h0, ?_, h1.1⟩
      unfold encL
      rw [if_pos h1.1, h2, if_pos (by omega)]
    · exact .inl h0
  have HL : ∀ L : List Po, Ok17 D.key L → D.key.size ≤ maxLen ∧ L.length ≤ maxLen ∧ ∀ p ∈ L, FitsOs p.x := fun L h => ⟨by have := h.key; unfold maxLen; omega, by have := h.len; unfold maxLen; omega, fun p hp => (h.sib p hp).2⟩
  clear hDE hz
  go_enter Try.func4, Try.ntmps4
  go_wp2_with fail
  refine (awake17 V w).mono ?_
  rintro e w1 ⟨rfl, K1⟩
  go_wp2_with fail
  refine (yd w1).mono ?_
  rintro e w2 ⟨ao, cap, L1, rfl, hL1, hc1, hm1, x1, k2⟩
  have K2 := K1.trans k2
  have kB : Keep0 w2 (w2.alloc (.cells #[.string D.key, .slice ao L1.length cap] 24)) := (Keep.refl _ _).alloc _
  have hX := DAt.new w2 24 (.string D.key) (.slice ao L1.length cap)
  have x1 := x1.keep0 kB
  have K3 := K2.trans kB
  have o1 := HOK.out L1 hL1
  obtain ⟨q1, q2, q3⟩ := HL L1 o1
  have HX1 : Hid (L1.map Po.x = D.l ∧ L1.length ≤ cap ∧ cap ≤ maxLen ∧ Ok17 D.key L1) := ⟨hL1, hc1, hm1, o1⟩
  have HQ1 : Hid (L1.length ≤ maxLen ∧ ∀ p ∈ L1, FitsOs p.x) := ⟨q2, q3⟩
  have HQK : Hid (D.key.size ≤ maxLen) := q1
  clear K1 k2 yd K2 kB hL1 hc1 hm1 o1 q1 q2 q3
  go_wp2_with fail
  generalize (w2.alloc (.cells #[.string D.key, .slice ao L1.length cap] 24)) = w3 at *
  obtain ⟨g1, hg1⟩ : ∃ g1, w2.heap.size = g1 := ⟨_, rfl⟩
  rw [hg1] at hX ⊢
  clear hg1
  refine (yr w3).mono ?_
  rintro e w4 ⟨bo, cb, L2, rfl, hL2, hc2, hm2, y1, k4⟩
  have K4 := K3.trans k4
  have kC : Keep0 w4 (w4.alloc (.cells #[.string D.key, .slice bo L2.length cb] 24)) := (Keep.refl _ _).alloc _
  have hZ := DAt.new w4 24 (.string D.key) (.slice bo L2.length cb)
  have hX := (hX.keep0 k4).keep0 kC
  have x1 := (x1.keep0 k4).keep0 kC
  have y1 := y1.keep0 kC
  have K5 := K4.trans kC
  have o2 := HOK.out L2 hL2
  obtain ⟨_, q2, q3⟩ := HL L2 o2
  have ys := rsame17 _ D.key ao cap L1 HQ1.out.1 HQ1.out.2 x1 D.key bo cb L2 q2 q3 y1
  have hsm : olSame ⟨D.key, L1.map Po.x⟩ ⟨D.key, L2.map Po.x⟩ = true := olSame_iff.2 (by rw [HX1.out.1, hL2])
  rw [hsm] at ys
  clear K3 k4 yr K4 kC hL2 hc2 hm2 o2 q2 q3 hsm HL
  obtain ⟨a0, a1, af0, af1⟩ := hX.cells
  obtain ⟨b0, b1, bf0, bf1⟩ := hZ.cells
  go_wp2_with fail
  generalize (w4.alloc (.cells #[.string D.key, .slice bo L2.length cb] 24)) = w5 at *
  generalize w4.heap.size = g2 at *
  refine ys.mono ?_
  rintro e w6 ⟨rfl, k6⟩
  have K6 := K5.trans k6
  have hX6 := hX.keep0 k6
  have x6 := x1.keep0 k6
  clear K5 k6 y1 b0 b1 bf0 bf1 ys hX hZ x1 a0 a1 af0 af1
  obtain ⟨a0, a1, af0, af1⟩ := hX6.cells
  clear hX6
  rcases hcase with h0 | ⟨h0, hen, hck⟩
  · have e0 : (E != 0) = true := by simpa using h0
    have e1 : ¬ E = 0 := h0
    clear h0
    go_wp2
    go_ret
    exact ⟨rfl, K6⟩
  subst h0
  have ye := V.encode w6 D.key ao cap L1 HX1.out.2.2.2 HX1.out.2.1 HX1.out.2.2.1 x6
  have yc := fun W (K : Keep0 w6 W) => rcheck17 W D.key HQK.out ao cap L1 HQ1.out.1 HQ1.out.2 (x6.keep0 K)
  have hD : (⟨D.key, L1.map Po.x⟩ : Ol) = D := by rw [HX1.out.1]
  rw [hD] at yc ye
  rw [hen] at ye
  rw [hck] at yc
  clear hen hck hD x6
  go_wp2_with fail
  refine ye.mono ?_
  rintro e w10 ⟨rfl, k10⟩
  have K10 := K6.trans k10
  have yc := yc _ k10
  replace a0 := k10.cell a0 (fun f => f)
  replace a1 := k10.cell a1 (fun f => f)
  clear K6 k10 ye af0 af1
  go_wp2_with fail
  refine yc.mono ?_
  rintro e w11 ⟨rfl, k11⟩
  have K11 := K10.trans k11
  clear K10 k11 yc
  go_wp2
  go_ret
  exact ⟨by simp, K11⟩
end Go.Proofs.Ytmllchembkpdkaa
