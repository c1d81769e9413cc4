/-
  The walk of the law VectorJoins, out of what package vector's functions answer (VecCode) and of the document's own answers.
  Conditions: none beyond that the arguments can be read as data.
-/
import Derived.Test.YtkfilkbmdnneoaaLaw10
namespace Go.Proofs.Ytkfilkbmdnneoaa
open Go.RowKit

theorem event_ok {l : List En} (s : ByteArray) (h : Ok10 l) : Ok10 (vEvent l s).1 := by
  by_cases h0 : (vEvent l s).2 = 0
  · obtain ⟨h1, h2, h3, h4, h5, h6⟩ := event_zero h0
    have hc := ((check_zero _).1 h2).1
    refine ⟨by omega, fun x hx => ⟨by have := (h4.1 x hx).2.1; unfold maxLen; omega, ?_⟩⟩
    rw [← count_mem h4 x hx, h6]
    have hlt := count_lt (fun y hy => (h.2 y hy).2) x.a
    split
    · rename_i e
      rw [← e] at hlt ⊢
      omega
    · exact hlt
  · rw [event_bad h0]
    exact ⟨by simp, fun x hx => by cases hx⟩
theorem most_lt : ∀ {ls : List (List En)}, (∀ l ∈ ls, ∀ x ∈ l, x.n < 18446744073709551616) → ∀ z, most ls z < 18446744073709551616
  | [], _, _ => by rw [most]; decide
  | v :: l, h, z => by
    have h1 := count_lt (h v List.mem_cons_self) z
    have h2 := most_lt (fun m hm => h m (List.mem_cons_of_mem _ hm)) z
    rw [most]
    omega
theorem join_ok {ls : List (List En)} (h : ∀ l ∈ ls, Ok10 l) : Ok10 (vJoin ls).1 := by
  by_cases h0 : (vJoin ls).2 = 0
  · obtain ⟨h1, h2, h3, h4, h5⟩ := join_zero h0
    have hc := ((check_zero _).1 h3).1
    refine ⟨by omega, fun x hx => ⟨by have := (h4.1 x hx).2.1; unfold maxLen; omega, ?_⟩⟩
    rw [← count_mem h4 x hx, h5]
    exact most_lt (fun l hl y hy => ((h l hl).2 y hy).2) _
  · rw [join_bad h0]
    exact ⟨by simp, fun x hx => by cases hx⟩
set_option maxRecDepth 100000 in
set_option maxHeartbeats 8000000 in
theorem vectorJoins_great (V : VecCode) (w : World) (ao : Option Addr) (cap n : Nat) (hn : n ≤ maxLen) (s : ByteArray) (hs : s.size ≤ maxLen) (h : ¬ (n ≤ 6 ∧ s.size ≤ 100)) :
    Calls Try.prog 4 #[.slice ao n cap, .string s] w fun e w' => e = .returned (.bool true) ∧ Keep0 w w' := by
  have i0 : (s.size : Int) ≤ 9223372036854775807 := by unfold maxLen at hs; omega
  have i1 : (n : Int) ≤ 9223372036854775807 := by unfold maxLen at hn; omega
  by_cases h1 : (6 : Int) < n
  · clear h
    go_enter Try.func4, Try.ntmps4
    go_wp2_with fail
    refine (awake10 V w).mono ?_
    rintro e w1 ⟨rfl, k1⟩
    go_wp2
    go_ret
    exact ⟨rfl, k1⟩
  · have h2 : (100 : Int) < s.size := by omega
    clear h
    go_enter Try.func4, Try.ntmps4
    go_wp2_with fail
    refine (awake10 V w).mono ?_
    rintro e w1 ⟨rfl, k1⟩
    go_wp2
    go_ret
    exact ⟨rfl, k1⟩
set_option maxRecDepth 100000 in
set_option maxHeartbeats 8000000 in
theorem vectorJoins_small (V : VecCode) (w : World) (ao : Option Addr) (cap : Nat) (ls : List (List En)) (hl : ls.length ≤ 6) (hf : ∀ l ∈ ls, Fits l) (hc : VecsAt w ao ls) (s : ByteArray) (hs : s.size ≤ 100) :
    Calls Try.prog 4 #[.slice ao ls.length cap, .string s] w fun e w' => e = .returned (.bool true) ∧ Keep0 w w' := by
  have HC : Hid (VecsAt w ao ls) := hc
  have HF : Hid (∀ l ∈ ls, Fits l) := hf
  have hsm : s.size ≤ maxLen := by unfold maxLen; omega
  have i0 : (s.size : Int) ≤ 9223372036854775807 := by omega
  have i00 : ¬ (100 : Int) < s.size := by omega
  have i01 : ¬ (6 : Int) < ls.length := by omega
  have i02 : (ls.length : Int) ≤ 9223372036854775807 := by omega
  have HL : Hid (ls.length ≤ 6) := hl
  clear hc hf hl hs
  go_enter Try.func4, Try.ntmps4
  go_wp2_with fail
  refine (awake10 V w).mono ?_
  rintro e w1 ⟨rfl, K1⟩
  go_wp2_with fail
  go_loopw [5] (fun i wr => ∃ (k : Nat), i = .int .i64 (k : Int) ∧ k ≤ ls.length ∧ Hid (∀ q (_ : q < ls.length), q < k → ls[q].length ≤ 100) ∧ Keep0 w wr) (fun i _ => ls.length - (intOf i).toNat)
  case atStart => exact ⟨0, rfl, by omega, (fun q _ h => by omega), K1⟩
  case round =>
    obtain ⟨k, rfl, hk, HQ, hK⟩ := hrel
    clear K1
    by_cases hlt : k < ls.length
    · have i1 : (k : Int) < ls.length := by omega
      obtain ⟨b, off, bo, c, rfl, x0, x1⟩ := HC.out k hlt
      have hfk := HF.out ls[k] (List.getElem_mem hlt)
      have y0 := hK.cell x0 (fun f => f)
      have yg := rgreat10 wr bo c ls[k] hfk (x1.keep0 hK)
      have HX : Hid (EnsAt w bo ls[k]) := x1
      have HX0 : Hid (w.cell? ⟨b, off + k, none⟩ = some (.slice bo ls[k].length c)) := x0
      cases hg : vGreat ls[k] with
      | true =>
        rw [hg] at yg
        generalize ls[k].length = LL at *
        clear x0 x1
        go_wp2_with fail
        refine yg.mono ?_
        rintro e w' ⟨rfl, rfl⟩
        go_wp2
        go_ret
        exact ⟨rfl, hK⟩
      | false =>
        rw [hg] at yg
        have h100 := (great_no hg).1
        have ok : Ok10 ls[k] := ⟨by omega, hfk.2⟩
        have HN : Hid (∀ q (_ : q < ls.length), q < k + 1 → ls[q].length ≤ 100) := by
          intro q hq hlt'
          by_cases e : q = k
          · subst e; exact h100
          · exact HQ.out q hq (by omega)
        have yv := fun W (K : Keep0 w W) => V.event W bo c ls[k] ok (HX.out.keep0 K) s hsm
        have yr := fun W (K : Keep0 w W) => revent10 W bo c ls[k] (by omega) hfk.2 (HX.out.keep0 K) s hsm
        have okE := event_ok s ok
        generalize ls[k] = L at *
        have hsame : vSame (vEvent L s).1 (vEvent L s).1 = true := vSame_iff.2 rfl
        generalize hE1 : (vEvent L s).1 = E1 at *
        generalize hE2 : (vEvent L s).2 = E2 at *
        obtain ⟨EV, hEV⟩ : ∃ EV, vEvent L s = EV := ⟨_, rfl⟩
        rw [hEV] at yv yr hE1 hE2
        clear x0 x1 hg hfk HQ h100 hEV
        have hEl : (E1.length : Int) ≤ 9223372036854775807 := by have := okE.1; omega
        go_wp2_with fail
        refine yg.mono ?_
        rintro e w' ⟨rfl, rfl⟩
        clear yg
        have yv := yv _ hK
        go_wp2_with fail
        refine yv.mono ?_
        rintro e w2 ⟨vo, vc, rfl, v1, v2, k2⟩
        rw [hE1] at v1
        rw [hE1, hE2]
        have K2 := hK.trans k2
        have z0 := K2.cell HX0.out (fun f => f)
        have yr := yr _ K2
        clear yv v2 k2 hK y0
        go_wp2_with fail
        refine yr.mono ?_
        rintro e w3 ⟨ro, rc, rfl, r1, r2, k3⟩
        rw [hE1] at r1
        rw [hE1, hE2]
        have v3 := v1.keep0 k3
        have K3 := K2.trans k3
        have ys := V.same w3 vo ro vc rc E1 E1 okE okE v3 r1
        rw [hsame] at ys
        clear yr r2 k3 K2 z0 v1
        go_wp2_with fail
        refine ys.mono ?_
        rintro e w4 ⟨rfl, k4⟩
        have K4 := K3.trans k4
        have ys2 := rsame10 w4 vo ro vc rc E1 E1 okE.len okE.len (v3.keep0 k4) (r1.keep0 k4)
        rw [hsame] at ys2
        clear ys k4 K3 v3 r1
        go_wp2_with fail
        refine ys2.mono ?_
        rintro e w5 ⟨rfl, hw5⟩
        have K5 := K4.trans (keepN hw5)
        clear ys2 hw5 K4
        go_wp2
        go_roundw
        case rel => exact ⟨k + 1, by go_num, by omega, HN, K5⟩
        case measure => simp [intOf]; omega
    · have i1 : ¬ (k : Int) < ls.length := by omega
      have hok : ∀ l ∈ ls, Ok10 l := by
        intro l hl
        obtain ⟨q, hq, rfl⟩ := List.mem_iff_getElem.1 hl
        exact ⟨by have := HQ.out q hq (by omega); omega, (HF.out _ (List.getElem_mem hq)).2⟩
      have hl6 := HL.out
      have yv := V.join wr ao cap ls (by omega) hok (HC.out.keep0 hK)
      have yr := fun W (K : Keep0 w W) => rjoin10 W ao cap ls (by omega) HF.out (HC.out.keep0 K)
      have okE := join_ok hok
      have hsame : vSame (vJoin ls).1 (vJoin ls).1 = true := vSame_iff.2 rfl
      generalize hE1 : (vJoin ls).1 = E1 at *
      generalize hE2 : (vJoin ls).2 = E2 at *
      obtain ⟨EV, hEV⟩ : ∃ EV, vJoin ls = EV := ⟨_, rfl⟩
      rw [hEV] at yv yr hE1 hE2
      clear HQ hok hEV
      go_wp2_with fail
      refine yv.mono ?_
      rintro e w2 ⟨vo, vc, rfl, v1, v2, k2⟩
      rw [hE1] at v1
      rw [hE1, hE2]
      have K2 := hK.trans k2
      have yr := yr _ K2
      clear yv v2 k2 hK
      go_wp2_with fail
      refine yr.mono ?_
      rintro e w3 ⟨ro, rc, rfl, r1, r2, k3⟩
      rw [hE1] at r1
      rw [hE1, hE2]
      have v3 := v1.keep0 k3
      have K3 := K2.trans k3
      have ys := rsame10 w3 vo ro vc rc E1 E1 okE.len okE.len v3 r1
      rw [hsame] at ys
      clear yr r2 k3 K2 v1
      go_wp2_with fail
      refine ys.mono ?_
      rintro e w4 ⟨rfl, hw4⟩
      have K4 := K3.trans (keepN hw4)
      clear ys hw4 K3 v3 r1
      go_wp2
      go_ret
      exact ⟨by simp, K4⟩
theorem vectorJoins_law (V : VecCode) (w : World) (ao : Option Addr) (cap : Nat) (ls : List (List En)) (hl : ls.length ≤ maxLen) (hf : ∀ l ∈ ls, Fits l) (hc : VecsAt w ao ls) (s : ByteArray) (hs : s.size ≤ maxLen) :
    Calls Try.prog 4 #[.slice ao ls.length cap, .string s] w fun e w' => e = .returned (.bool true) ∧ Keep0 w w' := by
  by_cases h : ls.length ≤ 6 ∧ s.size ≤ 100
  · exact vectorJoins_small V w ao cap ls h.1 hf hc s h.2
  · exact vectorJoins_great V w ao cap _ hl s hs h
end Go.Proofs.Ytkfilkbmdnneoaa
