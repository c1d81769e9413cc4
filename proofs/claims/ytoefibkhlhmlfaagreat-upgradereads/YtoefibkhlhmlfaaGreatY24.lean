/-
  What this seat's claims lean on of the texts VecC, DtChk.
  Conditions: as each theorem states.
-/
import Derived.Test.YtoefibkhlhmlfaaGreatChecked
import Derived.WalkKit
import Derived.ProofKit
import Derived.Below
import Derived.Deep.Draws
import Derived.Deep.RegionHeld
import Derived.OpenShut
import Derived.ShutString
import Derived.WalkSpells
import Derived.WalkLawsBesides
import Derived.Deep.QuietTactic
import Derived.BigQuiet
import Derived.Deep.Slices
import Derived.Laws.Bits64b
import Derived.PlainAid
import Derived.Lib.AppendStr
import Derived.Deep.AppendLies
import Derived.Laws.IdiomStrings
import Derived.Laws.BytesArg
import Derived.Deep.RegionWith
import Derived.Laws.AppendOwn
import Derived.Deep.DeepAppendWide
import Derived.Deep.Upon
import Derived.Test.YtoefibkhlhmlfaaGreatY21
import Derived.Test.YtoefibkhlhmlfaaGreatY12
namespace Go.Proofs.YtoefibkhlhmlfaaGreat
open Go.RowKit
set_option maxRecDepth 100000 in
theorem equal10 (w : World) (ao bo : Option Addr) (ca cb : Nat) (l m : List En) (hl : l.length ≤ maxLen) (hm : m.length ≤ maxLen) (ha : EnsAt w ao l) (hb : EnsAt w bo m) :
    Calls Tryz.prog 159 #[.slice ao l.length ca, .slice bo m.length cb] w fun e w' => e = .returned (.bool (vSame l m)) ∧ ∃ n, w' = w.drewN n := by
  have HA : Hid (EnsAt w ao l) := ha
  have HB : Hid (EnsAt w bo m) := hb
  have hl' : (l.length : Int) ≤ 9223372036854775807 := by unfold maxLen at hl; omega
  have hm' : (m.length : Int) ≤ 9223372036854775807 := by unfold maxLen at hm; omega
  clear ha hb
  by_cases he : l.length = m.length
  · obtain ⟨r, hr⟩ : ∃ r, vSame l m = r := ⟨_, rfl⟩
    rw [hr]
    have HR : Hid (vSame (l.drop 0) (m.drop 0) = r) := hr
    have HE : Hid (l.length = m.length) := he
    have i0 : ((l.length : Int) != (m.length : Int)) = false := by simp [he]
    clear hr he
    go_enter Tryz.func159, Tryz.ntmps159
    go_wp2_with fail
    go_loopw [13] (fun i wr => ∃ (k : Nat), i = .int .i64 (k : Int) ∧ k ≤ l.length ∧ Hid (vSame (l.drop k) (m.drop k) = r) ∧ ∃ n, wr = w.drewN n) (fun i _ => l.length - (intOf i).toNat)
    case atStart => exact ⟨0, rfl, by omega, HR, 0, rfl⟩
    case round =>
      obtain ⟨k, rfl, hk, HK, hWr⟩ := hrel
      have kr := keepN hWr
      have HW : Hid (∃ n, wr = w.drewN n) := hWr
      have he := HE.out
      clear hWr
      by_cases hlt : k < l.length
      · have i1 : (k : Int) < l.length := by omega
        have i2 : (k : Int) < m.length := by omega
        have hkm : k < m.length := by omega
        obtain ⟨b1, o1, rfl, p0, p1⟩ := HA.out k hlt
        obtain ⟨b2, o2, rfl, q0, q1⟩ := HB.out k hkm
        have x0 := kr.cell p0 (fun f => f)
        have x1 := kr.cell p1 (fun f => f)
        have y0 := kr.cell q0 (fun f => f)
        have y1 := kr.cell q1 (fun f => f)
        clear p0 p1 q0 q1
        have hd := HK.out
        rw [same_drop hlt hkm] at hd
        by_cases h1 : l[k].a = m[k].a
        · by_cases h2 : l[k].n = m[k].n
          · rw [if_pos ⟨h1, h2⟩] at hd
            have HD : Hid (vSame (l.drop (k + 1)) (m.drop (k + 1)) = r) := hd
            rw [← h1] at y0
            rw [← h2] at y1
            generalize l[k].a = A at *
            generalize l[k].n = N at *
            clear hd HK kr he h1 h2 HA HB
            go_wp2_with fail
            go_quiet (fail)
            go_wp2
            go_roundw
            case rel => exact ⟨k + 1, by go_num, by omega, HD, drewN_on HW.out _⟩
            case measure => simp [intOf]; omega
          · rw [if_neg (fun h => h2 h.2)] at hd
            have HD : Hid (false = r) := hd
            rw [← h1] at y0
            have e2 : ((l[k].n : Int) == (m[k].n : Int)) = false := by simp; omega
            have e3 : ¬ ((l[k].n : Int) = (m[k].n : Int)) := by omega
            generalize l[k].a = A at *
            generalize (l[k].n : Int) = N at *
            generalize (m[k].n : Int) = M at *
            clear hd HK kr he h1 h2 HA HB
            go_wp2_with fail
            go_quiet (fail)
            go_wp2
            go_ret
            exact ⟨by rw [← HD.out]; rfl, drewN_on HW.out _⟩
        · rw [if_neg (fun h => h1 h.1)] at hd
          have HD : Hid (false = r) := hd
          obtain ⟨e2, e3, e4⟩ := txt_ne h1
          generalize l[k].a = A at *
          generalize m[k].a = A2 at *
          generalize (l[k].n : Int) = N at *
          generalize (m[k].n : Int) = M at *
          clear hd HK kr he HA HB
          go_wp2_with fail
          go_quiet (fail)
          go_wp2
          go_ret
          exact ⟨by rw [← HD.out]; rfl, drewN_on HW.out _⟩
      · have i1 : ¬ (k : Int) < l.length := by omega
        have hd := HK.out
        rw [List.drop_eq_nil_of_le (by omega), List.drop_eq_nil_of_le (by omega)] at hd
        have HD : Hid (true = r) := hd
        clear hd HK kr he
        go_wp2
        go_ret
        exact ⟨by rw [← HD.out]; rfl, HW.out⟩
  · rw [vSame_len he]
    have i0 : ((l.length : Int) != (m.length : Int)) = true := by simp; omega
    go_enter Tryz.func159, Tryz.ntmps159
    go_wp2
    go_ret
    exact ⟨rfl, 0, rfl⟩
set_option maxRecDepth 100000 in
theorem same10 (w : World) (ao bo : Option Addr) (ca cb : Nat) (l m : List En) (hl : Ok10 l) (hm : Ok10 m) (ha : EnsAt w ao l) (hb : EnsAt w bo m) :
    Calls Tryz.prog 120 #[.slice ao l.length ca, .slice bo m.length cb] w fun e w' => e = .returned (.bool (vSame l m)) ∧ Keep0 w w' := by
  have y := equal10 w ao bo ca cb l m hl.len hm.len ha hb
  generalize vSame l m = r at *
  go_enter Tryz.func120, Tryz.ntmps120
  go_wp2_with fail
  refine y.mono ?_
  rintro e w1 ⟨rfl, hw1⟩
  have K1 := keepN hw1
  clear y hw1
  go_wp2
  go_ret
  exact ⟨rfl, K1⟩
end Go.Proofs.YtoefibkhlhmlfaaGreat
namespace Go.Proofs.YtoefibkhlhmlfaaGreat
open Go.RowKit
structure Ok12 (k : Ck) : Prop where
  len : k.c.length ≤ 10000
  fit : FitsK k
set_option maxRecDepth 100000 in
set_option maxHeartbeats 4000000 in
theorem checkDot12 (w : World) (ao : Option Addr) (cap : Nat) (c : List En) (a : ByteArray) (n : Nat) (ok : Ok10 c) (hm : a.size ≤ maxLen) (hc : EnsAt w ao c) :
    Calls Tryz.prog 142 #[.agg #[.slice ao c.length cap, .bool true, .string a, .int .u64 (n : Int)]] w fun e w' => e = .returned (.int .i64 (kDot ⟨c, true, ⟨a, n⟩⟩)) ∧ Keep0 w w' := by
  have i2 : (a.size : Int) ≤ 9223372036854775807 := by unfold maxLen at hm; omega
  obtain ⟨r, hr⟩ : ∃ r, kDot ⟨c, true, ⟨a, n⟩⟩ = r := ⟨_, rfl⟩
  rw [hr]
  have kQ : ∀ o1 o2, Keep0 w ((w.alloc o1).alloc o2) := fun o1 o2 => ((Keep.refl _ w).alloc o1).alloc o2
  by_cases h1 : 32 < a.size
  · have HD : Hid ((3 : Int) = r) := by show _ = r; rw [← hr]; exact (dot_3 (k := ⟨c, true, ⟨a, n⟩⟩) rfl h1).symm
    have i3 : (32 : Int) < a.size := by omega
    clear h1
    clear hc ok hm hr
    generalize c.length = CL at *
    go_enter Tryz.func142, Tryz.ntmps142
    go_wp2
    go_ret
    exact ⟨by rw [← HD.out]; rfl, kQ _ _⟩
  have i3 : ¬ (32 : Int) < a.size := by omega
  by_cases h2 : a.size = 0
  · have HD : Hid ((14 : Int) = r) := by show _ = r; rw [← hr]; exact (dot_14 (k := ⟨c, true, ⟨a, n⟩⟩) rfl h2).symm
    have ea := empty_eq12 h2
    subst ea
    clear h1 h2 i3 i2
    clear hc ok hm hr
    generalize c.length = CL at *
    go_enter Tryz.func142, Tryz.ntmps142
    go_wp2
    go_ret
    exact ⟨by rw [← HD.out]; rfl, kQ _ _⟩
  have e1 := empty_ne12 h2
  by_cases h3 : n = 0
  · have HD : Hid ((7 : Int) = r) := by show _ = r; rw [← hr]; exact (dot_7 (k := ⟨c, true, ⟨a, n⟩⟩) rfl h1 h2 h3).symm
    subst h3
    clear h1 h2
    clear hc ok hm hr
    generalize c.length = CL at *
    go_enter Tryz.func142, Tryz.ntmps142
    go_wp2
    go_ret
    exact ⟨by rw [← HD.out]; rfl, kQ _ _⟩
  have i6 : ((n : Int) == 0) = false := beq_eq_false_iff_ne.2 (by omega)
  have i7 : ¬ (n : Int) = 0 := by omega
  have kA : Keep0 w (w.alloc (.cells #[.slice ao c.length cap, .bool true, .string a, .int .u64 (n : Int)] 58)) := (Keep.refl _ w).alloc _
  have kB : Keep0 (w.alloc (.cells #[.slice ao c.length cap, .bool true, .string a, .int .u64 (n : Int)] 58)) ((w.alloc (.cells #[.slice ao c.length cap, .bool true, .string a, .int .u64 (n : Int)] 58)).alloc (.cells #[.string a, .int .u64 (n : Int)] 53)) := (Keep.refl _ _).alloc _
  have zA : (w.alloc (.cells #[.slice ao c.length cap, .bool true, .string a, .int .u64 (n : Int)] 58)).heap.size = w.heap.size + 1 := World.size_alloc _ _
  have x0 := kB.cell (clk_new w 58 ⟨c, true, ⟨a, n⟩⟩ ao cap).1 (fun f => f)
  have q0 : ((w.alloc (.cells #[.slice ao c.length cap, .bool true, .string a, .int .u64 (n : Int)] 58)).alloc (.cells #[.string a, .int .u64 (n : Int)] 53)).cell? ⟨w.heap.size + 1, 0, none⟩ = some (.string a) := by rw [← zA]; exact cell_alloc _ 53 rfl
  have q1 : ((w.alloc (.cells #[.slice ao c.length cap, .bool true, .string a, .int .u64 (n : Int)] 58)).alloc (.cells #[.string a, .int .u64 (n : Int)] 53)).cell? ⟨w.heap.size + 1, 1, none⟩ = some (.int .u64 (n : Int)) := by rw [← zA]; exact cell_alloc _ 53 rfl
  have K2 := kA.trans kB
  have yq := fun W (K : Keep0 w W) => count10 W ao cap c ok (hc.keep0 K) a
  clear kA kB zA
  by_cases h4 : n ≤ vCount c a
  · have HD : Hid ((15 : Int) = r) := by show _ = r; rw [← hr]; exact (dot_15 (k := ⟨c, true, ⟨a, n⟩⟩) rfl h1 h2 h3 h4).symm
    have i8 : (n : Int) ≤ (vCount c a : Int) := by omega
    generalize (vCount c a : Int) = VC at *
    clear hc ok hm hr h1 h2 h3 h4 kQ
    generalize c.length = CL at *
    go_enter Tryz.func142, Tryz.ntmps142
    go_wp2_with fail
    generalize ((w.alloc (.cells #[.slice ao CL cap, .bool true, .string a, .int .u64 (n : Int)] 58)).alloc (.cells #[.string a, .int .u64 (n : Int)] 53)) = W0 at *
    generalize w.heap.size = B at *
    refine wp_region_held_drew (S := (fun W => W.cell? ⟨B, 0, none⟩ = some (.slice ao CL cap) ∧ W.cell? ⟨B + 1, 0, none⟩ = some (.string a) ∧ W.cell? ⟨B + 1, 1, none⟩ = some (.int .u64 (n : Int)))) (by kernel_rfl) ⟨x0, q0, q1⟩ (fun hHeld => ?_)
    refine wpAnyH_take (i := 0) (v := ?a0v) (by simp only [List.getElem?_toArray, List.getElem?_cons_zero] <;> rfl) (by kernel_rfl) (by kernel_rfl) (by kernel_rfl) (by exact fun _ _ _ h => h) (Or.inl ⟨by rfl, ?a0y⟩) hHeld ?a0r
    case a0y => intro w hSw; (try dsimp only at hSw); go_simp <;> rfl
    simp only [Act.put, List.setIfInBounds_toArray, List.set_cons_zero, List.set_cons_succ]
    refine wpAnyH_take (i := 1) (v := ?a1v) (by simp only [List.getElem?_toArray, List.getElem?_cons_succ, List.getElem?_cons_zero] <;> rfl) (by kernel_rfl) (by kernel_rfl) (by kernel_rfl) (by exact fun _ _ _ h => h) (Or.inl ⟨by rfl, ?a1y⟩) hHeld ?a1r
    case a1y => intro w hSw; (try dsimp only at hSw); go_simp <;> rfl
    simp only [Act.put, List.setIfInBounds_toArray, List.set_cons_zero, List.set_cons_succ]
    refine wpAnyH_take (i := 2) (v := ?a2v) (by simp only [List.getElem?_toArray, List.getElem?_cons_succ, List.getElem?_cons_zero] <;> rfl) (by kernel_rfl) (by kernel_rfl) (by kernel_rfl) (by exact fun _ _ _ h => h) (Or.inl ⟨by rfl, ?a2y⟩) hHeld ?a2r
    case a2y => intro w hSw; (try dsimp only at hSw); go_simp <;> rfl
    simp only [Act.put, List.setIfInBounds_toArray, List.set_cons_zero, List.set_cons_succ]
    refine wpAnyH_take (i := 3) (v := ?a3v) (by simp only [List.getElem?_toArray, List.getElem?_cons_succ, List.getElem?_cons_zero] <;> rfl) (by kernel_rfl) (by kernel_rfl) (by kernel_rfl) (by exact fun _ _ _ h => h) (Or.inl ⟨by rfl, ?a3y⟩) hHeld ?a3r
    case a3y => intro w hSw; (try dsimp only at hSw); go_simp <;> rfl
    simp only [Act.put, List.setIfInBounds_toArray, List.set_cons_zero, List.set_cons_succ]
    refine wpAnyH_take (i := 4) (v := ?a4v) (by simp only [List.getElem?_toArray, List.getElem?_cons_succ, List.getElem?_cons_zero] <;> rfl) (by kernel_rfl) (by kernel_rfl) (by kernel_rfl) (by exact fun _ _ _ h => h) (Or.inl ⟨by rfl, ?a4y⟩) hHeld ?a4r
    case a4y => intro w hSw; (try dsimp only at hSw); go_simp <;> rfl
    simp only [Act.put, List.setIfInBounds_toArray, List.set_cons_zero, List.set_cons_succ]
    refine wpAnyH_take (i := 5) (v := ?a5v) (by simp only [List.getElem?_toArray, List.getElem?_cons_succ, List.getElem?_cons_zero] <;> rfl) (by kernel_rfl) (by kernel_rfl) (by kernel_rfl) (by exact fun _ _ _ h => h) (Or.inl ⟨by rfl, ?a5y⟩) hHeld ?a5r
    case a5y => intro w hSw; (try dsimp only at hSw); go_simp <;> rfl
    simp only [Act.put, List.setIfInBounds_toArray, List.set_cons_zero, List.set_cons_succ]
    refine wpAnyH_ready (rs := [6]) (by kernel_rfl) (by simp) ?_
    refine AllReadyH.cons (by simp only [List.getElem?_toArray, List.getElem?_cons_succ, List.getElem?_cons_zero] <;> rfl) (fun K hK => ?_) AllReadyH.nil
    go_simp
    refine (yq _ K2.drew).mono ?_
    rintro e w3 ⟨rfl, kx⟩
    have kw3 : Keep0 W0 w3 := ((Keep.refl _ W0).drew).trans kx
    clear kx
    go_wp2_with fail
    refine hK.out _ _ ⟨kw3.cell x0 (fun f => f), kw3.cell q0 (fun f => f), kw3.cell q1 (fun f => f)⟩ (fun hHeld => ?_)
    clear hK K
    refine wpAnyH_take (i := 7) (v := ?a6v) (by simp only [List.getElem?_toArray, List.getElem?_cons_succ, List.getElem?_cons_zero] <;> rfl) (by kernel_rfl) (by kernel_rfl) (by kernel_rfl) (by exact fun _ _ _ h => h) (Or.inl ⟨by rfl, ?a6y⟩) hHeld ?a6r
    case a6y => intro w hSw; (try dsimp only at hSw); go_simp <;> rfl
    simp only [Act.put, List.setIfInBounds_toArray, List.set_cons_zero, List.set_cons_succ]
    refine wpAnyH_take (i := 8) (v := ?a7v) (by simp only [List.getElem?_toArray, List.getElem?_cons_succ, List.getElem?_cons_zero] <;> rfl) (by kernel_rfl) (by kernel_rfl) (by kernel_rfl) (by exact fun _ _ _ h => h) (Or.inl ⟨by rfl, ?a7y⟩) hHeld ?a7r
    case a7y => intro w hSw; (try dsimp only at hSw); go_simp <;> rfl
    simp only [Act.put, List.setIfInBounds_toArray, List.set_cons_zero, List.set_cons_succ]
    refine wpAnyH_done (by kernel_rfl) ?_ _
    have K3 := K2.trans kw3
    clear yq kw3 K2 hHeld x0 q0 q1
    go_wp2
    go_ret
    exact ⟨by rw [← HD.out]; rfl, K3⟩
  · have HD : Hid ((0 : Int) = r) := by show _ = r; rw [← hr]; exact (dot_0 (k := ⟨c, true, ⟨a, n⟩⟩) rfl h1 h2 h3 h4).symm
    have i8 : ¬ (n : Int) ≤ (vCount c a : Int) := by omega
    have i8' : decide ((n : Int) ≤ (vCount c a : Int)) = false := decide_eq_false i8
    generalize (vCount c a : Int) = VC at *
    clear hc ok hm hr h1 h2 h3 h4 kQ
    generalize c.length = CL at *
    go_enter Tryz.func142, Tryz.ntmps142
    go_wp2_with fail
    generalize ((w.alloc (.cells #[.slice ao CL cap, .bool true, .string a, .int .u64 (n : Int)] 58)).alloc (.cells #[.string a, .int .u64 (n : Int)] 53)) = W0 at *
    generalize w.heap.size = B at *
    refine wp_region_held_drew (S := (fun W => W.cell? ⟨B, 0, none⟩ = some (.slice ao CL cap) ∧ W.cell? ⟨B + 1, 0, none⟩ = some (.string a) ∧ W.cell? ⟨B + 1, 1, none⟩ = some (.int .u64 (n : Int)))) (by kernel_rfl) ⟨x0, q0, q1⟩ (fun hHeld => ?_)
    refine wpAnyH_take (i := 0) (v := ?b0v) (by simp only [List.getElem?_toArray, List.getElem?_cons_zero] <;> rfl) (by kernel_rfl) (by kernel_rfl) (by kernel_rfl) (by exact fun _ _ _ h => h) (Or.inl ⟨by rfl, ?b0y⟩) hHeld ?b0r
    case b0y => intro w hSw; (try dsimp only at hSw); go_simp <;> rfl
    simp only [Act.put, List.setIfInBounds_toArray, List.set_cons_zero, List.set_cons_succ]
    refine wpAnyH_take (i := 1) (v := ?b1v) (by simp only [List.getElem?_toArray, List.getElem?_cons_succ, List.getElem?_cons_zero] <;> rfl) (by kernel_rfl) (by kernel_rfl) (by kernel_rfl) (by exact fun _ _ _ h => h) (Or.inl ⟨by rfl, ?b1y⟩) hHeld ?b1r
    case b1y => intro w hSw; (try dsimp only at hSw); go_simp <;> rfl
    simp only [Act.put, List.setIfInBounds_toArray, List.set_cons_zero, List.set_cons_succ]
    refine wpAnyH_take (i := 2) (v := ?b2v) (by simp only [List.getElem?_toArray, List.getElem?_cons_succ, List.getElem?_cons_zero] <;> rfl) (by kernel_rfl) (by kernel_rfl) (by kernel_rfl) (by exact fun _ _ _ h => h) (Or.inl ⟨by rfl, ?b2y⟩) hHeld ?b2r
    case b2y => intro w hSw; (try dsimp only at hSw); go_simp <;> rfl
    simp only [Act.put, List.setIfInBounds_toArray, List.set_cons_zero, List.set_cons_succ]
    refine wpAnyH_take (i := 3) (v := ?b3v) (by simp only [List.getElem?_toArray, List.getElem?_cons_succ, List.getElem?_cons_zero] <;> rfl) (by kernel_rfl) (by kernel_rfl) (by kernel_rfl) (by exact fun _ _ _ h => h) (Or.inl ⟨by rfl, ?b3y⟩) hHeld ?b3r
    case b3y => intro w hSw; (try dsimp only at hSw); go_simp <;> rfl
    simp only [Act.put, List.setIfInBounds_toArray, List.set_cons_zero, List.set_cons_succ]
    refine wpAnyH_take (i := 4) (v := ?b4v) (by simp only [List.getElem?_toArray, List.getElem?_cons_succ, List.getElem?_cons_zero] <;> rfl) (by kernel_rfl) (by kernel_rfl) (by kernel_rfl) (by exact fun _ _ _ h => h) (Or.inl ⟨by rfl, ?b4y⟩) hHeld ?b4r
    case b4y => intro w hSw; (try dsimp only at hSw); go_simp <;> rfl
    simp only [Act.put, List.setIfInBounds_toArray, List.set_cons_zero, List.set_cons_succ]
    refine wpAnyH_take (i := 5) (v := ?b5v) (by simp only [List.getElem?_toArray, List.getElem?_cons_succ, List.getElem?_cons_zero] <;> rfl) (by kernel_rfl) (by kernel_rfl) (by kernel_rfl) (by exact fun _ _ _ h => h) (Or.inl ⟨by rfl, ?b5y⟩) hHeld ?b5r
    case b5y => intro w hSw; (try dsimp only at hSw); go_simp <;> rfl
    simp only [Act.put, List.setIfInBounds_toArray, List.set_cons_zero, List.set_cons_succ]
    refine wpAnyH_ready (rs := [6]) (by kernel_rfl) (by simp) ?_
    refine AllReadyH.cons (by simp only [List.getElem?_toArray, List.getElem?_cons_succ, List.getElem?_cons_zero] <;> rfl) (fun K hK => ?_) AllReadyH.nil
    go_simp
    refine (yq _ K2.drew).mono ?_
    rintro e w3 ⟨rfl, kx⟩
    have kw3 : Keep0 W0 w3 := ((Keep.refl _ W0).drew).trans kx
    clear kx
    go_wp2_with fail
    refine hK.out _ _ ⟨kw3.cell x0 (fun f => f), kw3.cell q0 (fun f => f), kw3.cell q1 (fun f => f)⟩ (fun hHeld => ?_)
    clear hK K
    refine wpAnyH_take (i := 7) (v := ?b6v) (by simp only [List.getElem?_toArray, List.getElem?_cons_succ, List.getElem?_cons_zero] <;> rfl) (by kernel_rfl) (by kernel_rfl) (by kernel_rfl) (by exact fun _ _ _ h => h) (Or.inl ⟨by rfl, ?b6y⟩) hHeld ?b6r
    case b6y => intro w hSw; (try dsimp only at hSw); go_simp <;> rfl
    simp only [Act.put, List.setIfInBounds_toArray, List.set_cons_zero, List.set_cons_succ]
    refine wpAnyH_take (i := 8) (v := ?b7v) (by simp only [List.getElem?_toArray, List.getElem?_cons_succ, List.getElem?_cons_zero] <;> rfl) (by kernel_rfl) (by kernel_rfl) (by kernel_rfl) (by exact fun _ _ _ h => h) (Or.inl ⟨by rfl, ?b7y⟩) hHeld ?b7r
    case b7y => intro w hSw; (try dsimp only at hSw); go_simp <;> rfl
    simp only [Act.put, List.setIfInBounds_toArray, List.set_cons_zero, List.set_cons_succ]
    refine wpAnyH_done (by kernel_rfl) ?_ _
    have K3 := K2.trans kw3
    clear yq kw3 K2 hHeld x0 q0 q1
    go_wp2
    go_ret
    exact ⟨by rw [← HD.out]; rfl, K3⟩
set_option maxRecDepth 100000 in
set_option maxHeartbeats 4000000 in
theorem check12_any (w : World) (ao : Option Addr) (cap : Nat) (c : List En) (d : Bool) (a : ByteArray) (n : Nat) (ok : Ok10 c) (hm : a.size ≤ maxLen) (hc : EnsAt w ao c) :
    Calls Tryz.prog 101 #[.agg #[.slice ao c.length cap, .bool d, .string a, .int .u64 (n : Int)]] w fun e w' => e = .returned (.int .i64 (kCheck ⟨c, d, ⟨a, n⟩⟩)) ∧ Keep0 w w' := by
  obtain ⟨r, hr⟩ : ∃ r, kCheck ⟨c, d, ⟨a, n⟩⟩ = r := ⟨_, rfl⟩
  rw [hr]
  have yz := fun W (K : Keep0 w W) => check10 W ao cap c ok (hc.keep0 K)
  by_cases h0 : vCheck c = 0
  case neg =>
    have HD : Hid (vCheck c = r) := by show _ = r; rw [← hr]; exact (check_bad (k := ⟨c, d, ⟨a, n⟩⟩) h0).symm
    have e0 : (vCheck c != 0) = true := by simpa using h0
    have e1 : ¬ vCheck c = 0 := h0
    clear h0
    have kA : Keep0 w (w.alloc (.cells #[.slice ao c.length cap, .bool d, .string a, .int .u64 (n : Int)] 58)) := (Keep.refl _ w).alloc _
    obtain ⟨x0, x1, x2, x3⟩ : ClkAt (w.alloc (.cells #[.slice ao c.length cap, .bool d, .string a, .int .u64 (n : Int)] 58)) w.heap.size 0 ⟨c, d, ⟨a, n⟩⟩ ao cap := clk_new w 58 ⟨c, d, ⟨a, n⟩⟩ ao cap
    have yc := yz _ kA
    generalize vCheck c = C at *
    clear hr hc ok hm yz
    generalize c.length = CL at *
    go_enter Tryz.func101, Tryz.ntmps101
    go_wp2_with fail
    generalize (w.alloc (.cells #[.slice ao CL cap, .bool d, .string a, .int .u64 (n : Int)] 58)) = W0 at *
    generalize w.heap.size = B at *
    refine yc.mono ?_
    rintro e w1 ⟨rfl, k1⟩
    have y0 := k1.cell x0 (fun f => f)
    have y1 := k1.cell x1 (fun f => f)
    have y2 := k1.cell x2 (fun f => f)
    have y3 := k1.cell x3 (fun f => f)
    have K1 := kA.trans k1
    clear yc k1 kA x0 x1 x2 x3
    go_wp2
    go_ret
    exact ⟨by rw [← HD.out]; rfl, K1⟩
  rw [check_dot (k := ⟨c, d, ⟨a, n⟩⟩) h0] at hr
  rw [h0] at yz
  cases d with
  | false =>
    by_cases h1 : a.size = 0
    · have ea := empty_eq12 h1
      by_cases h2 : n = 0
      · have HD : Hid ((0 : Int) = r) := by show _ = r; rw [← hr]; exact (dot_p0 (k := ⟨c, false, ⟨a, n⟩⟩) rfl h1 h2).symm
        subst ea h2
        clear h1 h0
        have kA : Keep0 w (w.alloc (.cells #[.slice ao c.length cap, .bool false, .string ⟨#[]⟩, .int .u64 0] 58)) := (Keep.refl _ w).alloc _
        obtain ⟨x0, x1, x2, x3⟩ : ClkAt (w.alloc (.cells #[.slice ao c.length cap, .bool false, .string ⟨#[]⟩, .int .u64 0] 58)) w.heap.size 0 ⟨c, false, ⟨⟨#[]⟩, 0⟩⟩ ao cap := clk_new w 58 ⟨c, false, ⟨⟨#[]⟩, 0⟩⟩ ao cap
        have yc := yz _ kA
        clear hr hc ok hm yz
        generalize c.length = CL at *
        go_enter Tryz.func101, Tryz.ntmps101
        go_wp2_with fail
        generalize (w.alloc (.cells #[.slice ao CL cap, .bool false, .string ⟨#[]⟩, .int .u64 0] 58)) = W0 at *
        generalize w.heap.size = B at *
        refine yc.mono ?_
        rintro e w1 ⟨rfl, k1⟩
        have y0 := k1.cell x0 (fun f => f)
        have y1 := k1.cell x1 (fun f => f)
        have y2 := k1.cell x2 (fun f => f)
        have y3 := k1.cell x3 (fun f => f)
        have K1 := kA.trans k1
        clear yc k1 kA x0 x1 x2 x3
        go_wp2
        go_ret
        exact ⟨by rw [← HD.out]; rfl, K1⟩
      · have HD : Hid ((1 : Int) = r) := by show _ = r; rw [← hr]; exact (dot_p1 (k := ⟨c, false, ⟨a, n⟩⟩) rfl (fun e => h2 e.2)).symm
        have j1 : ((n : Int) != 0) = true := by simp; omega
        have j2 : ¬ (n : Int) = 0 := by omega
        have j3 : ((n : Int) == 0) = false := beq_eq_false_iff_ne.2 (by omega)
        subst ea
        clear h1 h0 h2
        have kA : Keep0 w (w.alloc (.cells #[.slice ao c.length cap, .bool false, .string ⟨#[]⟩, .int .u64 (n : Int)] 58)) := (Keep.refl _ w).alloc _
        obtain ⟨x0, x1, x2, x3⟩ : ClkAt (w.alloc (.cells #[.slice ao c.length cap, .bool false, .string ⟨#[]⟩, .int .u64 (n : Int)] 58)) w.heap.size 0 ⟨c, false, ⟨⟨#[]⟩, n⟩⟩ ao cap := clk_new w 58 ⟨c, false, ⟨⟨#[]⟩, n⟩⟩ ao cap
        have yc := yz _ kA
        clear hr hc ok hm yz
        generalize c.length = CL at *
        go_enter Tryz.func101, Tryz.ntmps101
        go_wp2_with fail
        generalize (w.alloc (.cells #[.slice ao CL cap, .bool false, .string ⟨#[]⟩, .int .u64 (n : Int)] 58)) = W0 at *
        generalize w.heap.size = B at *
        refine yc.mono ?_
        rintro e w1 ⟨rfl, k1⟩
        have y0 := k1.cell x0 (fun f => f)
        have y1 := k1.cell x1 (fun f => f)
        have y2 := k1.cell x2 (fun f => f)
        have y3 := k1.cell x3 (fun f => f)
        have K1 := kA.trans k1
        clear yc k1 kA x0 x1 x2 x3
        go_wp2
        go_ret
        exact ⟨by rw [← HD.out]; rfl, K1⟩
    · have HD : Hid ((1 : Int) = r) := by show _ = r; rw [← hr]; exact (dot_p1 (k := ⟨c, false, ⟨a, n⟩⟩) rfl (fun e => h1 e.1)).symm
      have e1 := empty_ne12 h1
      obtain ⟨e2, e3, e4⟩ := txt_ne (show a ≠ ⟨#[]⟩ from fun e => h1 (by rw [e]; rfl))
      clear h1 h0
      have kA : Keep0 w (w.alloc (.cells #[.slice ao c.length cap, .bool false, .string a, .int .u64 (n : Int)] 58)) := (Keep.refl _ w).alloc _
      obtain ⟨x0, x1, x2, x3⟩ : ClkAt (w.alloc (.cells #[.slice ao c.length cap, .bool false, .string a, .int .u64 (n : Int)] 58)) w.heap.size 0 ⟨c, false, ⟨a, n⟩⟩ ao cap := clk_new w 58 ⟨c, false, ⟨a, n⟩⟩ ao cap
      have yc := yz _ kA
      clear hr hc ok hm yz
      generalize c.length = CL at *
      go_enter Tryz.func101, Tryz.ntmps101
      go_wp2_with fail
      generalize (w.alloc (.cells #[.slice ao CL cap, .bool false, .string a, .int .u64 (n : Int)] 58)) = W0 at *
      generalize w.heap.size = B at *
      refine yc.mono ?_
      rintro e w1 ⟨rfl, k1⟩
      have y0 := k1.cell x0 (fun f => f)
      have y1 := k1.cell x1 (fun f => f)
      have y2 := k1.cell x2 (fun f => f)
      have y3 := k1.cell x3 (fun f => f)
      have K1 := kA.trans k1
      clear yc k1 kA x0 x1 x2 x3
      go_wp2
      go_ret
      exact ⟨by rw [← HD.out]; rfl, K1⟩
  | true =>
    have HD : Hid (kDot ⟨c, true, ⟨a, n⟩⟩ = r) := hr
    have yd := fun W (K : Keep0 w W) => checkDot12 W ao cap c a n ok hm (hc.keep0 K)
    clear h0
    have kA : Keep0 w (w.alloc (.cells #[.slice ao c.length cap, .bool true, .string a, .int .u64 (n : Int)] 58)) := (Keep.refl _ w).alloc _
    obtain ⟨x0, x1, x2, x3⟩ : ClkAt (w.alloc (.cells #[.slice ao c.length cap, .bool true, .string a, .int .u64 (n : Int)] 58)) w.heap.size 0 ⟨c, true, ⟨a, n⟩⟩ ao cap := clk_new w 58 ⟨c, true, ⟨a, n⟩⟩ ao cap
    have yc := yz _ kA
    clear hr hc ok hm yz
    generalize c.length = CL at *
    go_enter Tryz.func101, Tryz.ntmps101
    go_wp2_with fail
    generalize (w.alloc (.cells #[.slice ao CL cap, .bool true, .string a, .int .u64 (n : Int)] 58)) = W0 at *
    generalize w.heap.size = B at *
    refine yc.mono ?_
    rintro e w1 ⟨rfl, k1⟩
    have y0 := k1.cell x0 (fun f => f)
    have y1 := k1.cell x1 (fun f => f)
    have y2 := k1.cell x2 (fun f => f)
    have y3 := k1.cell x3 (fun f => f)
    have K1 := kA.trans k1
    have yd := yd w1 K1
    generalize kDot ⟨c, true, ⟨a, n⟩⟩ = Q at *
    clear yc k1 kA x0 x1 x2 x3
    go_wp2_with fail
    refine yd.mono ?_
    rintro e w2 ⟨rfl, k2⟩
    have K2 := K1.trans k2
    clear yd k2 K1
    go_wp2
    go_ret
    exact ⟨by rw [← HD.out]; rfl, K2⟩
theorem Ok12.ok10 {k : Ck} (h : Ok12 k) : Ok10 k.c := ⟨h.len, h.fit.vec.2⟩
theorem check12 (w : World) (ao : Option Addr) (cap : Nat) (k : Ck) (ok : Ok12 k) (hc : EnsAt w ao k.c) :
    Calls Tryz.prog 101 #[.agg #[.slice ao k.c.length cap, .bool k.d, .string k.x.a, .int .u64 (k.x.n : Int)]] w fun e w' => e = .returned (.int .i64 (kCheck k)) ∧ Keep0 w w' :=
  check12_any w ao cap k.c k.d k.x.a k.x.n ok.ok10 ok.fit.dot hc
end Go.Proofs.YtoefibkhlhmlfaaGreat
