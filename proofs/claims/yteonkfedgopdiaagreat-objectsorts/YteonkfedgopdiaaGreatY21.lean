/-
  What this seat's claims lean on of the texts PrA.
  Conditions: as each theorem states.
-/
import Derived.WalkKit
import Derived.ProofKit
import Derived.Below
import Derived.Deep.Draws
import Derived.Deep.RegionHeld
import Derived.Test.YteonkfedgopdiaaGreatChecked
import Derived.OpenShut
import Derived.ShutString
import Derived.WalkSpells
import Derived.WalkLawsBesides
import Derived.Deep.QuietTactic
import Derived.BigQuiet
import Derived.Laws.Bits64b
import Derived.PlainAid
import Derived.Lib.AppendStr
import Derived.Deep.AppendLies
import Derived.Laws.IdiomStrings
import Derived.Laws.BytesArg
import Derived.Deep.RegionWith
import Derived.Laws.AppendOwn
import Derived.Deep.DeepAppendWide
import Derived.Deep.Upon
import Derived.Deep.Slices
import Derived.Test.YteonkfedgopdiaaGreatY19
import Derived.Test.YteonkfedgopdiaaGreatY8
namespace Go.Proofs.YteonkfedgopdiaaGreat
open Go.RowKit
theorem texts_two14 (w : World) (t : TypeId) (a b : ByteArray) : TextsIn (w.alloc (.cells #[.string a, .string b] t)) (some ⟨w.heap.size, 0, none⟩) [a, b] := by
  intro i hi
  have hi : i = 0 ∨ i = 1 := by simp at hi; omega
  rcases hi with rfl | rfl
  · exact ⟨w.heap.size, 0, rfl, cell_alloc w t rfl⟩
  · exact ⟨w.heap.size, 0, rfl, cell_alloc w t rfl⟩
theorem rise_yes14 {a b : ByteArray} (h : bl a b = true) : rise [a, b] = -1 := by
  show (if bl a b = true then riseAt (1 + 1) [b] else 1) = -1
  rw [if_pos h]
  rfl
theorem rise_no14 {a b : ByteArray} (h : bl a b = false) : rise [a, b] = 1 := by
  show (if bl a b = true then riseAt (1 + 1) [b] else 1) = 1
  rw [h]
  rfl
theorem empty_no14 {a : ByteArray} (h : a.size ≠ 0) : a.toList.isEmpty = false := by
  rw [ByteArray.toList_eq]
  cases hb : a.data.toList with
  | nil => exact absurd (by show a.data.size = 0; rw [← Array.length_toList, hb]; rfl) h
  | cons x l => rfl
theorem empty_eq14 {a : ByteArray} (h : a.size = 0) : a = ⟨#[]⟩ := ByteArray.ext (Array.eq_empty_of_size_eq_zero h)
def nmT (p : Option ByteArray) (s : ByteArray) : Int := if 32 < s.size then 3 else if s.size = 0 then 14 else if falls p s = true then 6 else 0
theorem nmT_a {p : Option ByteArray} {s : ByteArray} (h : 32 < s.size) : nmT p s = 3 := if_pos h
theorem nmT_b {p : Option ByteArray} {s : ByteArray} (h : s.size = 0) : nmT p s = 14 := by unfold nmT; rw [if_neg (by omega), if_pos h]
theorem nmT_c {p : Option ByteArray} {s : ByteArray} (h1 : ¬ 32 < s.size) (h2 : s.size ≠ 0) (h3 : falls p s = true) : nmT p s = 6 := by unfold nmT; rw [if_neg h1, if_neg h2, if_pos h3]
theorem nmT_d {p : Option ByteArray} {s : ByteArray} (h1 : ¬ 32 < s.size) (h2 : s.size ≠ 0) (h3 : falls p s = false) : nmT p s = 0 := by unfold nmT; rw [if_neg h1, if_neg h2, h3]; rfl
theorem qOne_n {p : Option ByteArray} {x : Pr} : qOne p x = if nmT p x.n = 0 then (if 32768 < x.v.size then 3 else 0) else nmT p x.n := by
  by_cases h1 : 32 < x.n.size
  · rw [qOne_a h1, nmT_a h1]; rfl
  by_cases h2 : x.n.size = 0
  · rw [qOne_b h2, nmT_b h2]; rfl
  cases h3 : falls p x.n with
  | true => rw [qOne_c h1 h2 h3, nmT_c h1 h2 h3]; rfl
  | false =>
    rw [nmT_d h1 h2 h3, if_pos rfl]
    by_cases h4 : 32768 < x.v.size
    · rw [qOne_d h1 h2 h3 h4, if_pos h4]
    · rw [qOne_e h1 h2 h3 h4, if_neg h4]
set_option maxRecDepth 100000 in
set_option maxHeartbeats 4000000 in
theorem checkName14 (w : World) (ao : Option Addr) (cap : Nat) (O : List Pr) (s : ByteArray) (hl : O.length ≤ maxLen) (hs : s.size ≤ maxLen) (hc : PrsAt w ao O) :
    Calls Tryz.prog 108 #[.slice ao O.length cap, .string s] w fun e w' => e = .returned (.int .i64 (nmT (prq O O.length) s)) ∧ Keep0 w w' := by
  have hl' : (O.length : Int) ≤ 9223372036854775807 := by unfold maxLen at hl; omega
  have hs' : (s.size : Int) ≤ 9223372036854775807 := by unfold maxLen at hs; omega
  have i7 : IntKind.i64.wrap ((O.length : Int) - 1) = (O.length : Int) - 1 := by rw [IntKind.wrap_i64]; omega
  by_cases h1 : 32 < s.size
  · rw [nmT_a h1]
    have i3 : (32 : Int) < s.size := by omega
    clear h1 hc hs hl
    go_enter Tryz.func108, Tryz.ntmps108
    go_wp2
    go_ret
    exact ⟨rfl, Keep.refl _ _⟩
  have i3 : ¬ (32 : Int) < s.size := by omega
  by_cases h2 : s.size = 0
  · rw [nmT_b h2]
    have es := empty_eq14 h2
    subst es
    clear h1 h2 i3 hs' hc hs hl
    go_enter Tryz.func108, Tryz.ntmps108
    go_wp2
    go_ret
    exact ⟨rfl, Keep.refl _ _⟩
  have e1 := empty_no14 h2
  by_cases hO : O.length = 0
  · have hT : nmT (prq O O.length) s = 0 := nmT_d h1 h2 (by rw [hO]; rfl)
    rw [hT, hO]
    clear hT hc hs hl h1 h2 i7 hl'
    go_enter Tryz.func108, Tryz.ntmps108
    go_wp2
    go_ret
    exact ⟨rfl, Keep.refl _ _⟩
  obtain ⟨j, hj⟩ : ∃ j, j + 1 = O.length := ⟨O.length - 1, by omega⟩
  have hjl : j < O.length := by omega
  obtain ⟨b', off, rfl, x0, xz⟩ := hc j hjl
  clear xz
  have hp : falls (prq O O.length) s = !bl O[j].n s := by rw [← hj, prq_succ hjl, falls_some]
  have kA : Keep0 w (w.alloc (.cells #[.string O[j].n, .string s] 9)) := (Keep.refl _ w).alloc _
  have yr := rising6_any _ _ 2 [O[j].n, s] (by show 2 ≤ maxLen; unfold maxLen; omega) (texts_two14 w 9 O[j].n s)
  have el : [O[j].n, s].length = 2 := rfl
  rw [el] at yr
  have i1 : (j : Int) < O.length := by omega
  have i6 : (O.length : Int) - 1 = (j : Int) := by omega
  rw [i6] at i7
  cases hB : bl O[j].n s with
  | true =>
    rw [hB] at hp
    rw [rise_yes14 hB] at yr
    rw [nmT_d h1 h2 hp]
    clear el hp hB hc h1 h2
    generalize O[j].n = A at *
    clear hO hj hjl hs hl
    generalize O.length = q at *
    go_enter Tryz.func108, Tryz.ntmps108
    go_wp2_with fail
    refine yr.mono ?_
    rintro e w1 ⟨rfl, hw1⟩
    have K1 := kA.trans (keepN hw1)
    clear yr kA hw1 x0
    go_wp2
    go_ret
    exact ⟨rfl, K1⟩
  | false =>
    rw [hB] at hp
    rw [rise_no14 hB] at yr
    rw [nmT_c h1 h2 hp]
    clear el hp hB hc h1 h2
    generalize O[j].n = A at *
    clear hO hj hjl hs hl
    generalize O.length = q at *
    go_enter Tryz.func108, Tryz.ntmps108
    go_wp2_with fail
    refine yr.mono ?_
    rintro e w1 ⟨rfl, hw1⟩
    have K1 := kA.trans (keepN hw1)
    clear yr kA hw1 x0
    go_wp2
    go_ret
    exact ⟨rfl, K1⟩
set_option maxRecDepth 100000 in
set_option maxHeartbeats 8000000 in
theorem check14 (w : World) (ao : Option Addr) (cap : Nat) (l : List Pr) (hf : FitsP l) (hcap : CapP l cap) (hc : PrsAt w ao l) :
    Calls Tryz.prog 71 #[.slice ao l.length cap] w fun e w' => e = .returned (.int .i64 (qCheck l)) ∧ Keep0 w w' := by
  have HC : Hid (PrsAt w ao l) := hc
  have HF : Hid (∀ x ∈ l, x.n.size ≤ maxLen ∧ x.v.size ≤ maxLen) := hf.2
  have hl' : (l.length : Int) ≤ 9223372036854775807 := by have := hf.1; unfold maxLen at this; omega
  have hca : (cap : Int) ≤ 9223372036854775807 := by have := hcap.2; unfold maxLen at this; omega
  have hcb := hcap.1
  have HL : Hid (l.length ≤ maxLen) := hf.1
  clear hc hf hcap
  by_cases h8 : 8 < l.length
  · have i0 : (8 : Int) < l.length := by omega
    have e : qCheck l = 3 := if_pos h8
    rw [e]
    go_enter Tryz.func71, Tryz.ntmps71
    go_wp2
    go_ret
    exact ⟨rfl, Keep.refl _ _⟩
  · have i0 : ¬ (8 : Int) < l.length := by omega
    have e : qCheck l = qGo (prq l 0) (l.drop 0) := if_neg h8
    obtain ⟨r, hr⟩ : ∃ r, qCheck l = r := ⟨_, rfl⟩
    rw [hr]
    rw [e] at hr
    have HR : Hid (qGo (prq l 0) (l.drop 0) = r) := hr
    clear hr e
    go_enter Tryz.func71, Tryz.ntmps71
    go_wp2_with fail
    go_loopw [11] (fun i wr => ∃ (k : Nat), i = .int .i64 (k : Int) ∧ k ≤ l.length ∧ Hid (qGo (prq l k) (l.drop k) = r) ∧ Keep0 w wr) (fun i _ => l.length - (intOf i).toNat)
    case atStart => exact ⟨0, rfl, by omega, HR, Keep.refl _ _⟩
    case round =>
      obtain ⟨k, rfl, hk, HK, hK⟩ := hrel
      clear HR
      by_cases hlt : k < l.length
      · have i1 : (k : Int) < l.length := by omega
        obtain ⟨b, off, rfl, p0, p1⟩ := HC.out k hlt
        have x0 := hK.cell p0 (fun f => f)
        have x1 := hK.cell p1 (fun f => f)
        have hfx := HF.out l[k] (List.getElem_mem hlt)
        have i2v : (l[k].v.size : Int) ≤ 9223372036854775807 := by have := hfx.2; unfold maxLen at this; omega
        have i2 : (l[k].n.size : Int) ≤ 9223372036854775807 := by have := hfx.1; unfold maxLen at this; omega
        have hd := HK.out
        rw [goq_drop hlt, qOne_n] at hd
        have etl : (l.take k).length = k := by rw [List.length_take]; omega
        have etp : prq (l.take k) k = prq l k := by
          cases k with
          | zero => rfl
          | succ j =>
            have hj : j < l.length := by omega
            rw [prq_succ hj, prq_succ (l := l.take (j + 1)) (by rw [etl]; omega), List.getElem_take]
        have yq : ∀ W, Keep0 w W → Calls Tryz.prog 108 #[.slice (some ⟨b, off, none⟩) k cap, .string l[k].n] W fun e w' => e = .returned (.int .i64 (nmT (prq l k) l[k].n)) ∧ Keep0 W w' := by
          intro W KW
          have h := checkName14 W (some ⟨b, off, none⟩) cap (l.take k) l[k].n (by rw [etl]; have := HL.out; omega) hfx.1 (by
            intro i hi
            have hi' : i < l.length := by rw [etl] at hi; omega
            obtain ⟨b2, off2, e, q0, q1⟩ := HC.out i hi'
            cases e
            rw [List.getElem_take]
            exact ⟨b, off, rfl, KW.cell q0 (fun f => f), KW.cell q1 (fun f => f)⟩)
          rw [etl, etp] at h
          exact h
        obtain ⟨C, hC⟩ : ∃ C, nmT (prq l k) l[k].n = C := ⟨_, rfl⟩
        rw [hC] at hd yq
        have HN1 : Hid (C ≠ 0 → C = r) := by
          intro h
          rw [if_neg h, if_neg h] at hd
          exact hd
        have HN2 : Hid (C = 0 → 32768 < l[k].v.size → (3 : Int) = r) := by
          intro h h4
          rw [if_pos h, if_pos h4, if_neg (by decide)] at hd
          exact hd
        have HN3 : Hid (C = 0 → ¬ 32768 < l[k].v.size → qGo (prq l (k + 1)) (l.drop (k + 1)) = r) := by
          intro h h4
          rw [if_pos h, if_neg h4, if_pos rfl] at hd
          exact hd
        have kA : Keep0 wr (wr.alloc (.cells #[.string l[k].n, .string l[k].v] 46)) := (Keep.refl _ wr).alloc _
        have KA := hK.trans kA
        have q0 : (wr.alloc (.cells #[.string l[k].n, .string l[k].v] 46)).cell? ⟨wr.heap.size, 0, none⟩ = some (.string l[k].n) := cell_alloc _ _ rfl
        have q1 : (wr.alloc (.cells #[.string l[k].n, .string l[k].v] 46)).cell? ⟨wr.heap.size, 1, none⟩ = some (.string l[k].v) := cell_alloc _ _ rfl
        have j1 : k ≤ cap := by omega
        have j2 : (k : Int) ≤ cap := by omega
        clear hd HK hfx etl etp hC kA p0 p1 hK
        generalize l[k].n = A at *
        obtain ⟨B, hB⟩ : ∃ B, l[k].v = B := ⟨_, rfl⟩
        rw [hB] at HN2 HN3 q0 q1 x1 i2v KA
        clear hB
        go_wp2_with fail
        generalize (wr.alloc (.cells #[.string A, .string B] 46)) = W0 at *
        generalize wr.heap.size = g at *
        clear x0 x1
        refine wp_region_held_drew (S := (fun W => W.cell? ⟨g, 0, none⟩ = some (.string A) ∧ W.cell? ⟨g, 1, none⟩ = some (.string B))) (by kernel_rfl) ⟨q0, q1⟩ (fun hHeld => ?_)
        refine wpAnyH_take (i := 0) (v := ?t0v) (by simp only [List.getElem?_toArray, List.getElem?_cons_zero] <;> rfl) (by kernel_rfl) (by kernel_rfl) (by kernel_rfl) (by exact fun _ _ _ h => h) (Or.inl ⟨by rfl, ?t0y⟩) hHeld ?t0r
        case t0y => intro w hSw; (try dsimp only at hSw); go_simp <;> rfl
        simp only [Act.put, List.setIfInBounds_toArray, List.set_cons_zero, List.set_cons_succ]
        refine wpAnyH_take (i := 1) (v := ?t1v) (by simp only [List.getElem?_toArray, List.getElem?_cons_succ, List.getElem?_cons_zero] <;> rfl) (by kernel_rfl) (by kernel_rfl) (by kernel_rfl) (by exact fun _ _ _ h => h) (Or.inl ⟨by rfl, ?t1y⟩) hHeld ?t1r
        case t1y => intro w hSw; (try dsimp only at hSw); go_simp <;> rfl
        simp only [Act.put, List.setIfInBounds_toArray, List.set_cons_zero, List.set_cons_succ]
        refine wpAnyH_take (i := 2) (v := ?t2v) (by simp only [List.getElem?_toArray, List.getElem?_cons_succ, List.getElem?_cons_zero] <;> rfl) (by kernel_rfl) (by kernel_rfl) (by kernel_rfl) (by exact fun _ _ _ h => h) (Or.inl ⟨by rfl, ?t2y⟩) hHeld ?t2r
        case t2y => intro w hSw; (try dsimp only at hSw); go_simp <;> rfl
        simp only [Act.put, List.setIfInBounds_toArray, List.set_cons_zero, List.set_cons_succ]
        refine wpAnyH_take (i := 3) (v := ?t3v) (by simp only [List.getElem?_toArray, List.getElem?_cons_succ, List.getElem?_cons_zero] <;> rfl) (by kernel_rfl) (by kernel_rfl) (by kernel_rfl) (by exact fun _ _ _ h => h) (Or.inl ⟨by rfl, ?t3y⟩) hHeld ?t3r
        case t3y => intro w hSw; (try dsimp only at hSw); go_simp <;> rfl
        simp only [Act.put, List.setIfInBounds_toArray, List.set_cons_zero, List.set_cons_succ]
        refine wpAnyH_take (i := 4) (v := ?t4v) (by simp only [List.getElem?_toArray, List.getElem?_cons_succ, List.getElem?_cons_zero] <;> rfl) (by kernel_rfl) (by kernel_rfl) (by kernel_rfl) (by exact fun _ _ _ h => h) (Or.inl ⟨by rfl, ?t4y⟩) hHeld ?t4r
        case t4y => intro w hSw; (try dsimp only at hSw); go_simp <;> rfl
        simp only [Act.put, List.setIfInBounds_toArray, List.set_cons_zero, List.set_cons_succ]
        refine wpAnyH_ready (rs := [5]) (by kernel_rfl) (by simp) ?_
        refine AllReadyH.cons (by simp only [List.getElem?_toArray, List.getElem?_cons_succ, List.getElem?_cons_zero] <;> rfl) (fun K hK => ?_) AllReadyH.nil
        go_simp
        refine (yq _ KA.drew).mono ?_
        rintro e w3 ⟨rfl, kx⟩
        have kw3 : Keep0 W0 w3 := ((Keep.refl _ W0).drew).trans kx
        clear kx
        go_wp2_with fail
        refine hK.out _ _ ⟨kw3.cell q0 (fun f => f), kw3.cell q1 (fun f => f)⟩ (fun hHeld => ?_)
        clear hK K
        refine wpAnyH_take (i := 6) (v := ?t5v) (by simp only [List.getElem?_toArray, List.getElem?_cons_succ, List.getElem?_cons_zero] <;> rfl) (by kernel_rfl) (by kernel_rfl) (by kernel_rfl) (by exact fun _ _ _ h => h) (Or.inl ⟨by rfl, ?t5y⟩) hHeld ?t5r
        case t5y => intro w hSw; (try dsimp only at hSw); go_simp <;> rfl
        simp only [Act.put, List.setIfInBounds_toArray, List.set_cons_zero, List.set_cons_succ]
        refine wpAnyH_done (by kernel_rfl) ?_ _
        have K3 := KA.trans kw3
        have u1 := kw3.cell q1 (fun f => f)
        clear yq kw3 KA hHeld q0 q1
        by_cases h0 : C = 0
        · have HA2 := HN2.out h0
          have HA3 := HN3.out h0
          subst h0
          by_cases h4 : 32768 < B.size
          · have HD : Hid ((3 : Int) = r) := HA2 h4
            have i5 : (32768 : Int) < B.size := by omega
            clear HA2 HA3 HN1 HN2 HN3
            go_wp2
            go_ret
            exact ⟨by rw [← HD.out]; rfl, K3⟩
          · have HD : Hid (qGo (prq l (k + 1)) (l.drop (k + 1)) = r) := HA3 h4
            have i5 : ¬ (32768 : Int) < B.size := by omega
            clear HA2 HA3 HN1 HN2 HN3
            go_wp2
            go_roundw
            case rel => exact ⟨k + 1, by go_num, by omega, HD, K3⟩
            case measure => simp [intOf]; omega
        · have HD : Hid (C = r) := HN1.out h0
          have e0 : (C != 0) = true := by simpa using h0
          clear HN1 HN2 HN3 h0
          go_wp2
          go_ret
          exact ⟨by rw [← HD.out]; rfl, K3⟩
      · have i1 : ¬ (k : Int) < l.length := by omega
        have hd := HK.out
        rw [List.drop_eq_nil_of_le (by omega), qGo] at hd
        have HD : Hid ((0 : Int) = r) := hd
        clear hd HK
        go_wp2
        go_ret
        exact ⟨by rw [← HD.out]; rfl, hK⟩
set_option maxRecDepth 100000 in
theorem equal14 (w : World) (ao bo : Option Addr) (ca cb : Nat) (l m : List Pr) (hl : l.length ≤ maxLen) (hm : m.length ≤ maxLen) (ha : PrsAt w ao l) (hb : PrsAt w bo m) :
    Calls Tryz.prog 112 #[.slice ao l.length ca, .slice bo m.length cb] w fun e w' => e = .returned (.bool (qSame l m)) ∧ ∃ n, w' = w.drewN n := by
  have HA : Hid (PrsAt w ao l) := ha
  have HB : Hid (PrsAt w bo m) := hb
  have hl' : (l.length : Int) ≤ 9223372036854775807 := by unfold maxLen at hl; omega
  have hm' : (m.length : Int) ≤ 9223372036854775807 := by unfold maxLen at hm; omega
  clear ha hb
  by_cases he : l.length = m.length
  · obtain ⟨r, hr⟩ : ∃ r, qSame l m = r := ⟨_, rfl⟩
    rw [hr]
    have HR : Hid (qSame (l.drop 0) (m.drop 0) = r) := hr
    have HE : Hid (l.length = m.length) := he
    have i0 : ((l.length : Int) != (m.length : Int)) = false := by simp [he]
    clear hr he
    go_enter Tryz.func112, Tryz.ntmps112
    go_wp2_with fail
    go_loopw [13] (fun i wr => ∃ (k : Nat), i = .int .i64 (k : Int) ∧ k ≤ l.length ∧ Hid (qSame (l.drop k) (m.drop k) = r) ∧ ∃ n, wr = w.drewN n) (fun i _ => l.length - (intOf i).toNat)
    case atStart => exact ⟨0, rfl, by omega, HR, 0, rfl⟩
    case round =>
      obtain ⟨k, rfl, hk, HK, hWr⟩ := hrel
      have kr := keepN hWr
      have HW : Hid (∃ n, wr = w.drewN n) := hWr
      have he := HE.out
      clear hWr
      by_cases hlt : k < l.length
      · have i1 : (k : Int) < l.length := by omega
        have i2 : (k : Int) < m.length := by omega
        have hkm : k < m.length := by omega
        obtain ⟨b1, o1, rfl, p0, p1⟩ := HA.out k hlt
        obtain ⟨b2, o2, rfl, q0, q1⟩ := HB.out k hkm
        have x0 := kr.cell p0 (fun f => f)
        have x1 := kr.cell p1 (fun f => f)
        have y0 := kr.cell q0 (fun f => f)
        have y1 := kr.cell q1 (fun f => f)
        clear p0 p1 q0 q1
        have hd := HK.out
        rw [sameq_drop hlt hkm] at hd
        by_cases h1 : l[k].n = m[k].n
        · by_cases h2 : l[k].v = m[k].v
          · rw [if_pos ⟨h1, h2⟩] at hd
            have HD : Hid (qSame (l.drop (k + 1)) (m.drop (k + 1)) = r) := hd
            rw [← h1] at y0
            rw [← h2] at y1
            generalize l[k].n = A at *
            generalize l[k].v = N at *
            clear hd HK kr he h1 h2 HA HB
            go_wp2_with fail
            go_quiet (fail)
            go_wp2
            go_roundw
            case rel => exact ⟨k + 1, by go_num, by omega, HD, drewN_on HW.out _⟩
            case measure => simp [intOf]; omega
          · rw [if_neg (fun h => h2 h.2)] at hd
            have HD : Hid (false = r) := hd
            rw [← h1] at y0
            obtain ⟨e2, e3, e4⟩ := txt_ne h2
            generalize l[k].n = A at *
            generalize l[k].v = N at *
            generalize m[k].v = M at *
            clear hd HK kr he h1 HA HB
            go_wp2_with fail
            go_quiet (fail)
            go_wp2
            go_ret
            exact ⟨by rw [← HD.out]; rfl, drewN_on HW.out _⟩
        · rw [if_neg (fun h => h1 h.1)] at hd
          have HD : Hid (false = r) := hd
          obtain ⟨e2, e3, e4⟩ := txt_ne h1
          generalize l[k].n = A at *
          generalize m[k].n = A2 at *
          generalize l[k].v = N at *
          generalize m[k].v = M at *
          clear hd HK kr he HA HB
          go_wp2_with fail
          go_quiet (fail)
          go_wp2
          go_ret
          exact ⟨by rw [← HD.out]; rfl, drewN_on HW.out _⟩
      · have i1 : ¬ (k : Int) < l.length := by omega
        have hd := HK.out
        rw [List.drop_eq_nil_of_le (by omega), List.drop_eq_nil_of_le (by omega)] at hd
        have HD : Hid (true = r) := hd
        clear hd HK kr he
        go_wp2
        go_ret
        exact ⟨by rw [← HD.out]; rfl, HW.out⟩
  · rw [qSame_len he]
    have i0 : ((l.length : Int) != (m.length : Int)) = true := by simp; omega
    go_enter Tryz.func112, Tryz.ntmps112
    go_wp2
    go_ret
    exact ⟨rfl, 0, rfl⟩
set_option maxRecDepth 100000 in
theorem same14 (w : World) (ao bo : Option Addr) (ca cb : Nat) (l m : List Pr) (hl : l.length ≤ maxLen) (hm : m.length ≤ maxLen) (ha : PrsAt w ao l) (hb : PrsAt w bo m) :
    Calls Tryz.prog 76 #[.slice ao l.length ca, .slice bo m.length cb] w fun e w' => e = .returned (.bool (qSame l m)) ∧ Keep0 w w' := by
  have y := equal14 w ao bo ca cb l m hl hm ha hb
  generalize qSame l m = r at *
  go_enter Tryz.func76, Tryz.ntmps76
  go_wp2_with fail
  refine y.mono ?_
  rintro e w1 ⟨rfl, hw1⟩
  have K1 := keepN hw1
  clear y hw1
  go_wp2
  go_ret
  exact ⟨rfl, K1⟩
end Go.Proofs.YteonkfedgopdiaaGreat
