/-
  What this seat's claims lean on of the texts OlD.
  Conditions: as each theorem states.
-/
import Derived.WalkKit
import Derived.ProofKit
import Derived.Below
import Derived.Deep.Draws
import Derived.Deep.RegionHeld
import Derived.Test.YtmllchembkpdkaaChecked
import Derived.OpenShut
import Derived.ShutString
import Derived.WalkSpells
import Derived.WalkLawsBesides
import Derived.Deep.QuietTactic
import Derived.BigQuiet
import Derived.Laws.Bits64b
import Derived.PlainAid
import Derived.Lib.AppendStr
import Derived.Deep.AppendLies
import Derived.Laws.IdiomStrings
import Derived.Laws.BytesArg
import Derived.Deep.RegionWith
import Derived.Laws.AppendOwn
import Derived.Deep.DeepAppendWide
import Derived.Deep.Upon
import Derived.Maps.AppendAt
import Derived.Deep.Slices
import Derived.Laws.Rows
import Derived.Test.YtmllchembkpdkaaZ44
import Derived.Test.YtmllchembkpdkaaZ45
namespace Go.Proofs.Ytmllchembkpdkaa
open Go.RowKit
set_option maxRecDepth 100000 in
set_option maxHeartbeats 8000000 in
theorem equals17 (w : World) (ao : Option Addr) (cap : Nat) (L : List Po) (ao' : Option Addr) (cap' : Nat) (M : List Po) (hl : L.length ≤ maxLen) (hm : M.length ≤ maxLen) (hf : ∀ p ∈ L, Oks p.x) (hf' : ∀ p ∈ M, Oks p.x) (hc : PosAt w ao L) (hc' : PosAt w ao' M) :
    Calls Try.prog 36 #[.slice ao L.length cap, .slice ao' M.length cap', .func (.func 37) #[] #[]] w fun e w' => e = .returned (.bool (ossSame (L.map Po.x) (M.map Po.x))) ∧ Keep0 w w' := by
  have i1 : (L.length : Int) ≤ 9223372036854775807 := by unfold maxLen at hl; omega
  have i2 : (M.length : Int) ≤ 9223372036854775807 := by unfold maxLen at hm; omega
  have el : (L.map Po.x).length = L.length := List.length_map ..
  have em : (M.map Po.x).length = M.length := List.length_map ..
  by_cases h2 : L.length = M.length
  case neg =>
    rw [ossSame_len (by rw [el, em]; exact h2)]
    have j1 : ((L.length : Int) != (M.length : Int)) = true := bne_iff_ne.2 (by omega)
    have j2 : ¬ (L.length : Int) = (M.length : Int) := by omega
    clear hc hc' hf hf' el em
    go_enter Try.func36, Try.ntmps36
    go_wp2
    go_ret
    exact ⟨rfl, Keep.refl _ _⟩
  have HC : Hid (PosAt w ao L) := hc
  have HC' : Hid (PosAt w ao' M) := hc'
  have HF : Hid (∀ p ∈ L, Oks p.x) := hf
  have HF' : Hid (∀ p ∈ M, Oks p.x) := hf'
  have HL : Hid (L.length = M.length) := h2
  have HEL : Hid ((L.map Po.x).length = L.length) := el
  have HEM : Hid ((M.map Po.x).length = M.length) := em
  obtain ⟨r, hr⟩ : ∃ r, ossSame (L.map Po.x) (M.map Po.x) = r := ⟨_, rfl⟩
  rw [hr]
  have HR : Hid (ossSame ((L.map Po.x).drop 0) ((M.map Po.x).drop 0) = r) := by rw [List.drop_zero, List.drop_zero]; exact hr
  rw [← h2]
  rw [← h2] at i2
  clear hc hc' hf hf' hr h2 hl hm el em
  go_enter Try.func36, Try.ntmps36
  go_wp2_with fail
  go_loopw [17] (fun i wr => ∃ (k : Nat), i = .int .i64 (k : Int) ∧ k ≤ L.length ∧ Hid (ossSame ((L.map Po.x).drop k) ((M.map Po.x).drop k) = r) ∧ Keep0 w wr) (fun i _ => L.length - (intOf i).toNat)
  case atStart => exact ⟨0, rfl, by omega, HR, Keep.refl _ _⟩
  case round =>
    obtain ⟨k, rfl, hk, HK, hK⟩ := hrel
    clear HR
    by_cases hlt : k < L.length
    · have j2 : (k : Int) < L.length := by omega
      have hlm : k < M.length := by have := HL.out; omega
      obtain ⟨b, off, rfl, s1, s2⟩ := HC.out.at_ k hlt
      obtain ⟨b', off', rfl, t1, t2⟩ := HC'.out.at_ k hlm
      have kX : Keep0 wr (wr.alloc (.cells #[.slice L[k].vo L[k].x.c.length L[k].vc, .bool L[k].x.d, .string L[k].x.v] 47)) := (Keep.refl _ wr).alloc _
      have kY : Keep0 (wr.alloc (.cells #[.slice L[k].vo L[k].x.c.length L[k].vc, .bool L[k].x.d, .string L[k].x.v] 47)) ((wr.alloc (.cells #[.slice L[k].vo L[k].x.c.length L[k].vc, .bool L[k].x.d, .string L[k].x.v] 47)).alloc (.cells #[.slice M[k].vo M[k].x.c.length M[k].vc, .bool M[k].x.d, .string M[k].x.v] 47)) := (Keep.refl _ _).alloc _
      have KX := hK.trans kX
      have KY := KX.trans kY
      obtain ⟨a0, a1, a2⟩ := s1.keep0 hK
      obtain ⟨b0, b1, b2⟩ := t1.keep0 KX
      obtain ⟨d0, d1, d2⟩ := (poAt_new wr 47 L[k]).keep0 kY
      have hN := poAt_new (wr.alloc (.cells #[.slice L[k].vo L[k].x.c.length L[k].vc, .bool L[k].x.d, .string L[k].x.v] 47)) 47 M[k]
      rw [World.size_alloc] at hN
      obtain ⟨e0, e1, e2⟩ := hN
      have ys := one17 ((wr.alloc (.cells #[.slice L[k].vo L[k].x.c.length L[k].vc, .bool L[k].x.d, .string L[k].x.v] 47)).alloc (.cells #[.slice M[k].vo M[k].x.c.length M[k].vc, .bool M[k].x.d, .string M[k].x.v] 47)) L[k] M[k] (HF.out _ (List.getElem_mem hlt)) (HF'.out _ (List.getElem_mem hlm)) (s2.keep0 KY) (t2.keep0 KY)
      have hd := HK.out
      rw [ossSame_drop (by rw [HEL.out]; exact hlt) (by rw [HEM.out]; exact hlm), List.getElem_map, List.getElem_map] at hd
      clear s1 s2 t1 t2 HK kX kY KX hK
      have HDt : Hid (osSame L[k].x M[k].x = true → ossSame ((L.map Po.x).drop (k + 1)) ((M.map Po.x).drop (k + 1)) = r) := fun hs => by rw [hs, Bool.true_and] at hd; exact hd
      have HDf : Hid (osSame L[k].x M[k].x = false → false = r) := fun hs => by rw [hs, Bool.false_and] at hd; exact hd
      clear hd
      generalize osSame L[k].x M[k].x = BS at *
      generalize L[k] = X at *
      generalize M[k] = Y at *
      go_wp2_with fail
      generalize ((wr.alloc (.cells #[.slice X.vo X.x.c.length X.vc, .bool X.x.d, .string X.x.v] 47)).alloc (.cells #[.slice Y.vo Y.x.c.length Y.vc, .bool Y.x.d, .string Y.x.v] 47)) = W2 at *
      generalize wr.heap.size = h at *
      clear a0 a1 a2 b0 b1 b2
      refine ys.mono ?_
      rintro e w1 ⟨rfl, k1⟩
      have K1 := KY.trans k1
      clear ys k1 KY d0 d1 d2 e0 e1 e2
      cases BS with
      | false =>
        have HD : Hid (false = r) := HDf.out rfl
        clear HDt HDf
        go_wp2
        go_ret
        exact ⟨by rw [← HD.out]; rfl, K1⟩
      | true =>
        have HD : Hid (ossSame ((L.map Po.x).drop (k + 1)) ((M.map Po.x).drop (k + 1)) = r) := HDt.out rfl
        clear HDt HDf
        go_wp2
        go_roundw
        case rel => exact ⟨k + 1, by go_num, by omega, HD, K1⟩
        case measure => simp [intOf]; omega
    · have j2 : ¬ (k : Int) < L.length := by omega
      have hd := HK.out
      rw [List.drop_eq_nil_of_le (by rw [HEL.out]; omega), List.drop_eq_nil_of_le (by rw [HEM.out]; have := HL.out; omega)] at hd
      have HD : Hid (true = r) := hd
      clear hd HK
      go_wp2
      go_ret
      exact ⟨by rw [← HD.out]; rfl, hK⟩
set_option maxRecDepth 100000 in
set_option maxHeartbeats 8000000 in
theorem same17 (w : World) (key : ByteArray) (ao : Option Addr) (cap : Nat) (L : List Po) (key' : ByteArray) (ao' : Option Addr) (cap' : Nat) (M : List Po) (ok : Ok17 key L) (_ : L.length ≤ cap) (_ : cap ≤ maxLen) (hc : PosAt w ao L) (ok' : Ok17 key' M) (_ : M.length ≤ cap') (_ : cap' ≤ maxLen) (hc' : PosAt w ao' M) :
    Calls Try.prog 13 #[.agg #[.string key, .slice ao L.length cap], .agg #[.string key', .slice ao' M.length cap']] w fun e w' => e = .returned (.bool (olSame ⟨key, L.map Po.x⟩ ⟨key', M.map Po.x⟩)) ∧ Keep0 w w' := by
  have k0 : Keep0 w (w.alloc (.cells #[.string key, .slice ao L.length cap] 24)) := (Keep.refl _ w).alloc _
  have kB : Keep0 (w.alloc (.cells #[.string key, .slice ao L.length cap] 24)) ((w.alloc (.cells #[.string key, .slice ao L.length cap] 24)).alloc (.cells #[.string key', .slice ao' M.length cap'] 24)) := (Keep.refl _ _).alloc _
  have kA := k0.trans kB
  have q0 : DAt ((w.alloc (.cells #[.string key, .slice ao L.length cap] 24)).alloc (.cells #[.string key', .slice ao' M.length cap'] 24)) w.heap.size (.string key) (.slice ao L.length cap) := (DAt.new w 24 (.string key) (.slice ao L.length cap)).keep0 kB
  have q1 : DAt ((w.alloc (.cells #[.string key, .slice ao L.length cap] 24)).alloc (.cells #[.string key', .slice ao' M.length cap'] 24)) (w.heap.size + 1) (.string key') (.slice ao' M.length cap') := by
    have := DAt.new (w.alloc (.cells #[.string key, .slice ao L.length cap] 24)) 24 (.string key') (.slice ao' M.length cap')
    rw [World.size_alloc] at this
    exact this
  obtain ⟨x0, x1, -⟩ := q0.cells
  obtain ⟨z0, z1, -⟩ := q1.cells
  have hg : olSame ⟨key, L.map Po.x⟩ ⟨key', M.map Po.x⟩ = (decide (key = key') && ossSame (L.map Po.x) (M.map Po.x)) := rfl
  rw [hg]
  clear hg k0 kB q0 q1
  by_cases h1 : key = key'
  case neg =>
    rw [decide_eq_false h1, Bool.false_and]
    obtain ⟨e2, e3, e4⟩ := txt_ne h1
    have e5 : (key == key') = false := by rw [beq_toListBytes]; exact e2
    clear hc hc' ok ok'
    go_enter Try.func13, Try.ntmps13
    go_wp2_with fail
    generalize ((w.alloc (.cells #[.string key, .slice ao L.length cap] 24)).alloc (.cells #[.string key', .slice ao' M.length cap'] 24)) = W0 at *
    generalize w.heap.size = g at *
    go_wp2
    go_ret
    exact ⟨rfl, kA⟩
  subst h1
  rw [decide_eq_true rfl, Bool.true_and]
  have ye := equals17 ((w.alloc (.cells #[.string key, .slice ao L.length cap] 24)).alloc (.cells #[.string key, .slice ao' M.length cap'] 24)) ao cap L ao' cap' M (by have := ok.len; unfold maxLen; omega) (by have := ok'.len; unfold maxLen; omega) ok.s ok'.s (hc.keep0 kA) (hc'.keep0 kA)
  generalize ossSame (L.map Po.x) (M.map Po.x) = R at *
  clear hc hc' ok ok'
  go_enter Try.func13, Try.ntmps13
  go_wp2_with fail
  generalize ((w.alloc (.cells #[.string key, .slice ao L.length cap] 24)).alloc (.cells #[.string key, .slice ao' M.length cap'] 24)) = W0 at *
  generalize w.heap.size = g at *
  refine ye.mono ?_
  rintro e w1 ⟨rfl, k1⟩
  have K1 := kA.trans k1
  clear ye k1 kA x0 x1 z0 z1
  go_wp2
  go_ret
  exact ⟨rfl, K1⟩
set_option maxRecDepth 100000 in
theorem likeF17 (w : World) (g : Nat) (x y : Po) (ox : Oks x.x) (oy : Oks y.x) (xa : PoAt w g 0 x) (hx : EnsAt w x.vo x.x.c) (hy : EnsAt w y.vo y.x.c) :
    Calls Try.prog 62 #[.agg #[.slice y.vo y.x.c.length y.vc, .bool y.x.d, .string y.x.v], ptr g] w fun e w' => e = .returned (.bool (osSame x.x y.x)) ∧ Keep0 w w' := by
  have kA : Keep0 w (w.alloc (.cells #[.slice y.vo y.x.c.length y.vc, .bool y.x.d, .string y.x.v] 47)) := (Keep.refl _ w).alloc _
  obtain ⟨z0, z1, z2⟩ := poAt_new w 47 y
  obtain ⟨x0, x1, x2⟩ := xa.keep0 kA
  have ys := one17 (w.alloc (.cells #[.slice y.vo y.x.c.length y.vc, .bool y.x.d, .string y.x.v] 47)) x y ox oy (hx.keep0 kA) (hy.keep0 kA)
  generalize osSame x.x y.x = R at *
  clear hx hy ox oy xa
  go_enter Try.func62, Try.ntmps62
  go_wp2_with fail
  generalize (w.alloc (.cells #[.slice y.vo y.x.c.length y.vc, .bool y.x.d, .string y.x.v] 47)) = W0 at *
  generalize w.heap.size = h at *
  refine ys.mono ?_
  rintro e w1 ⟨rfl, k1⟩
  have K1 := kA.trans k1
  clear ys k1 kA x0 x1 x2 z0 z1 z2
  go_wp2
  go_ret
  exact ⟨rfl, K1⟩
set_option maxRecDepth 100000 in
set_option maxHeartbeats 8000000 in
theorem index17w (w : World) (g : Nat) (φ : Os → Bool) (ao : Option Addr) (cap : Nat) (L : List Po) (hl : L.length ≤ maxLen) (hc : PosAt w ao L) (hF : ∀ p ∈ L, ∀ W, Keep0 w W → Calls Try.prog 62 #[.agg #[.slice p.vo p.x.c.length p.vc, .bool p.x.d, .string p.x.v], ptr g] W fun e w' => e = .returned (.bool (φ p.x)) ∧ Keep0 W w') :
    Calls Try.prog 82 #[.slice ao L.length cap, .func (.func 62) #[] #[ptr g]] w (RIdx (L.any (fun p => φ p.x)) w) := by
  have i1 : (L.length : Int) ≤ 9223372036854775807 := by unfold maxLen at hl; omega
  have HC : Hid (PosAt w ao L) := hc
  have HF : Hid (∀ p ∈ L, ∀ W, Keep0 w W → Calls Try.prog 62 #[.agg #[.slice p.vo p.x.c.length p.vc, .bool p.x.d, .string p.x.v], ptr g] W fun e w' => e = .returned (.bool (φ p.x)) ∧ Keep0 W w') := hF
  obtain ⟨r, hr⟩ : ∃ r, L.any (fun p => φ p.x) = r := ⟨_, rfl⟩
  rw [hr]
  have HR : Hid ((L.drop 0).any (fun p => φ p.x) = r) := by rw [List.drop_zero]; exact hr
  have HM : Hid (∀ (W : World) (e : Ending) (I : Int), e = .returned (.int .i64 I) → decide (0 ≤ I) = r → Keep0 w W → RIdx r w e W) := fun _ _ _ h1 h2 h3 => ⟨_, h1, h2, h3⟩
  clear hc hF hr hl
  go_enter Try.func82, Try.ntmps82
  go_wp2_with fail
  go_loopw [8] (fun i wr => ∃ (k : Nat), i = .int .i64 (k : Int) ∧ k ≤ L.length ∧ Hid ((L.drop k).any (fun p => φ p.x) = r) ∧ Keep0 w wr) (fun i _ => L.length - (intOf i).toNat)
  case atStart => exact ⟨0, rfl, by omega, HR, Keep.refl _ _⟩
  case round =>
    obtain ⟨k, rfl, hk, HK, hK⟩ := hrel
    clear HR
    by_cases hlt : k < L.length
    · have j2 : (k : Int) < L.length := by omega
      obtain ⟨b, off, rfl, s1, _⟩ := (HC.out.keep0 hK).at_ k hlt
      obtain ⟨a0, a1, a2⟩ := s1
      have yf := HF.out _ (List.getElem_mem hlt) wr hK
      have hd := HK.out
      rw [List.drop_eq_getElem_cons hlt, List.any_cons] at hd
      have HD : Hid ((φ L[k].x || (L.drop (k + 1)).any (fun p => φ p.x)) = r) := hd
      clear hd HK
      generalize φ L[k].x = BF at *
      generalize L[k] = Y at *
      go_wp2_with fail
      refine yf.mono ?_
      rintro e w1 ⟨rfl, k1⟩
      have K1 := hK.trans k1
      clear yf k1 hK a0 a1 a2
      cases BF with
      | true =>
        have HD2 : Hid (true = r) := by have := HD.out; rw [Bool.true_or] at this; exact this
        clear HD
        go_wp2
        go_ret
        exact HM.out _ _ _ rfl (by rw [← HD2.out]; exact decide_eq_true (Int.natCast_nonneg k)) K1
      | false =>
        have HD2 : Hid ((L.drop (k + 1)).any (fun p => φ p.x) = r) := by have := HD.out; rw [Bool.false_or] at this; exact this
        clear HD
        go_wp2
        go_roundw
        case rel => exact ⟨k + 1, by go_num, by omega, HD2, K1⟩
        case measure => simp [intOf]; omega
    · have j2 : ¬ (k : Int) < L.length := by omega
      have hd := HK.out
      rw [List.drop_eq_nil_of_le (by omega)] at hd
      have HD : Hid (false = r) := hd
      clear hd HK
      go_wp2
      go_ret
      exact HM.out _ _ _ rfl (by rw [← HD.out]; rfl) hK
set_option maxRecDepth 100000 in
set_option maxHeartbeats 8000000 in
theorem contains17w (w : World) (g : Nat) (φ : Os → Bool) (ao : Option Addr) (cap : Nat) (L : List Po) (hl : L.length ≤ maxLen) (hc : PosAt w ao L) (hF : ∀ p ∈ L, ∀ W, Keep0 w W → Calls Try.prog 62 #[.agg #[.slice p.vo p.x.c.length p.vc, .bool p.x.d, .string p.x.v], ptr g] W fun e w' => e = .returned (.bool (φ p.x)) ∧ Keep0 W w') :
    Calls Try.prog 63 #[.slice ao L.length cap, .func (.func 62) #[] #[ptr g]] w fun e w' => e = .returned (.bool (L.any (fun p => φ p.x))) ∧ Keep0 w w' := by
  have y := index17w w g φ ao cap L hl hc hF
  generalize L.any (fun p => φ p.x) = R at *
  clear hc hF hl
  generalize L.length = n at *
  go_enter Try.func63, Try.ntmps63
  go_wp2_with fail
  refine y.mono ?_
  rintro e w1 ⟨I, rfl, hI, k1⟩
  clear y
  cases R with
  | true =>
    have h0 : (0 : Int) ≤ I := of_decide_eq_true hI
    clear hI
    go_wp2
    go_ret
    exact ⟨rfl, k1⟩
  | false =>
    have h0 : ¬ (0 : Int) ≤ I := of_decide_eq_false hI
    go_wp2
    go_ret
    exact ⟨rfl, k1⟩
def inAll (L M : List Po) : Bool := L.all (fun p => M.any (fun q => osSame p.x q.x))
theorem inAll_drop {L M : List Po} {k : Nat} (hk : k < L.length) : inAll (L.drop k) M = (M.any (fun q => osSame L[k].x q.x) && inAll (L.drop (k + 1)) M) := by
  rw [List.drop_eq_getElem_cons hk]
  rfl
theorem allOnce_in {L M : List Po} (hu : Unlike (M.map Po.x)) : allOnce (L.map Po.x) (M.map Po.x) = inAll L M := by
  rw [Bool.eq_iff_iff]
  unfold allOnce inAll
  rw [List.all_eq_true, List.all_eq_true]
  constructor
  · intro h p hp
    have h1 := of_decide_eq_true (h p.x (List.mem_map.2 ⟨p, hp, rfl⟩))
    obtain ⟨q, hq, e⟩ := List.mem_map.1 (often_mem h1)
    exact List.any_eq_true.2 ⟨q, hq, osSame_iff.2 e.symm⟩
  · intro h x hx
    obtain ⟨p, hp, rfl⟩ := List.mem_map.1 hx
    obtain ⟨q, hq, e⟩ := List.any_eq_true.1 (h p hp)
    exact decide_eq_true (often_one hu (by rw [osSame_iff.1 e]; exact List.mem_map.2 ⟨q, hq, rfl⟩))
set_option maxRecDepth 100000 in
set_option maxHeartbeats 8000000 in
theorem within17 (w : World) (ao : Option Addr) (cap : Nat) (L : List Po) (ao' : Option Addr) (cap' : Nat) (M : List Po) (hl : L.length ≤ maxLen) (hm : M.length ≤ maxLen) (hf : ∀ p ∈ L, Oks p.x) (hf' : ∀ p ∈ M, Oks p.x) (hc : PosAt w ao L) (hc' : PosAt w ao' M) :
    Calls Try.prog 39 #[.slice ao L.length cap, .slice ao' M.length cap'] w fun e w' => e = .returned (.bool (inAll L M)) ∧ Keep0 w w' := by
  have i1 : (L.length : Int) ≤ 9223372036854775807 := by unfold maxLen at hl; omega
  have HC : Hid (PosAt w ao L) := hc
  have HC' : Hid (PosAt w ao' M) := hc'
  have HF : Hid (∀ p ∈ L, Oks p.x) := hf
  have HF' : Hid (∀ p ∈ M, Oks p.x) := hf'
  have HLM : Hid (M.length ≤ maxLen) := hm
  obtain ⟨r, hr⟩ : ∃ r, inAll L M = r := ⟨_, rfl⟩
  rw [hr]
  have HR : Hid (inAll (L.drop 0) M = r) := by rw [List.drop_zero]; exact hr
  clear hc hc' hf hf' hr hl hm
  go_enter Try.func39, Try.ntmps39
  go_wp2_with fail
  go_loopw [10] (fun i wr => ∃ (k : Nat), i = .int .i64 (k : Int) ∧ k ≤ L.length ∧ Hid (inAll (L.drop k) M = r) ∧ Keep0 w wr) (fun i _ => L.length - (intOf i).toNat)
  case atStart => exact ⟨0, rfl, by omega, HR, Keep.refl _ _⟩
  case round =>
    obtain ⟨k, rfl, hk, HK, hK⟩ := hrel
    clear HR
    by_cases hlt : k < L.length
    · have j2 : (k : Int) < L.length := by omega
      obtain ⟨b, off, rfl, s1, s2⟩ := HC.out.at_ k hlt
      obtain ⟨a0, a1, a2⟩ := s1.keep0 hK
      have kB : Keep0 wr (wr.alloc (.cells #[.slice L[k].vo L[k].x.c.length L[k].vc, .bool L[k].x.d, .string L[k].x.v] 47)) := (Keep.refl _ wr).alloc _
      have KB := hK.trans kB
      have hN := poAt_new wr 47 L[k]
      have hfk := HF.out _ (List.getElem_mem hlt)
      have yc := contains17w (wr.alloc (.cells #[.slice L[k].vo L[k].x.c.length L[k].vc, .bool L[k].x.d, .string L[k].x.v] 47)) wr.heap.size (osSame L[k].x) ao' cap' M HLM.out (HC'.out.keep0 KB) (fun p hp W K => likeF17 W wr.heap.size L[k] p hfk (HF'.out p hp) (hN.keep0 K) (s2.keep0 (KB.trans K)) ((HC'.out.ins p hp).keep0 (KB.trans K)))
      have hd := HK.out
      rw [inAll_drop hlt] at hd
      have HD : Hid ((M.any (fun q => osSame L[k].x q.x) && inAll (L.drop (k + 1)) M) = r) := hd
      clear hd HK s1 s2 kB hK hfk hN
      generalize M.any (fun q => osSame L[k].x q.x) = BM at *
      generalize L[k] = X at *
      go_wp2_with fail
      clear a0 a1 a2
      generalize (wr.alloc (.cells #[.slice X.vo X.x.c.length X.vc, .bool X.x.d, .string X.x.v] 47)) = WB at *
      generalize wr.heap.size = h at *
      refine yc.mono ?_
      rintro e w1 ⟨rfl, k1⟩
      have K1 := KB.trans k1
      clear yc k1 KB
      cases BM with
      | false =>
        have HD2 : Hid (false = r) := by have := HD.out; rw [Bool.false_and] at this; exact this
        clear HD
        go_wp2
        go_ret
        exact ⟨by rw [← HD2.out]; rfl, K1⟩
      | true =>
        have HD2 : Hid (inAll (L.drop (k + 1)) M = r) := by have := HD.out; rw [Bool.true_and] at this; exact this
        clear HD
        go_wp2
        go_roundw
        case rel => exact ⟨k + 1, by go_num, by omega, HD2, K1⟩
        case measure => simp [intOf]; omega
    · have j2 : ¬ (k : Int) < L.length := by omega
      have hd := HK.out
      rw [List.drop_eq_nil_of_le (by omega)] at hd
      have HD : Hid (true = r) := hd
      clear hd HK
      go_wp2
      go_ret
      exact ⟨by rw [← HD.out]; rfl, hK⟩
end Go.Proofs.Ytmllchembkpdkaa
