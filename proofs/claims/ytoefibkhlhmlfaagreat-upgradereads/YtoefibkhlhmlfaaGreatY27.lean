/-
  What this seat's claims lean on of the texts OlA.
  Conditions: as each theorem states.
-/
import Derived.WalkKit
import Derived.ProofKit
import Derived.Below
import Derived.Deep.Draws
import Derived.Deep.RegionHeld
import Derived.Test.YtoefibkhlhmlfaaGreatChecked
import Derived.OpenShut
import Derived.ShutString
import Derived.WalkSpells
import Derived.WalkLawsBesides
import Derived.Deep.QuietTactic
import Derived.BigQuiet
import Derived.Laws.Bits64b
import Derived.PlainAid
import Derived.Lib.AppendStr
import Derived.Deep.AppendLies
import Derived.Laws.IdiomStrings
import Derived.Laws.BytesArg
import Derived.Deep.RegionWith
import Derived.Laws.AppendOwn
import Derived.Deep.DeepAppendWide
import Derived.Deep.Upon
import Derived.Maps.AppendAt
import Derived.Deep.Slices
import Derived.Test.YtoefibkhlhmlfaaGreatY21
import Derived.Test.YtoefibkhlhmlfaaGreatY24
namespace Go.Proofs.YtoefibkhlhmlfaaGreat
open Go.RowKit
theorem empty_no17 {a : ByteArray} (h : a.size ≠ 0) : a.toList.isEmpty = false := by
  rw [ByteArray.toList_eq]
  cases hb : a.data.toList with
  | nil => exact absurd (by show a.data.size = 0; rw [← Array.length_toList, hb]; rfl) h
  | cons x l => rfl
theorem empty_eq17 {a : ByteArray} (h : a.size = 0) : a = ⟨#[]⟩ := ByteArray.ext (Array.eq_empty_of_size_eq_zero h)
def Oks (x : Os) : Prop := Ok10 x.c ∧ x.v.size ≤ 1000000
theorem Ok17.s {key : ByteArray} {L : List Po} (h : Ok17 key L) : ∀ p ∈ L, Oks p.x := fun p hp => ⟨⟨(h.sib p hp).1, (h.sib p hp).2.vec.2⟩, h.val p hp⟩
set_option maxRecDepth 100000 in
set_option maxHeartbeats 8000000 in
theorem head17 (w : World) (key : ByteArray) (hk : key.size ≤ maxLen) (n : Nat) :
    Calls Tryz.prog 58 #[.string key, .int .i64 (n : Int)] w fun e w' => e = .returned (.int .i64 (outS key n)) ∧ w = w' := by
  have i0 : (key.size : Int) ≤ 9223372036854775807 := by unfold maxLen at hk; omega
  unfold outS
  by_cases h1 : 128 < key.size
  · rw [if_pos h1]
    have j1 : (128 : Int) < key.size := by omega
    go_enter Tryz.func58, Tryz.ntmps58
    go_wp2
    go_ret
    exact ⟨rfl, rfl⟩
  rw [if_neg h1]
  have j1 : ¬ (128 : Int) < key.size := by omega
  by_cases h2 : key.size = 0
  · rw [if_pos h2]
    have es := empty_eq17 h2
    subst es
    clear h1 h2 j1 i0 hk
    go_enter Tryz.func58, Tryz.ntmps58
    go_wp2
    go_ret
    exact ⟨rfl, rfl⟩
  rw [if_neg h2]
  have e1 := empty_no17 h2
  by_cases h3 : 16 < n
  · rw [if_pos h3]
    have j3 : (16 : Int) < n := by omega
    clear h1 h2 hk
    go_enter Tryz.func58, Tryz.ntmps58
    go_wp2
    go_ret
    exact ⟨rfl, rfl⟩
  rw [if_neg h3]
  have j3 : ¬ (16 : Int) < n := by omega
  by_cases h4 : n = 0
  · rw [if_pos h4]
    subst h4
    clear h1 h2 h3 hk
    go_enter Tryz.func58, Tryz.ntmps58
    go_wp2
    go_ret
    exact ⟨rfl, rfl⟩
  rw [if_neg h4]
  have j4 : ((n : Int) == 0) = false := beq_eq_false_iff_ne.2 (by omega)
  have j4' : ¬ (n : Int) = 0 := by omega
  clear h1 h2 h3 h4 hk
  go_enter Tryz.func58, Tryz.ntmps58
  go_wp2
  go_ret
  exact ⟨rfl, rfl⟩
set_option maxRecDepth 100000 in
theorem twinF17 (w : World) (g : Nat) (x y : Po) (ox : Oks x.x) (oy : Oks y.x) (x0 : w.cell? ⟨g, 0, none⟩ = some (.slice x.vo x.x.c.length x.vc)) (hx : EnsAt w x.vo x.x.c) (hy : EnsAt w y.vo y.x.c) :
    Calls Tryz.prog 129 #[.agg #[.slice y.vo y.x.c.length y.vc, .bool y.x.d, .string y.x.v], ptr g] w fun e w' => e = .returned (.bool (vSame x.x.c y.x.c)) ∧ Keep0 w w' := by
  have kA : Keep0 w (w.alloc (.cells #[.slice y.vo y.x.c.length y.vc, .bool y.x.d, .string y.x.v] 56)) := (Keep.refl _ w).alloc _
  obtain ⟨z0, z1, z2⟩ := poAt_new w 56 y
  replace x0 := kA.cell x0 (fun f => f)
  have ys := same10 (w.alloc (.cells #[.slice y.vo y.x.c.length y.vc, .bool y.x.d, .string y.x.v] 56)) x.vo y.vo x.vc y.vc x.x.c y.x.c ox.1 oy.1 (hx.keep0 kA) (hy.keep0 kA)
  generalize vSame x.x.c y.x.c = R at *
  clear hx hy ox oy z1 z2
  go_enter Tryz.func129, Tryz.ntmps129
  go_wp2_with fail
  generalize (w.alloc (.cells #[.slice y.vo y.x.c.length y.vc, .bool y.x.d, .string y.x.v] 56)) = W0 at *
  generalize w.heap.size = h at *
  refine ys.mono ?_
  rintro e w1 ⟨rfl, k1⟩
  have K1 := kA.trans k1
  clear ys k1 kA x0 z0
  go_wp2
  go_ret
  exact ⟨rfl, K1⟩
def RIdx (r : Bool) (w : World) (e : Ending) (w' : World) : Prop := ∃ I : Int, e = .returned (.int .i64 I) ∧ decide (0 ≤ I) = r ∧ Keep0 w w'
set_option maxRecDepth 100000 in
set_option maxHeartbeats 8000000 in
theorem index17t (w : World) (g : Nat) (φ : Os → Bool) (ao : Option Addr) (cap : Nat) (L : List Po) (hl : L.length ≤ maxLen) (hc : PosAt w ao L) (hF : ∀ p ∈ L, ∀ W, Keep0 w W → Calls Tryz.prog 129 #[.agg #[.slice p.vo p.x.c.length p.vc, .bool p.x.d, .string p.x.v], ptr g] W fun e w' => e = .returned (.bool (φ p.x)) ∧ Keep0 W w') :
    Calls Tryz.prog 121 #[.slice ao L.length cap, .func (.func 129) #[] #[ptr g]] w (RIdx (L.any (fun p => φ p.x)) w) := by
  have i1 : (L.length : Int) ≤ 9223372036854775807 := by unfold maxLen at hl; omega
  have HC : Hid (PosAt w ao L) := hc
  have HF : Hid (∀ p ∈ L, ∀ W, Keep0 w W → Calls Tryz.prog 129 #[.agg #[.slice p.vo p.x.c.length p.vc, .bool p.x.d, .string p.x.v], ptr g] W fun e w' => e = .returned (.bool (φ p.x)) ∧ Keep0 W w') := hF
  obtain ⟨r, hr⟩ : ∃ r, L.any (fun p => φ p.x) = r := ⟨_, rfl⟩
  rw [hr]
  have HR : Hid ((L.drop 0).any (fun p => φ p.x) = r) := by rw [List.drop_zero]; exact hr
  have HM : Hid (∀ (W : World) (e : Ending) (I : Int), e = .returned (.int .i64 I) → decide (0 ≤ I) = r → Keep0 w W → RIdx r w e W) := fun _ _ _ h1 h2 h3 => ⟨_, h1, h2, h3⟩
  clear hc hF hr hl
  go_enter Tryz.func121, Tryz.ntmps121
  go_wp2_with fail
  go_loopw [8] (fun i wr => ∃ (k : Nat), i = .int .i64 (k : Int) ∧ k ≤ L.length ∧ Hid ((L.drop k).any (fun p => φ p.x) = r) ∧ Keep0 w wr) (fun i _ => L.length - (intOf i).toNat)
  case atStart => exact ⟨0, rfl, by omega, HR, Keep.refl _ _⟩
  case round =>
    obtain ⟨k, rfl, hk, HK, hK⟩ := hrel
    clear HR
    by_cases hlt : k < L.length
    · have j2 : (k : Int) < L.length := by omega
      obtain ⟨b, off, rfl, s1, _⟩ := (HC.out.keep0 hK).at_ k hlt
      obtain ⟨a0, a1, a2⟩ := s1
      have yf := HF.out _ (List.getElem_mem hlt) wr hK
      have hd := HK.out
      rw [List.drop_eq_getElem_cons hlt, List.any_cons] at hd
      have HD : Hid ((φ L[k].x || (L.drop (k + 1)).any (fun p => φ p.x)) = r) := hd
      clear hd HK
      generalize φ L[k].x = BF at *
      generalize L[k] = Y at *
      go_wp2_with fail
      refine yf.mono ?_
      rintro e w1 ⟨rfl, k1⟩
      have K1 := hK.trans k1
      clear yf k1 hK a0 a1 a2
      cases BF with
      | true =>
        have HD2 : Hid (true = r) := by have := HD.out; rw [Bool.true_or] at this; exact this
        clear HD
        go_wp2
        go_ret
        exact HM.out _ _ _ rfl (by rw [← HD2.out]; exact decide_eq_true (Int.natCast_nonneg k)) K1
      | false =>
        have HD2 : Hid ((L.drop (k + 1)).any (fun p => φ p.x) = r) := by have := HD.out; rw [Bool.false_or] at this; exact this
        clear HD
        go_wp2
        go_roundw
        case rel => exact ⟨k + 1, by go_num, by omega, HD2, K1⟩
        case measure => simp [intOf]; omega
    · have j2 : ¬ (k : Int) < L.length := by omega
      have hd := HK.out
      rw [List.drop_eq_nil_of_le (by omega)] at hd
      have HD : Hid (false = r) := hd
      clear hd HK
      go_wp2
      go_ret
      exact HM.out _ _ _ rfl (by rw [← HD.out]; rfl) hK
set_option maxRecDepth 100000 in
set_option maxHeartbeats 8000000 in
theorem contains17t (w : World) (g : Nat) (φ : Os → Bool) (ao : Option Addr) (cap : Nat) (L : List Po) (hl : L.length ≤ maxLen) (hc : PosAt w ao L) (hF : ∀ p ∈ L, ∀ W, Keep0 w W → Calls Tryz.prog 129 #[.agg #[.slice p.vo p.x.c.length p.vc, .bool p.x.d, .string p.x.v], ptr g] W fun e w' => e = .returned (.bool (φ p.x)) ∧ Keep0 W w') :
    Calls Tryz.prog 87 #[.slice ao L.length cap, .func (.func 129) #[] #[ptr g]] w fun e w' => e = .returned (.bool (L.any (fun p => φ p.x))) ∧ Keep0 w w' := by
  have y := index17t w g φ ao cap L hl hc hF
  generalize L.any (fun p => φ p.x) = R at *
  clear hc hF hl
  generalize L.length = n at *
  go_enter Tryz.func87, Tryz.ntmps87
  go_wp2_with fail
  refine y.mono ?_
  rintro e w1 ⟨I, rfl, hI, k1⟩
  clear y
  cases R with
  | true =>
    have h0 : (0 : Int) ≤ I := of_decide_eq_true hI
    clear hI
    go_wp2
    go_ret
    exact ⟨rfl, k1⟩
  | false =>
    have h0 : ¬ (0 : Int) ≤ I := of_decide_eq_false hI
    go_wp2
    go_ret
    exact ⟨rfl, k1⟩
theorem any_twin (L : List Po) (x : Os) : L.any (fun p => vSame x.c p.x.c) = seenIn (L.map Po.x) x := by
  rw [Bool.eq_iff_iff, seenIn_iff, List.any_eq_true]
  constructor
  · rintro ⟨p, h1, h2⟩
    exact ⟨p.x, List.mem_map.2 ⟨p, h1, rfl⟩, (vSame_iff.1 h2).symm⟩
  · rintro ⟨y, h1, h2⟩
    obtain ⟨p, h3, rfl⟩ := List.mem_map.1 h1
    exact ⟨p, h3, vSame_iff.2 h2.symm⟩
set_option maxRecDepth 100000 in
set_option maxHeartbeats 8000000 in
theorem twin17 (w : World) (ao : Option Addr) (cap : Nat) (L : List Po) (x : Po) (hl : L.length ≤ maxLen) (hL : ∀ p ∈ L, Oks p.x) (ox : Oks x.x) (hc : PosAt w ao L) (hx : EnsAt w x.vo x.x.c) :
    Calls Tryz.prog 96 #[.slice ao L.length cap, .agg #[.slice x.vo x.x.c.length x.vc, .bool x.x.d, .string x.x.v]] w fun e w' => e = .returned (.int .i64 (osTest (L.map Po.x) x.x)) ∧ Keep0 w w' := by
  have kA : Keep0 w (w.alloc (.cells #[.slice x.vo x.x.c.length x.vc, .bool x.x.d, .string x.x.v] 56)) := (Keep.refl _ w).alloc _
  have x0 := (poAt_new w 56 x).c0
  have y : Calls Tryz.prog 87 #[.slice ao L.length cap, .func (.func 129) #[] #[ptr w.heap.size]] (w.alloc (.cells #[.slice x.vo x.x.c.length x.vc, .bool x.x.d, .string x.x.v] 56)) fun e w' => e = .returned (.bool (seenIn (L.map Po.x) x.x)) ∧ Keep0 (w.alloc (.cells #[.slice x.vo x.x.c.length x.vc, .bool x.x.d, .string x.x.v] 56)) w' := by
    have h := contains17t (w.alloc (.cells #[.slice x.vo x.x.c.length x.vc, .bool x.x.d, .string x.x.v] 56)) w.heap.size (fun y => vSame x.x.c y.c) ao cap L hl (hc.keep0 kA) (fun p hp W K => twinF17 W w.heap.size x p ox (hL p hp) (K.cell x0 (fun f => f)) (hx.keep0 (kA.trans K)) ((hc.ins p hp).keep0 (kA.trans K)))
    rw [any_twin L x.x] at h
    exact h
  unfold osTest
  generalize seenIn (L.map Po.x) x.x = R at *
  clear hl hL ox hc hx x0
  generalize L.length = n at *
  go_enter Tryz.func96, Tryz.ntmps96
  go_wp2_with fail
  generalize (w.alloc (.cells #[.slice x.vo x.x.c.length x.vc, .bool x.x.d, .string x.x.v] 56)) = W0 at *
  generalize w.heap.size = g at *
  refine y.mono ?_
  rintro e w1 ⟨rfl, k1⟩
  have K1 := kA.trans k1
  clear y k1 kA
  cases R with
  | true =>
    go_wp2
    go_ret
    exact ⟨rfl, K1⟩
  | false =>
    go_wp2
    go_ret
    exact ⟨rfl, K1⟩
theorem osOne_a {l : List Os} {x : Os} (h : vCheck x.c ≠ 0) : osOne l x = vCheck x.c := by
  have e : osCheck x = vCheck x.c := by unfold osCheck; rw [if_neg h]
  unfold osOne
  rw [e, if_neg h]
theorem osOne_b {l : List Os} {x : Os} (h : vCheck x.c = 0) (h1 : 32768 < x.v.size) : osOne l x = 3 := by
  have e : osCheck x = 3 := by unfold osCheck; rw [if_pos h, if_pos h1]
  unfold osOne
  rw [e, if_neg (by decide)]
theorem osOne_c {l : List Os} {x : Os} (h : vCheck x.c = 0) (h1 : ¬ 32768 < x.v.size) : osOne l x = osTest l x := by
  have e : osCheck x = 0 := by unfold osCheck; rw [if_pos h, if_neg h1]
  unfold osOne
  rw [if_pos e]
set_option maxRecDepth 100000 in
set_option maxHeartbeats 8000000 in
theorem sib17 (w : World) (ao : Option Addr) (cap : Nat) (L : List Po) (x : Po) (hl : L.length ≤ maxLen) (hL : ∀ p ∈ L, Oks p.x) (ox : Oks x.x) (hc : PosAt w ao L) (hx : EnsAt w x.vo x.x.c) :
    Calls Tryz.prog 59 #[.slice ao L.length cap, .agg #[.slice x.vo x.x.c.length x.vc, .bool x.x.d, .string x.x.v]] w fun e w' => e = .returned (.int .i64 (osOne (L.map Po.x) x.x)) ∧ Keep0 w w' := by
  have i0 : (x.x.v.size : Int) ≤ 9223372036854775807 := by have := ox.2; omega
  have kA : Keep0 w (w.alloc (.cells #[.slice x.vo x.x.c.length x.vc, .bool x.x.d, .string x.x.v] 56)) := (Keep.refl _ w).alloc _
  obtain ⟨x0, x1, x2⟩ := poAt_new w 56 x
  have yc := check10 (w.alloc (.cells #[.slice x.vo x.x.c.length x.vc, .bool x.x.d, .string x.x.v] 56)) x.vo x.vc x.x.c ox.1 (hx.keep0 kA)
  have yt := fun W (K : Keep0 w W) => twin17 W ao cap L x hl hL ox (hc.keep0 K) (hx.keep0 K)
  by_cases h1 : vCheck x.x.c = 0
  case neg =>
    rw [osOne_a h1]
    have e1 : (vCheck x.x.c != 0) = true := by simpa using h1
    clear yt hl hL ox hc hx h1
    generalize vCheck x.x.c = C at *
    go_enter Tryz.func59, Tryz.ntmps59
    go_wp2_with fail
    generalize (w.alloc (.cells #[.slice x.vo x.x.c.length x.vc, .bool x.x.d, .string x.x.v] 56)) = W0 at *
    generalize w.heap.size = g at *
    refine yc.mono ?_
    rintro e w1 ⟨rfl, k1⟩
    have K1 := kA.trans k1
    clear yc k1 kA x0 x1 x2
    go_wp2
    go_ret
    exact ⟨rfl, K1⟩
  rw [h1] at yc
  by_cases h2 : 32768 < x.x.v.size
  · rw [osOne_b h1 h2]
    have j2 : (32768 : Int) < x.x.v.size := by omega
    clear yt hl hL ox hc hx h1 h2
    go_enter Tryz.func59, Tryz.ntmps59
    go_wp2_with fail
    generalize (w.alloc (.cells #[.slice x.vo x.x.c.length x.vc, .bool x.x.d, .string x.x.v] 56)) = W0 at *
    generalize w.heap.size = g at *
    refine yc.mono ?_
    rintro e w1 ⟨rfl, k1⟩
    have K1 := kA.trans k1
    replace x2 := k1.cell x2 (fun f => f)
    clear yc k1 kA x0 x1
    go_wp2
    go_ret
    exact ⟨rfl, K1⟩
  rw [osOne_c h1 h2]
  have j2 : ¬ (32768 : Int) < x.x.v.size := by omega
  generalize osTest (L.map Po.x) x.x = D at *
  clear hl hL ox hc hx h1 h2
  go_enter Tryz.func59, Tryz.ntmps59
  go_wp2_with fail
  generalize (w.alloc (.cells #[.slice x.vo x.x.c.length x.vc, .bool x.x.d, .string x.x.v] 56)) = W0 at *
  generalize w.heap.size = g at *
  refine yc.mono ?_
  rintro e w1 ⟨rfl, k1⟩
  have K1 := kA.trans k1
  replace x0 := k1.cell x0 (fun f => f)
  replace x1 := k1.cell x1 (fun f => f)
  replace x2 := k1.cell x2 (fun f => f)
  have yt := yt _ K1
  clear yc k1 kA
  go_wp2_with fail
  refine yt.mono ?_
  rintro e w2 ⟨rfl, k2⟩
  have K2 := K1.trans k2
  clear yt k2 K1 x0 x1 x2
  go_wp2
  go_ret
  exact ⟨rfl, K2⟩
theorem pos_take {w : World} {ao : Option Addr} {L : List Po} (h : PosAt w ao L) (k : Nat) : PosAt w ao (L.take k) := ⟨h.row.take k, fun p hp => h.ins p (List.mem_of_mem_take hp)⟩
theorem osGo_step {L : List Po} {k : Nat} (hk : k < L.length) : mGo osOne osNext ((L.take k).map Po.x) ((L.drop k).map Po.x) = if osOne ((L.take k).map Po.x) L[k].x = 0 then mGo osOne osNext ((L.take (k + 1)).map Po.x) ((L.drop (k + 1)).map Po.x) else osOne ((L.take k).map Po.x) L[k].x := by
  have e1 : (L.drop k).map Po.x = L[k].x :: (L.drop (k + 1)).map Po.x := by rw [List.drop_eq_getElem_cons hk, List.map_cons]
  have e2 : (L.take (k + 1)).map Po.x = osNext ((L.take k).map Po.x) L[k].x := by rw [List.take_succ_eq_append_getElem hk, List.map_append]; rfl
  rw [e1, e2, mGo]
set_option maxRecDepth 100000 in
set_option maxHeartbeats 8000000 in
theorem check17_any (w : World) (key : ByteArray) (ao : Option Addr) (cap : Nat) (L : List Po) (hk : key.size ≤ maxLen) (hl : L.length ≤ maxLen) (hL : ∀ p ∈ L, Oks p.x) (hcap : L.length ≤ cap) (hcap2 : cap ≤ maxLen) (hc : PosAt w ao L) :
    Calls Tryz.prog 27 #[.agg #[.string key, .slice ao L.length cap]] w fun e w' => e = .returned (.int .i64 (olCheck ⟨key, L.map Po.x⟩)) ∧ Keep0 w w' := by
  have i1 : (L.length : Int) ≤ 9223372036854775807 := by unfold maxLen at hl; omega
  have ica : (cap : Int) ≤ 9223372036854775807 := by unfold maxLen at hcap2; omega
  have kA : Keep0 w (w.alloc (.cells #[.string key, .slice ao L.length cap] 24)) := (Keep.refl _ w).alloc _
  have x0 : (w.alloc (.cells #[.string key, .slice ao L.length cap] 24)).cell? ⟨w.heap.size, 0, none⟩ = some (.string key) := cell_alloc w _ rfl
  have x1 : (w.alloc (.cells #[.string key, .slice ao L.length cap] 24)).cell? ⟨w.heap.size, 1, none⟩ = some (.slice ao L.length cap) := cell_alloc w _ rfl
  have yo := fun W => head17 W key hk L.length
  have hg : olCheck ⟨key, L.map Po.x⟩ = if outS key L.length = 0 then mGo osOne osNext [] (L.map Po.x) else outS key L.length := by
    have e : (L.map Po.x).length = L.length := List.length_map ..
    unfold olCheck
    rw [← e]
  rw [hg]
  clear hg hk
  by_cases h0 : outS key L.length = 0
  case neg =>
    rw [if_neg h0]
    have e0 : (outS key L.length != 0) = true := by simpa using h0
    clear hc hL h0 hcap hcap2
    generalize outS key L.length = C at *
    go_enter Tryz.func27, Tryz.ntmps27
    go_wp2_with fail
    refine (yo _).mono ?_
    rintro e w1 ⟨rfl, rfl⟩
    go_wp2
    go_ret
    exact ⟨rfl, kA⟩
  rw [if_pos h0]
  rw [h0] at yo
  have HC : Hid (PosAt w ao L) := hc
  have HF : Hid (∀ p ∈ L, Oks p.x) := hL
  have HL : Hid (L.length ≤ maxLen) := hl
  obtain ⟨r, hr⟩ : ∃ r, mGo osOne osNext [] (L.map Po.x) = r := ⟨_, rfl⟩
  rw [hr]
  have HR : Hid (mGo osOne osNext ((L.take 0).map Po.x) ((L.drop 0).map Po.x) = r) := by rw [List.drop_zero, List.take_zero]; exact hr
  clear hc hL hr h0 hl
  go_enter Tryz.func27, Tryz.ntmps27
  go_wp2_with fail
  refine (yo _).mono ?_
  rintro e w1 ⟨rfl, rfl⟩
  clear yo
  go_wp2_with fail
  generalize (w.alloc (.cells #[.string key, .slice ao L.length cap] 24)) = W0 at *
  generalize hg : w.heap.size = g at *
  go_loopw [19] (fun i wr => ∃ (k : Nat), i = .int .i64 (k : Int) ∧ k ≤ L.length ∧ Hid (mGo osOne osNext ((L.take k).map Po.x) ((L.drop k).map Po.x) = r) ∧ wr.cell? ⟨g, 1, none⟩ = some (.slice ao L.length cap) ∧ Keep0 w wr) (fun i _ => L.length - (intOf i).toNat)
  case atStart => exact ⟨0, rfl, by omega, HR, x1, kA⟩
  case round =>
    obtain ⟨k, rfl, hk, HK, xk, hK⟩ := hrel
    clear HR x0 x1 kA
    by_cases hlt : k < L.length
    · have j2 : (k : Int) < L.length := by omega
      obtain ⟨b, off, rfl, s1, s2⟩ := HC.out.at_ k hlt
      have hfk := HF.out _ (List.getElem_mem hlt)
      obtain ⟨a0, a1, a2⟩ := s1.keep0 hK
      have kB : Keep0 wr (wr.alloc (.cells #[.slice L[k].vo L[k].x.c.length L[k].vc, .bool L[k].x.d, .string L[k].x.v] 56)) := (Keep.refl _ wr).alloc _
      obtain ⟨q0, q1, q2⟩ := poAt_new wr 56 L[k]
      have KB := hK.trans kB
      replace xk := kB.cell xk (fun f => f)
      have etl : (L.take k).length = k := by rw [List.length_take]; omega
      have yq : ∀ W, Keep0 w W → Calls Tryz.prog 59 #[.slice (some ⟨b, off, none⟩) k cap, .agg #[.slice L[k].vo L[k].x.c.length L[k].vc, .bool L[k].x.d, .string L[k].x.v]] W fun e w' => e = .returned (.int .i64 (osOne ((L.take k).map Po.x) L[k].x)) ∧ Keep0 W w' := by
        intro W KW
        have h := sib17 W (some ⟨b, off, none⟩) cap (L.take k) L[k] (by rw [etl]; have := HL.out; omega) (fun y hy => HF.out y (List.mem_of_mem_take hy)) hfk ((pos_take HC.out k).keep0 KW) (s2.keep0 KW)
        rw [etl] at h
        exact h
      have hd := HK.out
      rw [osGo_step hlt] at hd
      have HD : Hid ((if osOne ((L.take k).map Po.x) L[k].x = 0 then mGo osOne osNext ((L.take (k + 1)).map Po.x) ((L.drop (k + 1)).map Po.x) else osOne ((L.take k).map Po.x) L[k].x) = r) := hd
      have j3 : k ≤ cap := by omega
      have j4 : (k : Int) ≤ cap := by omega
      clear s1 s2 HK etl kB hfk hd
      generalize osOne ((L.take k).map Po.x) L[k].x = D at *
      generalize L[k] = X at *
      go_wp2_with fail
      clear a0 a1 a2
      generalize (wr.alloc (.cells #[.slice X.vo X.x.c.length X.vc, .bool X.x.d, .string X.x.v] 56)) = WB at *
      generalize wr.heap.size = h at *
      refine wp_region_held_drew (S := (fun W => W.cell? ⟨g, 1, none⟩ = some (.slice (some ⟨b, off, none⟩) L.length cap) ∧ W.cell? ⟨h, 0, none⟩ = some (.slice X.vo X.x.c.length X.vc) ∧ W.cell? ⟨h, 1, none⟩ = some (.bool X.x.d) ∧ W.cell? ⟨h, 2, none⟩ = some (.string X.x.v))) (by kernel_rfl) ⟨xk, q0, q1, q2⟩ (fun hHeld => ?_)
      refine wpAnyH_take (i := 0) (v := ?c0v) (by simp only [List.getElem?_toArray, List.getElem?_cons_zero] <;> rfl) (by kernel_rfl) (by kernel_rfl) (by kernel_rfl) (by exact fun _ _ _ h => h) (Or.inl ⟨by rfl, ?c0y⟩) hHeld ?c0r
      case c0y => intro w hSw; (try dsimp only at hSw); go_simp <;> rfl
      simp only [Act.put, List.setIfInBounds_toArray, List.set_cons_zero, List.set_cons_succ]
      refine wpAnyH_take (i := 1) (v := ?c1v) (by simp only [List.getElem?_toArray, List.getElem?_cons_succ, List.getElem?_cons_zero] <;> rfl) (by kernel_rfl) (by kernel_rfl) (by kernel_rfl) (by exact fun _ _ _ h => h) (Or.inl ⟨by rfl, ?c1y⟩) hHeld ?c1r
      case c1y => intro w hSw; (try dsimp only at hSw); go_simp <;> rfl
      simp only [Act.put, List.setIfInBounds_toArray, List.set_cons_zero, List.set_cons_succ]
      refine wpAnyH_take (i := 2) (v := ?c2v) (by simp only [List.getElem?_toArray, List.getElem?_cons_succ, List.getElem?_cons_zero] <;> rfl) (by kernel_rfl) (by kernel_rfl) (by kernel_rfl) (by exact fun _ _ _ h => h) (Or.inl ⟨by rfl, ?c2y⟩) hHeld ?c2r
      case c2y => intro w hSw; (try dsimp only at hSw); go_simp <;> rfl
      simp only [Act.put, List.setIfInBounds_toArray, List.set_cons_zero, List.set_cons_succ]
      refine wpAnyH_take (i := 3) (v := ?c3v) (by simp only [List.getElem?_toArray, List.getElem?_cons_succ, List.getElem?_cons_zero] <;> rfl) (by kernel_rfl) (by kernel_rfl) (by kernel_rfl) (by exact fun _ _ _ h => h) (Or.inl ⟨by rfl, ?c3y⟩) hHeld ?c3r
      case c3y => intro w hSw; (try dsimp only at hSw); go_simp <;> rfl
      simp only [Act.put, List.setIfInBounds_toArray, List.set_cons_zero, List.set_cons_succ]
      refine wpAnyH_take (i := 4) (v := ?c4v) (by simp only [List.getElem?_toArray, List.getElem?_cons_succ, List.getElem?_cons_zero] <;> rfl) (by kernel_rfl) (by kernel_rfl) (by kernel_rfl) (by exact fun _ _ _ h => h) (Or.inl ⟨by rfl, ?c4y⟩) hHeld ?c4r
      case c4y => intro w hSw; (try dsimp only at hSw); go_simp <;> rfl
      simp only [Act.put, List.setIfInBounds_toArray, List.set_cons_zero, List.set_cons_succ]
      refine wpAnyH_ready (rs := [5]) (by kernel_rfl) (by simp) ?_
      refine AllReadyH.cons (by simp only [List.getElem?_toArray, List.getElem?_cons_succ, List.getElem?_cons_zero] <;> rfl) (fun K hK => ?_) AllReadyH.nil
      go_simp
      refine (yq _ KB.drew).mono ?_
      rintro e w3 ⟨rfl, kx⟩
      have kw : Keep0 WB w3 := ((Keep.refl _ WB).drew).trans kx
      clear kx
      go_wp2_with fail
      refine hK.out _ _ ⟨kw.cell xk (fun f => f), kw.cell q0 (fun f => f), kw.cell q1 (fun f => f), kw.cell q2 (fun f => f)⟩ (fun hHeld => ?_)
      clear hK K
      refine wpAnyH_take (i := 6) (v := ?c5v) (by simp only [List.getElem?_toArray, List.getElem?_cons_succ, List.getElem?_cons_zero] <;> rfl) (by kernel_rfl) (by kernel_rfl) (by kernel_rfl) (by exact fun _ _ _ h => h) (Or.inl ⟨by rfl, ?c5y⟩) hHeld ?c5r
      case c5y => intro w hSw; (try dsimp only at hSw); go_simp <;> rfl
      simp only [Act.put, List.setIfInBounds_toArray, List.set_cons_zero, List.set_cons_succ]
      refine wpAnyH_done (by kernel_rfl) ?_ _
      have K3 := KB.trans kw
      have u1 := kw.cell xk (fun f => f)
      clear yq kw KB hK hHeld xk q0 q1 q2
      by_cases h2 : D = 0
      case neg =>
        have e0 : (D != 0) = true := by simpa using h2
        have HD2 : Hid (D = r) := by
          have hd := HD.out
          rw [if_neg h2] at hd
          exact hd
        clear HD h2
        go_wp2
        go_ret
        exact ⟨by rw [← HD2.out]; rfl, K3⟩
      subst h2
      have HD2 : Hid (mGo osOne osNext ((L.take (k + 1)).map Po.x) ((L.drop (k + 1)).map Po.x) = r) := by
        have hd := HD.out
        rw [if_pos rfl] at hd
        exact hd
      clear HD
      go_wp2
      go_roundw
      case rel => exact ⟨k + 1, by go_num, by omega, HD2, u1, K3⟩
      case measure => simp [intOf]; omega
    · have j2 : ¬ (k : Int) < L.length := by omega
      have hd := HK.out
      rw [List.drop_eq_nil_of_le (by omega)] at hd
      have HD : Hid (0 = r) := hd
      clear hd HK
      go_wp2
      go_ret
      exact ⟨by rw [← HD.out]; rfl, hK⟩
theorem check17 (w : World) (key : ByteArray) (ao : Option Addr) (cap : Nat) (L : List Po) (ok : Ok17 key L) (hcap : L.length ≤ cap) (hcap2 : cap ≤ maxLen) (hc : PosAt w ao L) :
    Calls Tryz.prog 27 #[.agg #[.string key, .slice ao L.length cap]] w fun e w' => e = .returned (.int .i64 (olCheck ⟨key, L.map Po.x⟩)) ∧ Keep0 w w' :=
  check17_any w key ao cap L (by have := ok.key; unfold maxLen; omega) (by have := ok.len; unfold maxLen; omega) ok.s hcap hcap2 hc
end Go.Proofs.YtoefibkhlhmlfaaGreat
