/-
  What this seat's claims lean on of the texts OlE.
  Conditions: as each theorem states.
-/
import Derived.WalkKit
import Derived.ProofKit
import Derived.Below
import Derived.Deep.Draws
import Derived.Deep.RegionHeld
import Derived.Test.YtmllchembkpdkaaChecked
import Derived.OpenShut
import Derived.ShutString
import Derived.WalkSpells
import Derived.WalkLawsBesides
import Derived.Deep.QuietTactic
import Derived.BigQuiet
import Derived.Laws.Bits64b
import Derived.PlainAid
import Derived.Lib.AppendStr
import Derived.Deep.AppendLies
import Derived.Laws.IdiomStrings
import Derived.Laws.BytesArg
import Derived.Deep.RegionWith
import Derived.Laws.AppendOwn
import Derived.Deep.DeepAppendWide
import Derived.Deep.Upon
import Derived.Maps.AppendAt
import Derived.Deep.Slices
import Derived.Laws.Rows
import Derived.Test.YtmllchembkpdkaaZ46
namespace Go.Proofs.Ytmllchembkpdkaa
open Go.RowKit
set_option maxRecDepth 100000 in
set_option maxHeartbeats 8000000 in
theorem alike17 (w : World) (key : ByteArray) (ao : Option Addr) (cap : Nat) (L : List Po) (key' : ByteArray) (ao' : Option Addr) (cap' : Nat) (M : List Po) (ok : Ok17 key L) (h1 : L.length ≤ cap) (h2 : cap ≤ maxLen) (hc : PosAt w ao L) (ok' : Ok17 key' M) (h1' : M.length ≤ cap') (h2' : cap' ≤ maxLen) (hc' : PosAt w ao' M) :
    Calls Try.prog 15 #[.agg #[.string key, .slice ao L.length cap], .agg #[.string key', .slice ao' M.length cap']] w fun e w' => e = .returned (.bool (olAlike ⟨key, L.map Po.x⟩ ⟨key', M.map Po.x⟩)) ∧ Keep0 w w' := by
  have i1 : (L.length : Int) ≤ 9223372036854775807 := by have := ok.len; omega
  have i2 : (M.length : Int) ≤ 9223372036854775807 := by have := ok'.len; omega
  have k0 : Keep0 w (w.alloc (.cells #[.string key, .slice ao L.length cap] 24)) := (Keep.refl _ w).alloc _
  have kB : Keep0 (w.alloc (.cells #[.string key, .slice ao L.length cap] 24)) ((w.alloc (.cells #[.string key, .slice ao L.length cap] 24)).alloc (.cells #[.string key', .slice ao' M.length cap'] 24)) := (Keep.refl _ _).alloc _
  have kA := k0.trans kB
  have q0 : DAt ((w.alloc (.cells #[.string key, .slice ao L.length cap] 24)).alloc (.cells #[.string key', .slice ao' M.length cap'] 24)) w.heap.size (.string key) (.slice ao L.length cap) := (DAt.new w 24 (.string key) (.slice ao L.length cap)).keep0 kB
  have q1 : DAt ((w.alloc (.cells #[.string key, .slice ao L.length cap] 24)).alloc (.cells #[.string key', .slice ao' M.length cap'] 24)) (w.heap.size + 1) (.string key') (.slice ao' M.length cap') := by
    have := DAt.new (w.alloc (.cells #[.string key, .slice ao L.length cap] 24)) 24 (.string key') (.slice ao' M.length cap')
    rw [World.size_alloc] at this
    exact this
  have ya := check17 ((w.alloc (.cells #[.string key, .slice ao L.length cap] 24)).alloc (.cells #[.string key', .slice ao' M.length cap'] 24)) key ao cap L ok h1 h2 (hc.keep0 kA)
  have yb := fun W (K : Keep0 w W) => check17 W key' ao' cap' M ok' h1' h2' (hc'.keep0 K)
  have yw := fun W (K : Keep0 w W) => within17 W ao cap L ao' cap' M (by have := ok.len; unfold maxLen; omega) (by have := ok'.len; unfold maxLen; omega) ok.s ok'.s (hc.keep0 K) (hc'.keep0 K)
  have el : (L.map Po.x).length = L.length := List.length_map ..
  have em : (M.map Po.x).length = M.length := List.length_map ..
  have hg : olAlike ⟨key, L.map Po.x⟩ ⟨key', M.map Po.x⟩ = (decide (olCheck ⟨key, L.map Po.x⟩ = 0) && (decide (olCheck ⟨key', M.map Po.x⟩ = 0) && (decide (key = key') && (decide (L.length = M.length) && allOnce (L.map Po.x) (M.map Po.x))))) := by
    rw [← el, ← em]
    rfl
  rw [hg]
  clear hg k0 kB el em hc hc' ok ok' h1 h2 h1' h2'
  by_cases c1 : olCheck ⟨key, L.map Po.x⟩ = 0
  case neg =>
    rw [decide_eq_false c1, Bool.false_and]
    have e1 : (olCheck ⟨key, L.map Po.x⟩ != 0) = true := by simpa using c1
    generalize olCheck ⟨key, L.map Po.x⟩ = C at *
    go_enter Try.func15, Try.ntmps15
    go_wp2_with fail
    generalize ((w.alloc (.cells #[.string key, .slice ao L.length cap] 24)).alloc (.cells #[.string key', .slice ao' M.length cap'] 24)) = W0 at *
    generalize w.heap.size = g at *
    obtain ⟨x0, x1, -⟩ := q0.cells
    obtain ⟨z0, z1, -⟩ := q1.cells
    refine ya.mono ?_
    rintro e w1 ⟨rfl, k1⟩
    have K1 := kA.trans k1
    replace q0 := q0.keep0 k1
    replace q1 := q1.keep0 k1
    have yb := yb _ K1
    clear ya k1 kA x0 x1 z0 z1
    obtain ⟨x0, x1, -⟩ := q0.cells
    obtain ⟨z0, z1, -⟩ := q1.cells
    go_wp2
    go_ret
    exact ⟨rfl, K1⟩
  rw [c1] at ya
  rw [decide_eq_true c1, Bool.true_and]
  clear c1
  by_cases c2 : olCheck ⟨key', M.map Po.x⟩ = 0
  case neg =>
    rw [decide_eq_false c2, Bool.false_and]
    have e1 : (olCheck ⟨key', M.map Po.x⟩ != 0) = true := by simpa using c2
    generalize olCheck ⟨key', M.map Po.x⟩ = C at *
    go_enter Try.func15, Try.ntmps15
    go_wp2_with fail
    generalize ((w.alloc (.cells #[.string key, .slice ao L.length cap] 24)).alloc (.cells #[.string key', .slice ao' M.length cap'] 24)) = W0 at *
    generalize w.heap.size = g at *
    obtain ⟨x0, x1, -⟩ := q0.cells
    obtain ⟨z0, z1, -⟩ := q1.cells
    refine ya.mono ?_
    rintro e w1 ⟨rfl, k1⟩
    have K1 := kA.trans k1
    replace q0 := q0.keep0 k1
    replace q1 := q1.keep0 k1
    have yb := yb _ K1
    clear ya k1 kA x0 x1 z0 z1
    obtain ⟨x0, x1, -⟩ := q0.cells
    obtain ⟨z0, z1, -⟩ := q1.cells
    go_wp2_with fail
    refine yb.mono ?_
    rintro e w2 ⟨rfl, k2⟩
    have K2 := K1.trans k2
    replace q0 := q0.keep0 k2
    replace q1 := q1.keep0 k2
    clear yb K1 x0 x1 z0 z1
    obtain ⟨x0, x1, -⟩ := q0.cells
    obtain ⟨z0, z1, -⟩ := q1.cells
    go_wp2
    go_ret
    exact ⟨rfl, K2⟩
  have hu := (olCheck_zero.1 c2).2.2
  have hal : allOnce (L.map Po.x) (M.map Po.x) = inAll L M := allOnce_in hu
  rw [hal]
  simp only [c2] at yb
  rw [decide_eq_true c2, Bool.true_and]
  clear c2 hu hal
  by_cases c3 : key = key'
  case neg =>
    rw [decide_eq_false c3, Bool.false_and]
    obtain ⟨e2, e3, e4⟩ := txt_ne c3
    have e5 : (key == key') = false := by rw [beq_toListBytes]; exact e2
    go_enter Try.func15, Try.ntmps15
    go_wp2_with fail
    generalize ((w.alloc (.cells #[.string key, .slice ao L.length cap] 24)).alloc (.cells #[.string key', .slice ao' M.length cap'] 24)) = W0 at *
    generalize w.heap.size = g at *
    obtain ⟨x0, x1, -⟩ := q0.cells
    obtain ⟨z0, z1, -⟩ := q1.cells
    refine ya.mono ?_
    rintro e w1 ⟨rfl, k1⟩
    have K1 := kA.trans k1
    replace q0 := q0.keep0 k1
    replace q1 := q1.keep0 k1
    have yb := yb _ K1
    clear ya k1 kA x0 x1 z0 z1
    obtain ⟨x0, x1, -⟩ := q0.cells
    obtain ⟨z0, z1, -⟩ := q1.cells
    go_wp2_with fail
    refine yb.mono ?_
    rintro e w2 ⟨rfl, k2⟩
    have K2 := K1.trans k2
    replace q0 := q0.keep0 k2
    replace q1 := q1.keep0 k2
    clear yb K1 x0 x1 z0 z1
    obtain ⟨x0, x1, -⟩ := q0.cells
    obtain ⟨z0, z1, -⟩ := q1.cells
    go_wp2
    go_ret
    exact ⟨rfl, K2⟩
  subst c3
  rw [decide_eq_true rfl, Bool.true_and]
  by_cases c4 : L.length = M.length
  case neg =>
    rw [decide_eq_false c4, Bool.false_and]
    have j1 : ((L.length : Int) == (M.length : Int)) = false := beq_eq_false_iff_ne.2 (by omega)
    have j2 : ¬ (L.length : Int) = (M.length : Int) := by omega
    go_enter Try.func15, Try.ntmps15
    go_wp2_with fail
    generalize ((w.alloc (.cells #[.string key, .slice ao L.length cap] 24)).alloc (.cells #[.string key, .slice ao' M.length cap'] 24)) = W0 at *
    generalize w.heap.size = g at *
    obtain ⟨x0, x1, -⟩ := q0.cells
    obtain ⟨z0, z1, -⟩ := q1.cells
    refine ya.mono ?_
    rintro e w1 ⟨rfl, k1⟩
    have K1 := kA.trans k1
    replace q0 := q0.keep0 k1
    replace q1 := q1.keep0 k1
    have yb := yb _ K1
    clear ya k1 kA x0 x1 z0 z1
    obtain ⟨x0, x1, -⟩ := q0.cells
    obtain ⟨z0, z1, -⟩ := q1.cells
    go_wp2_with fail
    refine yb.mono ?_
    rintro e w2 ⟨rfl, k2⟩
    have K2 := K1.trans k2
    replace q0 := q0.keep0 k2
    replace q1 := q1.keep0 k2
    clear yb K1 x0 x1 z0 z1
    obtain ⟨x0, x1, -⟩ := q0.cells
    obtain ⟨z0, z1, -⟩ := q1.cells
    go_wp2
    go_ret
    exact ⟨rfl, K2⟩
  rw [decide_eq_true c4, Bool.true_and]
  have j1 : ((L.length : Int) == (M.length : Int)) = true := beq_iff_eq.2 (by omega)
  clear c4
  generalize inAll L M = R at *
  go_enter Try.func15, Try.ntmps15
  go_wp2_with fail
  generalize ((w.alloc (.cells #[.string key, .slice ao L.length cap] 24)).alloc (.cells #[.string key, .slice ao' M.length cap'] 24)) = W0 at *
  generalize w.heap.size = g at *
  obtain ⟨x0, x1, -⟩ := q0.cells
  obtain ⟨z0, z1, -⟩ := q1.cells
  refine ya.mono ?_
  rintro e w1 ⟨rfl, k1⟩
  have K1 := kA.trans k1
  replace q0 := q0.keep0 k1
  replace q1 := q1.keep0 k1
  have yb := yb _ K1
  clear ya k1 kA x0 x1 z0 z1
  obtain ⟨x0, x1, -⟩ := q0.cells
  obtain ⟨z0, z1, -⟩ := q1.cells
  go_wp2_with fail
  refine yb.mono ?_
  rintro e w2 ⟨rfl, k2⟩
  have K2 := K1.trans k2
  replace q0 := q0.keep0 k2
  replace q1 := q1.keep0 k2
  clear yb K1 x0 x1 z0 z1
  obtain ⟨x0, x1, -⟩ := q0.cells
  obtain ⟨z0, z1, -⟩ := q1.cells
  have yw := yw _ K2
  go_wp2_with fail
  refine yw.mono ?_
  rintro e w3 ⟨rfl, k3⟩
  have K3 := K2.trans k3
  clear yw k3 x0 x1 z0 z1
  go_wp2
  go_ret
  exact ⟨rfl, K3⟩
theorem olCode : OlCode := {
  check := check17
  encode := encode17
  decode := decode17
  same := same17
  alike := alike17 }
end Go.Proofs.Ytmllchembkpdkaa
