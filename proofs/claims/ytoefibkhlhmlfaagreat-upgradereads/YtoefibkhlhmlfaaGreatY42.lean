/-
  What this seat's claims lean on of the texts Reads18, UpA.
  Conditions: as each theorem states.
-/
import Derived.WalkKit
import Derived.ProofKit
import Derived.Below
import Derived.Deep.Draws
import Derived.Deep.RegionHeld
import Derived.Test.YtoefibkhlhmlfaaGreatChecked
import Derived.OpenShut
import Derived.ShutString
import Derived.WalkSpells
import Derived.WalkLawsBesides
import Derived.Deep.QuietTactic
import Derived.BigQuiet
import Derived.Laws.Bits64b
import Derived.PlainAid
import Derived.Lib.AppendStr
import Derived.Deep.AppendLies
import Derived.Laws.IdiomStrings
import Derived.Laws.BytesArg
import Derived.Deep.RegionWith
import Derived.Laws.AppendOwn
import Derived.Deep.DeepAppendWide
import Derived.Deep.Upon
import Derived.Maps.AppendAt
import Derived.Deep.Slices
import Derived.Laws.Rows
import Derived.Deep.CutRange
import Derived.Deep.RegionLaw
import Derived.Test.YtoefibkhlhmlfaaGreatY40
import Derived.Test.YtoefibkhlhmlfaaGreatY1
import Derived.Test.YtoefibkhlhmlfaaGreatY41
import Derived.Test.YtoefibkhlhmlfaaGreatY27
namespace Go.Proofs.YtoefibkhlhmlfaaGreat
open Go.RowKit
set_option maxRecDepth 100000 in
set_option maxHeartbeats 8000000 in
theorem upgradeReads_law (V : UpR) (w : World) (v : Int) (hv : (Lit.int .u8 v).wf = true) (s : ByteArray) (hs : s.size ≤ maxLen) :
    Calls Tryz.prog 5 #[.int .u8 v, .string s] w fun e w' => e = .returned (.bool true) ∧ Keep0 w w' := by
  by_cases hl : (s.size : Int) ≤ 3000
  case neg =>
    have i0 : (s.size : Int) ≤ 9223372036854775807 := by unfold maxLen at hs; omega
    have i1 : (3000 : Int) < s.size := by omega
    clear hv
    go_enter Tryz.func5, Tryz.ntmps5
    go_wp2_with fail
    refine (awake18 V w).mono ?_
    rintro e w1 ⟨rfl, K1⟩
    go_wp2
    go_ret
    exact ⟨rfl, K1⟩
  have i0 : (s.size : Int) ≤ 9223372036854775807 := by omega
  have i1 : ¬ (3000 : Int) < s.size := by omega
  have yd := fun W => V.read W v s hv (by omega)
  have yr := fun W => rread18 W v hv s hs
  have ok := (read_fit18 v s).fit
  generalize oRead v s = U at *
  have ys := fun W ao cap bo cb (h : SibsAt W ao U.1.l) (h' : SibsAt W bo U.1.l) => rsame16 W ao cap U.1 bo cb U.1 ok ok h h'
  rw [oSame_iff.2 rfl] at ys
  clear hv ok hs hl
  go_enter Tryz.func5, Tryz.ntmps5
  go_wp2_with fail
  refine (awake18 V w).mono ?_
  rintro e w1 ⟨rfl, K1⟩
  go_wp2_with fail
  refine (yd w1).mono ?_
  rintro e w2 ⟨ao, cap, L, rfl, hL, hP, -, k2⟩
  have x1 := hP.sibs
  rw [hL] at x1
  have K2 := K1.trans k2
  have kB : Keep0 w2 (w2.alloc (.cells #[.string U.1.key, .slice ao U.1.l.length cap] 27)) := (Keep.refl _ _).alloc _
  have hX := DAt.new w2 27 (.string U.1.key) (.slice ao U.1.l.length cap)
  have x1 := x1.keep0 kB
  have K3 := K2.trans kB
  clear K1 k2 yd K2 kB hP hL
  go_wp2_with fail
  generalize (w2.alloc (.cells #[.string U.1.key, .slice ao U.1.l.length cap] 27)) = w3 at *
  obtain ⟨g1, hg1⟩ : ∃ g1, w2.heap.size = g1 := ⟨_, rfl⟩
  rw [hg1] at hX ⊢
  clear hg1
  refine (yr w3).mono ?_
  rintro e w4 ⟨bo, cb, L2, rfl, hL2, hP2, -, k4⟩
  have y1 := hP2.sibs
  rw [hL2] at y1
  have K4 := K3.trans k4
  have kC : Keep0 w4 (w4.alloc (.cells #[.string U.1.key, .slice bo U.1.l.length cb] 27)) := (Keep.refl _ _).alloc _
  have hZ := DAt.new w4 27 (.string U.1.key) (.slice bo U.1.l.length cb)
  have hX := (hX.keep0 k4).keep0 kC
  have x1 := (x1.keep0 k4).keep0 kC
  have y1 := y1.keep0 kC
  have K5 := K4.trans kC
  clear K3 k4 yr K4 kC hP2 hL2
  obtain ⟨a0, a1, af0, af1⟩ := hX.cells
  obtain ⟨b0, b1, bf0, bf1⟩ := hZ.cells
  go_wp2_with fail
  generalize (w4.alloc (.cells #[.string U.1.key, .slice bo U.1.l.length cb] 27)) = w5 at *
  generalize w4.heap.size = g2 at *
  refine (ys w5 ao cap bo cb x1 y1).mono ?_
  rintro e w6 ⟨rfl, k6⟩
  have K6 := K5.trans k6
  clear K5 k6 x1 y1 hX hZ a0 a1 af0 af1 b0 b1 bf0 bf1 ys
  go_wp2
  go_ret
  exact ⟨by simp, K6⟩
end Go.Proofs.YtoefibkhlhmlfaaGreat
namespace Go.Proofs.YtoefibkhlhmlfaaGreat
open Go.RowKit
def RPlC (v : List En) (w : World) (e : Ending) (w' : World) : Prop := ∃ bo c, e = .returned (.agg #[.slice bo v.length c, .bool false, .string ⟨#[]⟩, .int .u64 0]) ∧ EnsAt w' bo v ∧ (∀ g off m, bo = some ⟨g, off, m⟩ → w.heap.size ≤ g) ∧ Keep0 w w'
set_option maxRecDepth 100000 in
set_option maxHeartbeats 4000000 in
theorem plainC18 (w : World) (ao : Option Addr) (cap : Nat) (v : List En) (hv : v.length ≤ 10000) (hc : EnsAt w ao v) :
    Calls Tryz.prog 30 #[.slice ao v.length cap] w (RPlC v w) := by
  have HP : Hid (∀ (e : Ending) (W : World) (bo : Option Addr) (c : Nat), e = .returned (.agg #[.slice bo v.length c, .bool false, .string ⟨#[]⟩, .int .u64 0]) → EnsAt W bo v → (∀ g off m, bo = some ⟨g, off, m⟩ → w.heap.size ≤ g) → Keep0 w W → RPlC v w e W) := fun e W bo c h1 h2 h3 h4 => ⟨bo, c, h1, h2, h3, h4⟩
  have kA : Keep0 w (w.alloc (.cells #[.slice none 0 0, .bool false, .string ⟨#[]⟩, .int .u64 0] 58)) := (Keep.refl _ w).alloc _
  have qA := QAt.new w 58 (.slice none 0 0) (.bool false) (.string ⟨#[]⟩) (.int .u64 0)
  have hz : (w.alloc (.cells #[.slice none 0 0, .bool false, .string ⟨#[]⟩, .int .u64 0] 58)).heap.size = w.heap.size + 1 := World.size_alloc _ _
  have hE := hc.keep0 kA
  have hown : (w.alloc (.cells #[.slice none 0 0, .bool false, .string ⟨#[]⟩, .int .u64 0] 58)).ownsRow (w.heap.size + 1) 53 2 (.slice none 0 0) ([] : List En).length (enCells []) := ⟨rfl, .inl ⟨rfl, rfl⟩⟩
  have hb : w.heap.size + 1 ≤ (w.alloc (.cells #[.slice none 0 0, .bool false, .string ⟨#[]⟩, .int .u64 0] 58)).heap.size := by omega
  have hlen : ([] : List En).length + v.length ≤ 1000000 := by show 0 + v.length ≤ 1000000; omega
  clear hc hz
  go_enter Tryz.func30, Tryz.ntmps30
  go_wp2_with (at_builtin; refine wpList_append_ens (l := []) rfl _ _ rfl rfl rfl hown hE hb hlen ?_)
  intro va w2 hxa hga
  generalize (w.alloc (.cells #[.slice none 0 0, .bool false, .string ⟨#[]⟩, .int .u64 0] 58)) = W0 at *
  have k2 : Keep0 W0 w2 := (Keep.refl _ W0).ownGrown hga (fun g hg => by cases hg)
  obtain ⟨vo, vc, rfl, hEv, hVb, _⟩ := ens_of_row hxa
  have q2 := qA.keep0 k2
  have HQ : Hid (QAt w2 w.heap.size (.slice none 0 0) (.bool false) (.string ⟨#[]⟩) (.int .u64 0)) := q2
  have K2 := kA.trans k2
  have HE2 : Hid (EnsAt w2 vo v) := hEv
  have HVb : Hid (∀ b off m, vo = some ⟨b, off, m⟩ → w.heap.size + 1 ≤ b) := hVb
  have HK2 : Hid (Keep0 w w2) := K2
  obtain ⟨c0, c1, c2, c3, f0, f1, f2, f3⟩ := q2.cells
  clear hxa hga kA qA hE hown hb hlen k2 q2 hEv hVb K2
  go_wp2_with fail
  refine bodyPost_ret (retCk rfl _ _ _ rfl (HQ.out.put _ _ _ _)) rfl ?_
  refine HP.out _ _ vo vc rfl (HE2.out.keep (put4_keep w2 _ _ _ _ _) (fun b off m e f => by have h1 := HVb.out b off m e; have h2 : b = w.heap.size := f; omega)) (fun g off m e => by have := HVb.out g off m e; omega) ?_
  exact HK2.out.step (put4_keep w2 _ _ _ _ _) (fun i hi f => by have h2 : i = w.heap.size := f; omega)
end Go.Proofs.YtoefibkhlhmlfaaGreat
