/-
  What this seat's claims lean on of the texts Law18.
  Conditions: as each theorem states.
-/
import Derived.WalkKit
import Derived.ProofKit
import Derived.Below
import Derived.Deep.Draws
import Derived.Deep.RegionHeld
import Derived.Test.YtoefibkhlhmlfaaGreatChecked
import Derived.OpenShut
import Derived.ShutString
import Derived.WalkSpells
import Derived.WalkLawsBesides
import Derived.Deep.QuietTactic
import Derived.BigQuiet
import Derived.Laws.Bits64b
import Derived.PlainAid
import Derived.Lib.AppendStr
import Derived.Deep.AppendLies
import Derived.Laws.IdiomStrings
import Derived.Laws.BytesArg
import Derived.Deep.RegionWith
import Derived.Laws.AppendOwn
import Derived.Deep.DeepAppendWide
import Derived.Deep.Upon
import Derived.Maps.AppendAt
import Derived.Deep.Slices
import Derived.Laws.Rows
import Derived.Deep.CutRange
import Derived.Deep.RegionLaw
import Derived.Test.YtoefibkhlhmlfaaGreatY39
namespace Go.Proofs.YtoefibkhlhmlfaaGreat
open Go.RowKit
structure UpR : Prop where
  up : ∀ (w : World) (key : ByteArray) (ao : Option Addr) (cap : Nat) (L : List Po), Ok17 key L → L.length ≤ cap → cap ≤ maxLen → PosAt w ao L → Calls Tryz.prog 9 #[.agg #[.string key, .slice ao L.length cap]] w (RObA (oUp ⟨key, L.map Po.x⟩) w)
  read : ∀ (w : World) (v : Int) (s : ByteArray), (Lit.int .u8 v).wf = true → s.size ≤ 1000000 → Calls Tryz.prog 23 #[.int .u8 v, .string s] w (RObA (oRead v s) w)
theorem okOl_ok18 {o : Ol} (h : okOl o) {L : List Po} (hL : L.map Po.x = o.l) : Ok17 o.key L := by
  obtain ⟨h1, h2, _⟩ := olCheck_zero.1 h.1
  obtain ⟨_, h3, _, h4⟩ := outS_zero.1 h1
  have hl : L.length = o.l.length := by rw [← hL, List.length_map]
  have hm : ∀ p ∈ L, okOs p.x := fun p hp => by
    have hm : p.x ∈ o.l := by rw [← hL]; exact List.mem_map.2 ⟨p, hp, rfl⟩
    exact okOs_U.2 ⟨h2 _ hm, h.2 _ hm⟩
  refine ⟨by omega, by omega, fun p hp => ?_, fun p hp => ?_⟩
  · have := ((check_zero _).1 (hm p hp).1.1).1
    exact ⟨by omega, okOs_fit (hm p hp)⟩
  · have := (hm p hp).2
    omega
theorem up_fit18 {o : Ol} (hu : ∀ x ∈ o.l, osU x) : Ok16 (oUp o).1 := by
  by_cases h : olCheck o = 0
  · exact (up_ok ⟨h, hu⟩).ok
  · rw [up_bad h]; exact zOb_ok
theorem decO_fit18 (s : ByteArray) : Ok16 (decO s).1 := by
  by_cases h : (decO s).2 = 0
  · exact (ob_codec.dec_zero (z := zOb) h).1.ok
  · have e : (decO s).1 = zOb := dec_no h
    rw [e]
    exact zOb_ok
theorem read_fit18 (v : Int) (s : ByteArray) : Ok16 (oRead v s).1 := by
  unfold oRead
  split
  · exact decO_fit18 s
  · split
    · split
      · rename_i h
        exact up_fit18 (ol_codec.dec_zero (z := zOl) h).1.2
      · exact zOb_ok
    · exact zOb_ok
def eB18 : En := ⟨⟨#[98]⟩, 1⟩
def eA18 : En := ⟨⟨#[97]⟩, 2⟩
def sB18 : Os := ⟨[eB18], false, ⟨#[]⟩⟩
def sA18 : Os := ⟨[eA18], false, ⟨#[]⟩⟩
def o18 : Ol := ⟨⟨#[107]⟩, [sB18, sA18]⟩
theorem o18_ok : okOl o18 := ⟨by rfl, fun x hx => by
  have h : x = sB18 ∨ x = sA18 := by simpa [o18] using hx
  rcases h with rfl | rfl <;> (intro y hy; rw [List.mem_singleton.1 hy]; show _ < 18446744073709551616; decide)⟩
theorem o18_up : oUp o18 = (⟨⟨#[107]⟩, [upS sA18, upS sB18]⟩, 0) := by
  have h1 : vText 1 = ⟨#[1]⟩ := by unfold vText; rw [vEnc_lt (by decide)]; rfl
  have h2 : vText 2 = ⟨#[2]⟩ := by unfold vText; rw [vEnc_lt (by decide)]; rfl
  have a : kb (upS sA18) = ⟨#[1, 1, 97, 2, 0]⟩ := by
    show (vText 1 ++ (((vText 1 ++ ⟨#[97]⟩) ++ vText 2) ++ ⟨#[]⟩)) ++ (one 0 ++ ⟨#[]⟩) = _
    rw [h1, h2]
    rfl
  have b : kb (upS sB18) = ⟨#[1, 1, 98, 1, 0]⟩ := by
    show (vText 1 ++ (((vText 1 ++ ⟨#[98]⟩) ++ vText 1) ++ ⟨#[]⟩)) ++ (one 0 ++ ⟨#[]⟩) = _
    rw [h1]
    rfl
  have hb : bl (kb (upS sA18)) (kb (upS sB18)) = true := by rw [a, b]; rfl
  rw [up_eq o18_ok]
  show ((⟨⟨#[107]⟩, ins (upS sB18) [upS sA18]⟩ : Ob), (0 : Int)) = _
  have e : ins (upS sB18) [upS sA18] = [upS sA18, upS sB18] := by
    unfold ins
    rw [if_pos hb]
    rfl
  rw [e]
theorem p18_ok (g g' : Nat) : Ok17 ⟨#[107]⟩ [⟨sB18, some ⟨g, 0, none⟩, 1⟩, ⟨sA18, some ⟨g', 0, none⟩, 1⟩] := okOl_ok18 (o := o18) o18_ok rfl
set_option maxRecDepth 100000 in
set_option maxHeartbeats 8000000 in
theorem awake18 (V : UpR) (w : World) : Calls Tryz.prog 6 #[] w fun e w' => e = .returned (.bool true) ∧ Keep0 w w' := by
  have kA : Keep0 w (((w.alloc (.cells #[.string ⟨#[98]⟩, .int .u64 1] 53)).alloc (.cells #[.string ⟨#[97]⟩, .int .u64 2] 53)).alloc (.cells #[.slice (some ⟨w.heap.size, 0, none⟩) 1 1, .bool false, .string ⟨#[]⟩, .slice (some ⟨w.heap.size + 1, 0, none⟩) 1 1, .bool false, .string ⟨#[]⟩] 56)) := (((Keep.refl _ w).alloc _).alloc _).alloc _
  have k3 : Keep0 ((w.alloc (.cells #[.string ⟨#[98]⟩, .int .u64 1] 53)).alloc (.cells #[.string ⟨#[97]⟩, .int .u64 2] 53)) (((w.alloc (.cells #[.string ⟨#[98]⟩, .int .u64 1] 53)).alloc (.cells #[.string ⟨#[97]⟩, .int .u64 2] 53)).alloc (.cells #[.slice (some ⟨w.heap.size, 0, none⟩) 1 1, .bool false, .string ⟨#[]⟩, .slice (some ⟨w.heap.size + 1, 0, none⟩) 1 1, .bool false, .string ⟨#[]⟩] 56)) := (Keep.refl _ _).alloc _
  have k2 : Keep0 (w.alloc (.cells #[.string ⟨#[98]⟩, .int .u64 1] 53)) ((w.alloc (.cells #[.string ⟨#[98]⟩, .int .u64 1] 53)).alloc (.cells #[.string ⟨#[97]⟩, .int .u64 2] 53)) := (Keep.refl _ _).alloc _
  have hS : PosAt (((w.alloc (.cells #[.string ⟨#[98]⟩, .int .u64 1] 53)).alloc (.cells #[.string ⟨#[97]⟩, .int .u64 2] 53)).alloc (.cells #[.slice (some ⟨w.heap.size, 0, none⟩) 1 1, .bool false, .string ⟨#[]⟩, .slice (some ⟨w.heap.size + 1, 0, none⟩) 1 1, .bool false, .string ⟨#[]⟩] 56)) (some ⟨w.heap.size + 2, 0, none⟩) [⟨sB18, some ⟨w.heap.size, 0, none⟩, 1⟩, ⟨sA18, some ⟨w.heap.size + 1, 0, none⟩, 1⟩] := by
    refine ⟨?_, fun p hp => ?_⟩
    · have hc : ∀ i v, (#[.slice (some ⟨w.heap.size, 0, none⟩) 1 1, .bool false, .string ⟨#[]⟩, .slice (some ⟨w.heap.size + 1, 0, none⟩) 1 1, .bool false, .string ⟨#[]⟩] : Array Value)[i]? = some v → (((w.alloc (.cells #[.string ⟨#[98]⟩, .int .u64 1] 53)).alloc (.cells #[.string ⟨#[97]⟩, .int .u64 2] 53)).alloc (.cells #[.slice (some ⟨w.heap.size, 0, none⟩) 1 1, .bool false, .string ⟨#[]⟩, .slice (some ⟨w.heap.size + 1, 0, none⟩) 1 1, .bool false, .string ⟨#[]⟩] 56)).cell? ⟨w.heap.size + 2, i, none⟩ = some v := by
        intro i v h
        have := cell_alloc ((w.alloc (.cells #[.string ⟨#[98]⟩, .int .u64 1] 53)).alloc (.cells #[.string ⟨#[97]⟩, .int .u64 2] 53)) 56 h
        rw [World.size_alloc, World.size_alloc] at this
        exact this
      intro i hi
      refine ⟨w.heap.size + 2, 0, rfl, fun j u hu => ?_⟩
      have hi : i < 2 := hi
      have h2 : i = 0 ∨ i = 1 := by omega
      rcases h2 with rfl | rfl
      · match j, hu with
        | 0, hu => exact hc 0 u hu
        | 1, hu => exact hc 1 u hu
        | 2, hu => exact hc 2 u hu
        | j + 3, hu => cases hu
      · match j, hu with
        | 0, hu => exact hc 3 u hu
        | 1, hu => exact hc 4 u hu
        | 2, hu => exact hc 5 u hu
        | j + 3, hu => cases hu
    · have h : p = ⟨sB18, some ⟨w.heap.size, 0, none⟩, 1⟩ ∨ p = ⟨sA18, some ⟨w.heap.size + 1, 0, none⟩, 1⟩ := by simpa using hp
      rcases h with rfl | rfl
      · exact ((en_new w 53 eB18).keep0 k2).keep0 k3
      · have h := en_new (w.alloc (.cells #[.string ⟨#[98]⟩, .int .u64 1] 53)) 53 eA18
        rw [World.size_alloc] at h
        exact h.keep0 k3
  have y := V.up (((w.alloc (.cells #[.string ⟨#[98]⟩, .int .u64 1] 53)).alloc (.cells #[.string ⟨#[97]⟩, .int .u64 2] 53)).alloc (.cells #[.slice (some ⟨w.heap.size, 0, none⟩) 1 1, .bool false, .string ⟨#[]⟩, .slice (some ⟨w.heap.size + 1, 0, none⟩) 1 1, .bool false, .string ⟨#[]⟩] 56)) ⟨#[107]⟩ (some ⟨w.heap.size + 2, 0, none⟩) 2 [⟨sB18, some ⟨w.heap.size, 0, none⟩, 1⟩, ⟨sA18, some ⟨w.heap.size + 1, 0, none⟩, 1⟩] (p18_ok _ _) (Nat.le_refl _) (by unfold maxLen; omega) hS
  have he : oUp ⟨⟨#[107]⟩, [⟨sB18, some ⟨w.heap.size, 0, none⟩, 1⟩, ⟨sA18, some ⟨w.heap.size + 1, 0, none⟩, 1⟩].map Po.x⟩ = (⟨⟨#[107]⟩, [upS sA18, upS sB18]⟩, 0) := o18_up
  rw [he] at y
  have y : Calls Tryz.prog 9 #[.agg #[.string ⟨#[107]⟩, .slice (some ⟨w.heap.size + 2, 0, none⟩) 2 2]] (((w.alloc (.cells #[.string ⟨#[98]⟩, .int .u64 1] 53)).alloc (.cells #[.string ⟨#[97]⟩, .int .u64 2] 53)).alloc (.cells #[.slice (some ⟨w.heap.size, 0, none⟩) 1 1, .bool false, .string ⟨#[]⟩, .slice (some ⟨w.heap.size + 1, 0, none⟩) 1 1, .bool false, .string ⟨#[]⟩] 56)) fun e w' => ∃ ao cap L, e = .returned (.tuple #[.agg #[.string ⟨#[107]⟩, .slice ao 2 cap], .int .i64 0]) ∧ L.map Pl.x = [upS sA18, upS sB18] ∧ PlsAt w' ao L ∧ (L.length ≤ cap ∧ cap ≤ maxLen) ∧ Keep0 (((w.alloc (.cells #[.string ⟨#[98]⟩, .int .u64 1] 53)).alloc (.cells #[.string ⟨#[97]⟩, .int .u64 2] 53)).alloc (.cells #[.slice (some ⟨w.heap.size, 0, none⟩) 1 1, .bool false, .string ⟨#[]⟩, .slice (some ⟨w.heap.size + 1, 0, none⟩) 1 1, .bool false, .string ⟨#[]⟩] 56)) w' := y
  clear hS he k2 k3
  go_enter Tryz.func6, Tryz.ntmps6
  go_wp2_with fail
  generalize (((w.alloc (.cells #[.string ⟨#[98]⟩, .int .u64 1] 53)).alloc (.cells #[.string ⟨#[97]⟩, .int .u64 2] 53)).alloc (.cells #[.slice (some ⟨w.heap.size, 0, none⟩) 1 1, .bool false, .string ⟨#[]⟩, .slice (some ⟨w.heap.size + 1, 0, none⟩) 1 1, .bool false, .string ⟨#[]⟩] 56)) = W0 at *
  refine y.mono ?_
  rintro e w1 ⟨ao, cap, L, rfl, hL, hP, -, k1⟩
  have K1 := kA.trans k1
  have hs := hP.sibs
  rw [hL] at hs
  obtain ⟨b, off, vo, vc, po, pc, eao, s1, s2⟩ := hs 0 (by show 0 < 2; omega)
  subst eao
  obtain ⟨b2, off2, evo, x0, x1⟩ := s2.ens 0 (by show 0 < 1; omega)
  subst evo
  have kB : Keep0 w1 (w1.alloc (.cells #[.string ⟨#[107]⟩, .slice (some ⟨b, off, none⟩) 2 cap] 27)) := (Keep.refl _ _).alloc _
  obtain ⟨q0, q1, qf0, qf1⟩ := (DAt.new w1 27 (.string ⟨#[107]⟩) (.slice (some ⟨b, off, none⟩) 2 cap)).cells
  have c0 : (w1.alloc (.cells #[.string ⟨#[107]⟩, .slice (some ⟨b, off, none⟩) 2 cap] 27)).cell? ⟨b, off, none⟩ = some (.slice (some ⟨b2, off2, none⟩) 1 vc) := kB.cell s1.c0 (fun f => f)
  have c1 : (w1.alloc (.cells #[.string ⟨#[107]⟩, .slice (some ⟨b, off, none⟩) 2 cap] 27)).cell? ⟨b2, off2, none⟩ = some (.string ⟨#[97]⟩) := kB.cell x0 (fun f => f)
  have K2 := K1.trans kB
  clear y kA k1 K1 hs hP hL s1 s2 x0 x1 kB
  go_wp2
  go_ret
  exact ⟨by rfl, K2⟩
end Go.Proofs.YtoefibkhlhmlfaaGreat
