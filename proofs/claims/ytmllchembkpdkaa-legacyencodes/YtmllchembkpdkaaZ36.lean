/-
  What this seat's claims lean on of the texts Law17.
  Conditions: as each theorem states.
-/
import Derived.WalkKit
import Derived.ProofKit
import Derived.Below
import Derived.Deep.Draws
import Derived.Deep.RegionHeld
import Derived.Test.YtmllchembkpdkaaChecked
import Derived.OpenShut
import Derived.ShutString
import Derived.WalkSpells
import Derived.WalkLawsBesides
import Derived.Deep.QuietTactic
import Derived.BigQuiet
import Derived.Laws.Bits64b
import Derived.PlainAid
import Derived.Lib.AppendStr
import Derived.Deep.AppendLies
import Derived.Laws.IdiomStrings
import Derived.Laws.BytesArg
import Derived.Deep.RegionWith
import Derived.Laws.AppendOwn
import Derived.Deep.DeepAppendWide
import Derived.Deep.Upon
import Derived.Maps.AppendAt
import Derived.Deep.Slices
import Derived.Test.YtmllchembkpdkaaZ32
import Derived.Test.YtmllchembkpdkaaZ27
namespace Go.Proofs.Ytmllchembkpdkaa
open Go.RowKit
structure Ok17 (key : ByteArray) (L : List Po) : Prop where
  key : key.size ≤ 1000000
  len : L.length ≤ 100
  sib : ∀ p ∈ L, p.x.c.length ≤ 10000 ∧ FitsOs p.x
  val : ∀ p ∈ L, p.x.v.size ≤ 1000000
theorem Ok17.u {key : ByteArray} {L : List Po} (h : Ok17 key L) : ∀ x ∈ L.map Po.x, osU x := fun x hx => by
  obtain ⟨p, hp, rfl⟩ := List.mem_map.1 hx
  exact fun y hy => ((h.sib p hp).2.vec.2 y hy).2
def ROlE (p : Ol × Int) (w : World) (e : Ending) (w' : World) : Prop := ∃ ao cap L, e = .returned (.tuple #[.agg #[.string p.1.key, .slice ao L.length cap], .int .i64 p.2]) ∧ L.map Po.x = p.1.l ∧ L.length ≤ cap ∧ cap ≤ maxLen ∧ PosAt w' ao L ∧ Keep0 w w'
theorem ROlE.bare {p : Ol × Int} {w w' : World} {e : Ending} {E : Int} (hp : p = (zOl, E)) (h : e = .returned (.tuple #[.agg #[.string ⟨#[]⟩, .slice none 0 0], .int .i64 E])) (h3 : Keep0 w w') : ROlE p w e w' := by
  subst hp
  exact ⟨none, 0, [], h, rfl, Nat.le_refl _, Nat.zero_le _, PosAt.nil _ _, h3⟩
structure OlCode : Prop where
  check : ∀ (w : World) (key : ByteArray) (ao : Option Addr) (cap : Nat) (L : List Po), Ok17 key L → L.length ≤ cap → cap ≤ maxLen → PosAt w ao L → Calls Try.prog 11 #[.agg #[.string key, .slice ao L.length cap]] w fun e w' => e = .returned (.int .i64 (olCheck ⟨key, L.map Po.x⟩)) ∧ Keep0 w w'
  encode : ∀ (w : World) (key : ByteArray) (ao : Option Addr) (cap : Nat) (L : List Po), Ok17 key L → L.length ≤ cap → cap ≤ maxLen → PosAt w ao L → Calls Try.prog 9 #[.agg #[.string key, .slice ao L.length cap]] w fun e w' => e = .returned (.tuple #[.string (encL ⟨key, L.map Po.x⟩).1, .int .i64 (encL ⟨key, L.map Po.x⟩).2]) ∧ Keep0 w w'
  decode : ∀ (w : World) (s : ByteArray), s.size ≤ 1000000 → Calls Try.prog 17 #[.string s] w (ROlE (decL s) w)
  same : ∀ (w : World) (key : ByteArray) (ao : Option Addr) (cap : Nat) (L : List Po) (key' : ByteArray) (ao' : Option Addr) (cap' : Nat) (L' : List Po), Ok17 key L → L.length ≤ cap → cap ≤ maxLen → PosAt w ao L → Ok17 key' L' → L'.length ≤ cap' → cap' ≤ maxLen → PosAt w ao' L' → Calls Try.prog 13 #[.agg #[.string key, .slice ao L.length cap], .agg #[.string key', .slice ao' L'.length cap']] w fun e w' => e = .returned (.bool (olSame ⟨key, L.map Po.x⟩ ⟨key', L'.map Po.x⟩)) ∧ Keep0 w w'
  alike : ∀ (w : World) (key : ByteArray) (ao : Option Addr) (cap : Nat) (L : List Po) (key' : ByteArray) (ao' : Option Addr) (cap' : Nat) (L' : List Po), Ok17 key L → L.length ≤ cap → cap ≤ maxLen → PosAt w ao L → Ok17 key' L' → L'.length ≤ cap' → cap' ≤ maxLen → PosAt w ao' L' → Calls Try.prog 15 #[.agg #[.string key, .slice ao L.length cap], .agg #[.string key', .slice ao' L'.length cap']] w fun e w' => e = .returned (.bool (olAlike ⟨key, L.map Po.x⟩ ⟨key', L'.map Po.x⟩)) ∧ Keep0 w w'
def e17 : En := ⟨⟨#[97]⟩, 1⟩
def s17 : Os := ⟨[e17], false, ⟨#[118]⟩⟩
theorem o17_enc : encL ⟨⟨#[107]⟩, [s17]⟩ = (⟨#[1, 107, 1, 1, 1, 97, 1, 0, 1, 118]⟩, 0) := by
  have h1 : vText 1 = ⟨#[1]⟩ := by unfold vText; rw [vEnc_lt (by decide)]; rfl
  have e : eOl ⟨⟨#[107]⟩, [s17]⟩ = ⟨#[1, 107, 1, 1, 1, 97, 1, 0, 1, 118]⟩ := by
    show (vText 1 ++ ⟨#[107]⟩) ++ (vText 1 ++ (((vText 1 ++ (((vText 1 ++ ⟨#[97]⟩) ++ vText 1) ++ ⟨#[]⟩)) ++ (one 0 ++ (vText 1 ++ ⟨#[118]⟩))) ++ ⟨#[]⟩)) = _
    rw [h1]
    rfl
  have hc : olCheck ⟨⟨#[107]⟩, [s17]⟩ = 0 := by rfl
  unfold encL
  rw [if_pos hc, e, if_pos (by decide)]
theorem p17_ok (g : Nat) : Ok17 ⟨#[107]⟩ [⟨s17, some ⟨g, 0, none⟩, 1⟩] := ⟨by show 1 ≤ 1000000; omega, by show 1 ≤ 100; omega, fun p hp => by
  rw [List.mem_singleton.1 hp]
  refine ⟨by show 1 ≤ 10000; omega, ⟨⟨by show 1 ≤ maxLen; unfold maxLen; omega, fun x hx => ?_⟩, by show 1 ≤ maxLen; unfold maxLen; omega⟩⟩
  rw [List.mem_singleton.1 hx]
  exact ⟨by show 1 ≤ maxLen; unfold maxLen; omega, by show 1 < 18446744073709551616; omega⟩, fun p hp => by
  rw [List.mem_singleton.1 hp]
  show 1 ≤ 1000000
  omega⟩
set_option maxRecDepth 100000 in
set_option maxHeartbeats 8000000 in
theorem awake17 (V : OlCode) (w : World) : Calls Try.prog 7 #[] w fun e w' => e = .returned (.bool true) ∧ Keep0 w w' := by
  have kA : Keep0 w ((w.alloc (.cells #[.string ⟨#[97]⟩, .int .u64 1] 44)).alloc (.cells #[.slice (some ⟨w.heap.size, 0, none⟩) 1 1, .bool false, .string ⟨#[118]⟩] 47)) := ((Keep.refl _ w).alloc _).alloc _
  have k2 : Keep0 (w.alloc (.cells #[.string ⟨#[97]⟩, .int .u64 1] 44)) ((w.alloc (.cells #[.string ⟨#[97]⟩, .int .u64 1] 44)).alloc (.cells #[.slice (some ⟨w.heap.size, 0, none⟩) 1 1, .bool false, .string ⟨#[118]⟩] 47)) := (Keep.refl _ _).alloc _
  have hE : EnsAt (w.alloc (.cells #[.string ⟨#[97]⟩, .int .u64 1] 44)) (some ⟨w.heap.size, 0, none⟩) [e17] := by
    intro i hi
    obtain rfl : i = 0 := by have h : i < 1 := hi; omega
    exact ⟨w.heap.size, 0, rfl, cell_alloc w 44 rfl, cell_alloc w 44 rfl⟩
  have hS : PosAt ((w.alloc (.cells #[.string ⟨#[97]⟩, .int .u64 1] 44)).alloc (.cells #[.slice (some ⟨w.heap.size, 0, none⟩) 1 1, .bool false, .string ⟨#[118]⟩] 47)) (some ⟨w.heap.size + 1, 0, none⟩) [⟨s17, some ⟨w.heap.size, 0, none⟩, 1⟩] := by
    refine ⟨?_, fun p hp => ?_⟩
    · have := po_new (w.alloc (.cells #[.string ⟨#[97]⟩, .int .u64 1] 44)) 47 ⟨s17, some ⟨w.heap.size, 0, none⟩, 1⟩
      rw [World.size_alloc] at this
      exact this
    · rw [List.mem_singleton.1 hp]
      exact hE.keep0 k2
  have y := V.encode _ ⟨#[107]⟩ (some ⟨w.heap.size + 1, 0, none⟩) 1 _ (p17_ok w.heap.size) (Nat.le_refl _) (by unfold maxLen; omega) hS
  have he := o17_enc
  have hm : [(⟨s17, some ⟨w.heap.size, 0, none⟩, 1⟩ : Po)].map Po.x = [s17] := rfl
  rw [hm, he] at y
  have y : Calls Try.prog 9 #[.agg #[.string ⟨#[107]⟩, .slice (some ⟨w.heap.size + 1, 0, none⟩) 1 1]] ((w.alloc (.cells #[.string ⟨#[97]⟩, .int .u64 1] 44)).alloc (.cells #[.slice (some ⟨w.heap.size, 0, none⟩) 1 1, .bool false, .string ⟨#[118]⟩] 47)) fun e w' => e = .returned (.tuple #[.string ⟨#[1, 107, 1, 1, 1, 97, 1, 0, 1, 118]⟩, .int .i64 0]) ∧ Keep0 ((w.alloc (.cells #[.string ⟨#[97]⟩, .int .u64 1] 44)).alloc (.cells #[.slice (some ⟨w.heap.size, 0, none⟩) 1 1, .bool false, .string ⟨#[118]⟩] 47)) w' := y
  clear hS hE k2 he hm
  go_enter Try.func7, Try.ntmps7
  go_wp2_with fail
  refine y.mono ?_
  rintro e w1 ⟨rfl, k1⟩
  clear y
  have K := kA.trans k1
  clear kA k1
  go_wp2
  go_ret
  exact ⟨rfl, K⟩
theorem great_ok17 {key : ByteArray} {L : List Po} (hf : ∀ p ∈ L, FitsOs p.x) (h : olGreat ⟨key, L.map Po.x⟩ = false) : Ok17 key L ∧ L.length ≤ 20 := by
  obtain ⟨h1, h2, h3⟩ := olGreat_no h
  have h1 : key.size ≤ 200 := h1
  have h2 : (L.map Po.x).length ≤ 20 := h2
  rw [List.length_map] at h2
  refine ⟨⟨by omega, by omega, fun p hp => ⟨?_, hf p hp⟩, fun p hp => ?_⟩, h2⟩
  · have := (great_no (h3 p.x (List.mem_map.2 ⟨p, hp, rfl⟩)).1).1
    omega
  · have := (h3 p.x (List.mem_map.2 ⟨p, hp, rfl⟩)).2
    omega
end Go.Proofs.Ytmllchembkpdkaa
